/-
  The contract of sfnt.Put: it answers what the plain function on tables says. No conditions beyond those stated.
-/
import Derived.Test.YtchhjfocanjniaaGreatSfSum
import Derived.Test.YtchhjfocanjniaaGreatGkBuilder
import Derived.Deep.RegionHeld3
namespace Sf
theorem recs_snoc {l : List Tab} {k : Nat} {x : Tab} (h : l[k]? = some x) (pos : Nat) : recs pos (l.take (k + 1)) = recs pos (l.take k) ++ record x (pos + wide l k) := by
  rw [take_snocT h, recs_append]
  simp [recs, wide]
theorem bodies_snoc {l : List Tab} {k : Nat} {x : Tab} (h : l[k]? = some x) : bodies (l.take (k + 1)) = bodies (l.take k) ++ Bn.up x.2 4 := by
  rw [take_snocT h, bodies_append]
  simp [bodies]
theorem recs_le {l : List Tab} (hs : Small l) (pos : Nat) : ∀ k, k ≤ l.length → (recs pos (l.take k)).length ≤ 32 * k
  | 0, _ => by simp [recs]
  | k + 1, hk => by
    obtain ⟨x, hx⟩ := some_at (l := l) (k := k) (by omega)
    have h1 := recs_le hs pos k (by omega)
    have h2 := (hs.at_ hx).1
    rw [recs_snoc hx, List.length_append]
    unfold record
    simp [Bn.bytes_len]
    omega
theorem bodies_le {l : List Tab} (hs : Small l) : ∀ k, k ≤ l.length → (bodies (l.take k)).length ≤ 4004 * k
  | 0, _ => by simp [bodies]
  | k + 1, hk => by
    obtain ⟨x, hx⟩ := some_at (l := l) (k := k) (by omega)
    have h1 := bodies_le hs k (by omega)
    have h2 := (hs.at_ hx).2
    have h3 := Bn.up_len x.2 4
    rw [bodies_snoc hx, List.length_append]
    omega
end Sf
namespace Go.Proofs.YtchhjfocanjniaaGreat
open Go.RowKit

set_option maxHeartbeats 800000 in
theorem sput_ver (v : Int) (l : List Sf.Tab) (u : Value) (w : World) (h : TRow w u l) (hv : Sf.isVer v = false) :
    Calls Tryz.prog 7 #[.int .i64 v, u] w fun e w' => e = strErr ([], 1) ∧ Lo w w' := by
  obtain ⟨p, c, rfl, hlen⟩ := h.form
  have HV := Lib.hid (fun W => isVersion_any v W)
  rw [hv] at HV
  clear h hv
  go_enter Tryz.func7, Tryz.ntmps7
  go_wp2_with fail
  refine (HV.out _).mono ?_
  rintro e w1 ⟨rfl, rfl⟩
  go_wp2_with fail
  go_ret2
  exact ⟨rfl, Lo.refl _⟩

set_option maxHeartbeats 800000 in
theorem sput_many (v : Int) (l : List Sf.Tab) (u : Value) (w : World) (h : TRow w u l) (hv : Sf.isVer v = true) (hm : 64 < l.length) :
    Calls Tryz.prog 7 #[.int .i64 v, u] w fun e w' => e = strErr ([], 1) ∧ Lo w w' := by
  obtain ⟨p, c, rfl, hlen⟩ := h.form
  have HV := Lib.hid (fun W => isVersion_any v W)
  rw [hv] at HV
  clear h hv
  go_enter Tryz.func7, Tryz.ntmps7
  go_wp2_with fail
  refine (HV.out _).mono ?_
  rintro e w1 ⟨rfl, rfl⟩
  go_wp2_with fail
  go_ret2
  exact ⟨rfl, Lo.refl _⟩

set_option maxHeartbeats 800000 in
theorem sput_tags (v : Int) (l : List Sf.Tab) (u : Value) (w : World) (h : TRow w u l) (hv : Sf.isVer v = true) (hm : l.length ≤ 64) (hs : Sf.Small l) (ht : Sf.tagged l = false) :
    Calls Tryz.prog 7 #[.int .i64 v, u] w fun e w' => e = strErr ([], 1) ∧ Lo w w' := by
  have HT := Lib.hid (fun (W : World) (k : Lo w W) => areTagged_any l u W (h.lo k) (fun x hx => by have := (hs.2 x hx).1; omega))
  rw [ht] at HT
  obtain ⟨p, c, rfl, hlen⟩ := h.form
  have HV := Lib.hid (fun W => isVersion_any v W)
  rw [hv] at HV
  clear h hv
  go_enter Tryz.func7, Tryz.ntmps7
  go_wp2_with fail
  refine (HV.out _).mono ?_
  rintro e w1 ⟨rfl, rfl⟩
  go_wp2_with fail
  refine (HT.out _ (Lo.refl _)).mono ?_
  rintro e w1 ⟨rfl, l1⟩
  clear HT
  go_wp2_with fail
  go_ret2
  exact ⟨rfl, l1⟩

set_option maxHeartbeats 4000000 in
theorem sput_ok (v : Int) (l : List Sf.Tab) (u : Value) (w : World) (h : TRow w u l) (hv : Sf.isVer v = true) (hm : l.length ≤ 64) (hs : Sf.Small l) (ht : Sf.tagged l = true) :
    Calls Tryz.prog 7 #[.int .i64 v, u] w fun e w' => e = strErr (Sf.file v l, 0) ∧ Lo w w' := by
  have HT := Lib.hid (fun (W : World) (k : Lo w W) => areTagged_any l u W (h.lo k) (fun x hx => by have := (hs.2 x hx).1; omega))
  rw [ht] at HT
  have HFS := Lib.hid (fun (W : World) (k : Lo w W) => fileSize_any l u W (h.lo k) hs)
  have htot := Sf.total_small hs
  have HH := Lib.hid (fun W => header_any v l.length W (by omega) hv)
  have HRE := Lib.hid (fun W => recordsEnd_any l.length W (by omega))
  have HR := Lib.hid h
  have HS := Lib.hid hs
  generalize hy : Sf.file v l = y
  have HY := Lib.hid hy
  obtain ⟨p, c, rfl, hlen⟩ := h.form
  have HV := Lib.hid (fun W => isVersion_any v W)
  rw [hv] at HV
  have HHL := Lib.hid (Sf.header_len v l.length)
  generalize hhd : Sf.header v l.length = hd at *
  have HHD := Lib.hid hhd
  generalize hn : l.length = n at *
  have HN := Lib.hid hn
  generalize Sf.total l = T at *
  clear h hv hs ht hy hn hlen hhd
  go_enter Tryz.func7, Tryz.ntmps7
  go_wp2_with fail
  refine (HV.out _).mono ?_
  rintro e w1 ⟨rfl, rfl⟩
  go_wp2_with fail
  refine (HT.out _ (Lo.refl _)).mono ?_
  rintro e w2 ⟨rfl, l2⟩
  have HL2 := Lib.hid l2
  clear HT l2 HV
  go_wp2_with fail
  refine (HFS.out _ HL2.out).mono ?_
  rintro e w3 ⟨rfl, l3⟩
  have HL3 := Lib.hid (HL2.out.trans l3)
  clear HFS l3 HL2
  go_wp2_with fail
  generalize hB : w3.heap.size = B
  have HB := Lib.hid (Bld.fresh w3)
  rw [hB] at HB
  have hwB : w.heap.size ≤ B := by have := HL3.out.size; omega
  have HW3 : Hid (B ≤ (w3.alloc (.cells #[.pointer none, .slice none 0 0] 60)).heap.size) := Lib.hid (by simp; omega)
  clear hB
  refine (HH.out _).mono ?_
  rintro e w4 ⟨rfl, l4⟩
  have HL4 := Lib.hid ((HL3.out.alloc _).trans l4)
  have HB4 := Lib.hid (HB.out.lo l4)
  have HBw : Hid (B ≤ w4.heap.size) := Lib.hid (Nat.le_trans HW3.out l4.size)
  clear l4 HH HL3 HB HW3
  go_wp2_with fail
  refine (write_any B B [] hd w4 HB4.out (by rw [HHL.out]; simp) HBw.out).mono ?_
  rintro e w5 ⟨rfl, hb5, lo5, _⟩
  have HB5 := Lib.hid hb5
  have HBw5 := Lib.hid (Nat.le_trans HBw.out lo5.size)
  have HL5 := Lib.hid (HL4.out.below lo5 hwB)
  rw [List.nil_append] at HB5
  clear hb5 lo5 HB4 HBw HL4
  go_wp2_with fail
  refine (HRE.out _).mono ?_
  rintro e w6 ⟨rfl, rfl⟩
  go_wp2_with fail
  go_loopw [7, 9, 38] (fun o _ i W => ∃ k pos : Nat, k ≤ n ∧ i = .int .i64 k ∧ o = .int .i64 pos ∧ Hid (pos = 12 + 16 * n + Sf.wide l k) ∧ Hid (Bld B B (hd ++ Sf.recs (12 + 16 * n) (l.take k)) W) ∧ Hid (Lo w W) ∧ Hid (B ≤ W.heap.size)) (fun _ _ i _ => n - (intOf i).toNat)
  case atStart => exact ⟨0, 12 + 16 * n, Nat.zero_le _, rfl, rfl, Lib.hid (by simp [Sf.wide]), Lib.hid (by simpa [Sf.recs] using HB5.out), HL5, HBw5⟩
  case round =>
    clear HB5 HL5 HBw5
    obtain ⟨k, pos, hk, rfl, rfl, HP, HB6, HL6, HBw6⟩ := hrel
    by_cases hlt : k < n
    · obtain ⟨x, hx⟩ := Sf.some_at (l := l) (k := k) (by rw [HN.out]; exact hlt)
      obtain ⟨b, off, rfl, hc1, hc2⟩ := TRow.at2 (HR.out.lo HL6.out) hx
      have HX := Lib.hid hx
      have hsm := HS.out.at_ hx
      have hpos : pos ≤ 1000000 := by rw [HP.out]; have := Sf.wide_small HS.out k (by rw [HN.out]; exact hk); omega
      have HPL : Hid ((hd ++ Sf.recs (12 + 16 * n) (l.take k)).length ≤ 10000) := Lib.hid (by rw [List.length_append, HHL.out]; have := Sf.recs_le HS.out (12 + 16 * n) k (by rw [HN.out]; exact hk); omega)
      have HPre : Hid (hd ++ Sf.recs (12 + 16 * n) (l.take (k + 1)) = (hd ++ Sf.recs (12 + 16 * n) (l.take k)) ++ Sf.record x pos) := Lib.hid (by rw [Sf.recs_snoc HX.out, ← List.append_assoc, HP.out])
      have HWd := Lib.hid (Sf.wide_snoc hx)
      clear hx
      generalize hd ++ Sf.recs (12 + 16 * n) (l.take k) = pre at *
      have hput := Sf.put_three (Sf.tsum x) pos x.2.length (Sf.tsum_lt x) (by omega) (by omega)
      have hrec : x.1 ++ (Bn.bytes (Sf.tsum x : Nat) 4 ++ Bn.bytes pos 4 ++ Bn.bytes x.2.length 4) = Sf.record x pos := by unfold Sf.record; simp only [List.append_assoc]
      have HSum : Hid (∀ W, TwoAt wr.heap.size 33 (.string ⟨x.1.toArray⟩) (.string ⟨x.2.toArray⟩) W → Calls Tryz.prog 11 #[.agg #[.string ⟨x.1.toArray⟩, .string ⟨x.2.toArray⟩]] W fun e w' => e = .returned (.int .i64 (Sf.tsum x : Nat)) ∧ TwoAt wr.heap.size 33 (.string ⟨x.1.toArray⟩) (.string ⟨x.2.toArray⟩) w' ∧ Lo W w') :=
        Lib.hid (fun W hW => (tsum_any x W (by omega)).mono fun _ _ ⟨h1, h2⟩ => ⟨h1, hW.lo h2, h2⟩)
      have HFld : Hid (∀ W v u, TwoAt wr.heap.size 33 (.string ⟨x.1.toArray⟩) (.string ⟨x.2.toArray⟩) W → Row W v [4, 4, 4] → Row W u [(Sf.tsum x : Nat), (pos : Nat), (x.2.length : Nat)] → Calls Tryz.prog 28 #[v, u] W fun e w' => e = .returned (.string ⟨(Bn.bytes (Sf.tsum x : Nat) 4 ++ Bn.bytes pos 4 ++ Bn.bytes x.2.length 4).toArray⟩) ∧ TwoAt wr.heap.size 33 (.string ⟨x.1.toArray⟩) (.string ⟨x.2.toArray⟩) w' ∧ Lo W w') :=
        Lib.hid (fun W v u hW h1 h2 => (fields_any _ _ v u W h1 h2 (by simp)).mono fun _ _ ⟨h1, h2⟩ => ⟨by rw [h1, hput], hW.lo h2, h2⟩)
      have HWr : Hid (∀ W, TwoAt wr.heap.size 33 (.string ⟨x.1.toArray⟩) (.string ⟨x.2.toArray⟩) W → Lo (wr.alloc (.cells #[.string ⟨x.1.toArray⟩, .string ⟨x.2.toArray⟩] 33)) W → Calls Tryz.prog 25 #[.pointer (some ⟨B, 0, none⟩), .string ⟨(Sf.record x pos).toArray⟩] W fun e w' => ∃ q, e = .returned (.tuple #[.int .i64 q, .nilIface]) ∧ TwoAt wr.heap.size 33 (.string ⟨x.1.toArray⟩) (.string ⟨x.2.toArray⟩) w' ∧ Hid (Bld B B (pre ++ Sf.record x pos) w') ∧ Hid (Lo w w') ∧ Hid (B ≤ w'.heap.size)) := by
        refine Lib.hid (fun W hW hlo => ?_)
        have hlo2 : Lo wr W := ((Lo.refl wr).alloc _).trans hlo
        have hsz := Nat.le_trans HBw6.out hlo2.size
        have hr : (Sf.record x pos).length ≤ 100 := by unfold Sf.record; simp [Bn.bytes_len]; omega
        have hTB : wr.heap.size ≠ B := by
          intro hc
          rcases HB6.out with ⟨_, v, hb, _⟩ | ⟨_, v, hb, _⟩ <;> rw [← hc, Array.getElem?_eq_none (Nat.le_refl _)] at hb <;> cases hb
        refine (write_any B B pre (Sf.record x pos) W (HB6.out.lo hlo2) (by have := HPL.out; omega) hsz).mono ?_
        rintro e w' ⟨rfl, hb, hbe, hk⟩
        exact ⟨_, rfl, hW.kept hk hTB (by decide), Lib.hid hb, Lib.hid ((HL6.out.trans hlo2).below hbe hwB), Lib.hid (Nat.le_trans hsz hbe.size)⟩
      have hcat : (⟨x.1.toArray⟩ : ByteArray) ++ ⟨(Bn.bytes (Sf.tsum x : Nat) 4 ++ Bn.bytes pos 4 ++ Bn.bytes x.2.length 4).toArray⟩ = ⟨(Sf.record x pos).toArray⟩ := by rw [Gk.cat_list, hrec]
      have hbl : (Bn.bytes (Sf.tsum x : Nat) 4 ++ Bn.bytes pos 4 ++ Bn.bytes x.2.length 4).length = 12 := by simp [Bn.bytes_len]
      have hadd : ∀ W, (Op.stringOp .add ⟨x.1.toArray⟩ ⟨(Bn.bytes (Sf.tsum x : Nat) 4 ++ Bn.bytes pos 4 ++ Bn.bytes x.2.length 4).toArray⟩).run Tryz.prog W = .ok (.string ⟨(Sf.record x pos).toArray⟩) W := by
        intro W; rw [run_string_add_sum W _ _ (by show x.1.length + List.length _ ≤ _; rw [hbl]; omega), hcat]
      have HPd := Lib.hid (fun W => paddedSize_any x W (by omega))
      unfold aggT at HPd
      have hu4 : (Bn.up x.2 4).length ≤ 4004 := by rw [Bn.up_len]; omega
      have HT0 := Lib.hid (TwoAt.new wr 33 (.string ⟨x.1.toArray⟩) (.string ⟨x.2.toArray⟩))
      generalize Bn.bytes (Sf.tsum x : Nat) 4 ++ Bn.bytes pos 4 ++ Bn.bytes x.2.length 4 = body at *
      generalize Sf.record x pos = rcd at *
      generalize (Bn.up x.2 4).length = q4 at *
      generalize Sf.tsum x = ts at *
      clear hput hrec HB6 HBw6
      go_wp2_with fail
      go_region_held3 (fun W => TwoAt wr.heap.size 33 (.string ⟨x.1.toArray⟩) (.string ⟨x.2.toArray⟩) W) (first | assumption | exact HT0.out.drew | exact TwoAt.alloc (by assumption) _)
        (first
          | (go_at_call 11; refine (HSum.out _ (by assumption)).mono ?_; rintro e wS ⟨rfl, hSS, hloS⟩)
          | (go_at_call 25; refine (HWr.out _ (by assumption) (by (repeat (first | exact Lo.refl _ | refine Lo.alloc ?_ _ | refine Lo.drew ?_ | refine Lo.trans ?_ (by assumption))))).mono ?_; rintro e w9 ⟨qq, rfl, hS9, HB9, HL9, HBw9⟩)
          | (go_at_call 28; refine (HFld.out _ _ _ (by assumption) ?_ ?_).mono ?_; (refine Row.lo (row3 _ _ ?_ 4 4 4) (by (repeat (first | exact Lo.refl _ | refine Lo.alloc ?_ _ | refine Lo.drew ?_ | refine Lo.trans ?_ (by assumption)))); (first | rfl | simp)); (refine Row.lo (row3 _ _ ?_ _ _ _) (by (repeat (first | exact Lo.refl _ | refine Lo.alloc ?_ _ | refine Lo.drew ?_ | refine Lo.trans ?_ (by assumption)))); (first | rfl | simp)); rintro e wF ⟨rfl, hSF, hloF⟩))
      all_goals
        have HLp : Hid (pos + q4 = 12 + 16 * n + Sf.wide l (k + 1)) := Lib.hid (by rw [HWd.out, HP.out]; omega)
        clear HSum HFld HWr HT0
        go_wp2_with fail
        refine (HPd.out _).mono ?_
        rintro e w10 ⟨rfl, lo10⟩
        have HL10 := Lib.hid (HL9.out.trans lo10)
        have HB10 := Lib.hid (HB9.out.lo lo10)
        have HBw10 := Lib.hid (Nat.le_trans HBw9.out lo10.size)
        clear lo10 HL9 HB9 HBw9
        go_wp2_with fail
        go_roundw
        case rel => exact ⟨k + 1, pos + q4, by omega, by go_num, by go_num, HLp, Lib.hid (by rw [HPre.out]; exact HB10.out), HL10, HBw10⟩
        case measure => simp [intOf]; omega
    · have HB7 : Hid (Bld B B (hd ++ Sf.recs (12 + 16 * n) l) wr) := Lib.hid (by have := HB6.out; rwa [List.take_of_length_le (by rw [HN.out]; omega)] at this)
      have HF : Hid (hd ++ Sf.recs (12 + 16 * n) l ++ Sf.bodies l = y) := Lib.hid (by rw [← HY.out, ← HHD.out]; unfold Sf.file; rw [HN.out])
      have HPL : Hid ((hd ++ Sf.recs (12 + 16 * n) l).length ≤ 10000) := Lib.hid (by rw [List.length_append, HHL.out]; have := Sf.recs_le HS.out (12 + 16 * n) l.length (Nat.le_refl _); rw [List.take_length] at this; have := HN.out; omega)
      generalize hd ++ Sf.recs (12 + 16 * n) l = pre at *
      clear HB6 HP
      go_wp2_with fail
      go_loopw [11, 12, 13, 62] (fun _ _ _ i W => ∃ t : Nat, t ≤ n ∧ i = .int .i64 t ∧ Hid (Bld B B (pre ++ Sf.bodies (l.take t)) W) ∧ Hid (Lo w W) ∧ Hid (B ≤ W.heap.size)) (fun _ _ _ i _ => n - (intOf i).toNat)
      case atStart => exact ⟨0, Nat.zero_le _, rfl, Lib.hid (by simpa [Sf.bodies] using HB7.out), HL6, HBw6⟩
      case round =>
        clear HL6 HBw6 HB7
        obtain ⟨t, ht, rfl, HB8, HL8, HBw8⟩ := hrel
        by_cases htl : t < n
        · obtain ⟨x, hx⟩ := Sf.some_at (l := l) (k := t) (by rw [HN.out]; exact htl)
          obtain ⟨b, off, rfl, hc1, hc2⟩ := TRow.at2 (HR.out.lo HL8.out) hx
          have hsm := HS.out.at_ hx
          have HLn : Hid ((pre ++ Sf.bodies (l.take t)).length ≤ 1000000) := Lib.hid (by rw [List.length_append]; have := HPL.out; have := Sf.bodies_le HS.out t (by rw [HN.out]; exact ht); omega)
          have HPre : Hid (pre ++ Sf.bodies (l.take (t + 1)) = (pre ++ Sf.bodies (l.take t)) ++ Bn.up x.2 4) := Lib.hid (by rw [Sf.bodies_snoc hx, ← List.append_assoc])
          have HPd := Lib.hid (fun W => pad_any x.2 4 W (by omega))
          rw [show Bn.pad x.2 4 = (Bn.up x.2 4, 0) from rfl] at HPd
          unfold strErr at HPd
          have hu4 : (Bn.up x.2 4).length ≤ 4004 := by rw [Bn.up_len]; omega
          clear hx
          generalize pre ++ Sf.bodies (l.take t) = pre2 at *
          generalize Bn.up x.2 4 = bdy at *
          go_wp2_with fail
          refine (HPd.out _).mono ?_
          rintro e w9 ⟨rfl, lo9⟩
          have hlo : Lo wr w9 := ((Lo.refl wr).alloc _).trans lo9
          have HL9 := Lib.hid (HL8.out.trans hlo)
          have HB9 := Lib.hid (HB8.out.lo hlo)
          have HBw9 := Lib.hid (Nat.le_trans HBw8.out hlo.size)
          clear lo9 hlo HL8 HB8 HBw8
          go_wp2_with fail
          refine (write_any B B pre2 bdy w9 HB9.out (by have := HLn.out; omega) HBw9.out).mono ?_
          rintro e w10 ⟨rfl, hb, hbe, _⟩
          have HL10 := Lib.hid (HL9.out.below hbe hwB)
          have HB10 := Lib.hid hb
          have HBw10 := Lib.hid (Nat.le_trans HBw9.out hbe.size)
          clear hb hbe HL9 HB9 HBw9
          go_wp2_with fail
          go_roundw
          case rel => exact ⟨t + 1, by omega, by go_num, Lib.hid (by rw [HPre.out]; exact HB10.out), HL10, HBw10⟩
          case measure => simp [intOf]; omega
        · have HB9 : Hid (Bld B B y wr) := Lib.hid (by have := HB8.out; rwa [List.take_of_length_le (by rw [HN.out]; omega), HF.out] at this)
          go_wp2_with fail
          refine (string_any B B y wr HB9.out HBw8.out).mono ?_
          rintro e w9 ⟨rfl, hbe⟩
          have HL9 := Lib.hid (HL8.out.below hbe hwB)
          clear hbe
          go_wp2_with fail
          go_ret2
          exact ⟨rfl, HL9.out⟩

/-- sfnt.Put, of tables that are few and short. -/
theorem sput_any (v : Int) (l : List Sf.Tab) (u : Value) (w : World) (h : TRow w u l) (hs : Sf.Small l) :
    Calls Tryz.prog 7 #[.int .i64 v, u] w fun e w' => e = strErr (Sf.put v l) ∧ Lo w w' := by
  have htot := Sf.total_small hs
  unfold Sf.put
  rw [Sf.right_tagged]
  cases hv : Sf.isVer v with
  | false => rw [if_pos (.inl rfl)]; exact sput_ver v l u w h hv
  | true =>
    by_cases hm : l.length ≤ 64
    · cases ht : Sf.tagged l with
      | false => rw [if_pos (.inr rfl)]; exact sput_tags v l u w h hv hm hs ht
      | true => rw [if_neg (by simp [hm]), if_neg (by omega)]; exact sput_ok v l u w h hv hm hs ht
    · rw [if_pos (.inr (by simp [hm]))]; exact sput_many v l u w h hv (by omega)
end Go.Proofs.YtchhjfocanjniaaGreat

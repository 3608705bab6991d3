/-
  The contract of the document's Put for layer 4. No conditions beyond those stated.
-/
import Derived.Test.YtchhjfocanjniaaGreatSfRefGet
namespace Sf
open Bn
theorem double_step (n f p h : Nat) (hp : 2 * p ≤ n) (hf : n < p + f) (h1 : 1 ≤ p) : ∃ g, f = g + 1 ∧ double n f p h = double n g (2 * p) (h + 1) := by
  cases f with
  | zero => omega
  | succ g => exact ⟨g, rfl, by rw [double, if_pos hp]⟩
theorem double_stop (n f p h : Nat) (hp : ¬ 2 * p ≤ n) : double n f p h = (p, h) := by
  cases f with
  | zero => rfl
  | succ g => rw [double, if_neg hp]
theorem wide_le_total {l : List Tab} (hs : Small l) {k : Nat} (hk : k ≤ l.length) : 12 + 16 * l.length + wide l k ≤ 16777216 := by
  have h1 := total_small hs
  have h2 := wide_mono hk (Nat.le_refl l.length)
  unfold total at h1
  omega
theorem put_small {v : Int} {l : List Tab} (hs : Small l) : put v l = if isVer v = false ∨ right l = false then ([], 1) else (file v l, 0) := by
  unfold put
  have := total_small hs
  by_cases h : isVer v = false ∨ right l = false
  · rw [if_pos h, if_pos h]
  · rw [if_neg h, if_neg h, if_neg (by omega)]
theorem up_four (d : List UInt8) : (up d 4).length = (d.length + 3) / 4 * 4 := by rw [up_len]; omega
end Sf
namespace Go.Proofs.YtchhjfocanjniaaGreat
open Go.RowKit

theorem sadd_run (a b : List UInt8) (h : a.length + b.length ≤ 100000000) (W : World) : (Op.stringOp .add ⟨a.toArray⟩ ⟨b.toArray⟩).run Tryz.prog W = .ok (.string ⟨(a ++ b).toArray⟩) W := by
  rw [run_string_add_sum W _ _ (by show a.length + b.length ≤ _; omega), Gk.cat_list]
theorem sadd_to (a b c : List UInt8) (hc : a ++ b = c) (h : a.length + b.length ≤ 100000000) (W : World) : (Op.stringOp .add ⟨a.toArray⟩ ⟨b.toArray⟩).run Tryz.prog W = .ok (.string ⟨c.toArray⟩) W := by
  rw [← hc]; exact sadd_run a b h W
theorem rbytes4 (x : Int) (W : World) (h0 : 0 ≤ x) (h1 : x < 4294967296) : Calls Tryz.prog 33 #[.int .i64 x, .int .i64 4] W fun e w' => e = .returned (.string ⟨(Bn.bytes x 4).toArray⟩) ∧ Lo W w' := by
  have h := rbytes_any x 4 W (by decide) (by unfold Bn.fits; rw [if_neg (by omega)]; simp; omega)
  rw [show ((4 : Int).natAbs) = 4 from rfl, show ((4 : Nat) : Int) = 4 from rfl] at h
  exact h
theorem rbytes2 (x : Int) (W : World) (h0 : 0 ≤ x) (h1 : x < 65536) : Calls Tryz.prog 33 #[.int .i64 x, .int .i64 2] W fun e w' => e = .returned (.string ⟨(Bn.bytes x 2).toArray⟩) ∧ Lo W w' := by
  have h := rbytes_any x 2 W (by decide) (by unfold Bn.fits; rw [if_neg (by omega)]; simp; omega)
  rw [show ((2 : Int).natAbs) = 2 from rfl, show ((2 : Nat) : Int) = 2 from rfl] at h
  exact h

set_option maxRecDepth 100000 in
set_option maxHeartbeats 1600000 in
theorem rsput_arg (v : Int) (l : List Sf.Tab) (u : Value) (w : World) (hr : TRow w u l) (hs : Sf.Small l) (h : Sf.isVer v = false ∨ Sf.right l = false) :
    Calls Tryz.prog 8 #[.int .i64 v, u] w fun e w' => e = strErr ([], 1) ∧ Lo w w' := by
  have CV := Lib.hid (fun W => rversion_any v W)
  have CR := Lib.hid (rright_any l u w hr (fun x hx => by have := (hs.2 x hx).1; omega))
  obtain ⟨p, c, rfl, hlen⟩ := hr.form
  clear hr hs
  cases hv : Sf.isVer v with
  | false =>
    rw [hv] at CV
    clear h hv
    go_enter Tryz.func8, Tryz.ntmps8
    go_wp2_with fail
    refine (CV.out _).mono ?_
    rintro e w1 ⟨rfl, rfl⟩
    go_wp2_with fail
    go_ret2
    exact ⟨rfl, Lo.refl _⟩
  | true =>
    rw [hv] at CV h
    rw [show Sf.right l = false by simpa using h] at CR
    clear h hv
    go_enter Tryz.func8, Tryz.ntmps8
    go_wp2_with fail
    refine (CV.out _).mono ?_
    rintro e w1 ⟨rfl, rfl⟩
    go_wp2_with fail
    refine CR.out.mono ?_
    rintro e w1 ⟨rfl, lo⟩
    have HL := Lib.hid lo
    clear lo CR
    go_wp2_with fail
    go_ret2
    exact ⟨rfl, HL.out⟩

abbrev TabAt (b o : Nat) (t d : List UInt8) (w0 W : World) : Prop := W.cell? ⟨b, o, none⟩ = some (.string ⟨t.toArray⟩) ∧ W.cell? ⟨b, o + 1, none⟩ = some (.string ⟨d.toArray⟩) ∧ Hid (Lo w0 W)

set_option maxRecDepth 100000 in
set_option maxHeartbeats 8000000 in
theorem rsput_ok (v : Int) (l : List Sf.Tab) (u : Value) (w : World) (hr : TRow w u l) (hs : Sf.Small l) (hv : Sf.isVer v = true) (hri : Sf.right l = true) (hl1 : 1 ≤ l.length) :
    Calls Tryz.prog 8 #[.int .i64 v, u] w fun e w' => e = strErr (Sf.file v l, 0) ∧ Lo w w' := by
  have CV := Lib.hid (fun W => rversion_any v W)
  have CR := Lib.hid (rright_any l u w hr (fun x hx => by have := (hs.2 x hx).1; omega))
  rw [hv] at CV
  rw [hri] at CR
  have hvb : 0 ≤ v ∧ v < 4294967296 := by rcases Sf.isVer_cases hv with rfl | rfl <;> omega
  obtain ⟨p, c, rfl, hlen⟩ := hr.form
  have HR := Lib.hid hr
  have HS := Lib.hid hs
  have HX : Hid (∀ k, k < l.length → ∃ x, l[k]? = some x) := Lib.hid (fun k hk => Sf.some_at hk)
  have hn70 := hs.1
  have HWT := Lib.hid (fun k => @Sf.wide_le_total l hs k)
  have HWS := Lib.hid (fun k x => @Sf.wide_snoc l k x)
  have HFile : Hid (Sf.file v l = Sf.header v l.length ++ Sf.recs (12 + 16 * l.length) l ++ Sf.bodies l) := Lib.hid rfl
  have HHd : Hid (Sf.header v l.length = Bn.bytes v 4 ++ Bn.bytes l.length 2 ++ Bn.bytes (16 * (Sf.pow2 l.length).1 : Nat) 2 ++ Bn.bytes ((Sf.pow2 l.length).2 : Nat) 2 ++ Bn.bytes ((16 * l.length : Nat) - (16 * (Sf.pow2 l.length).1 : Nat) : Int) 2) := Lib.hid rfl
  generalize hnn : l.length = n at *
  have HN := Lib.hid hnn
  have HP2 : Hid (Sf.pow2 n = Sf.double n n 1 0) := Lib.hid (by unfold Sf.pow2; rw [if_neg (by omega)])
  clear hr hs hv hri hnn
  go_enter Tryz.func8, Tryz.ntmps8
  go_wp2_with fail
  refine (CV.out _).mono ?_
  rintro e w1 ⟨rfl, rfl⟩
  go_wp2_with fail
  refine CR.out.mono ?_
  rintro e w1 ⟨rfl, lo⟩
  have HL := Lib.hid lo
  clear lo CR CV
  go_wp2_with fail
  go_loop [6, 7] (fun a i => ∃ k A : Nat, k ≤ n ∧ i = .int .i64 k ∧ a = .int .i64 A ∧ Hid (A = 12 + 16 * n + Sf.wide l k)) (fun _ i => n - (intOf i).toNat)
  case atStart => exact ⟨0, 12 + 16 * n, Nat.zero_le _, rfl, by go_num, Lib.hid (by simp [Sf.wide])⟩
  case round =>
    obtain ⟨k, A, hk, rfl, rfl, HA⟩ := hrel
    by_cases hlt : k < n
    · obtain ⟨⟨t, d⟩, hx⟩ := HX.out k hlt
      obtain ⟨b, off, rfl, hc1, hc2⟩ := TRow.at2 (HR.out.lo HL.out) hx
      have hdl := (HS.out.at_ hx).2
      have HA2 : Hid (A + (d.length + 3) / 4 * 4 = 12 + 16 * n + Sf.wide l (k + 1)) := Lib.hid (by have h := HWS.out k _ hx; rw [Sf.up_four] at h; dsimp only at h; have := HA.out; omega)
      have hA2 : A + (d.length + 3) / 4 * 4 ≤ 16777216 := by rw [HA2.out]; exact HWT.out (k + 1) (by omega)
      dsimp only at hdl hc2
      clear hx hc1
      go_wp2_with fail
      go_round
      case rel => exact ⟨k + 1, A + (d.length + 3) / 4 * 4, by omega, by go_num, by first | go_num | (congr 1; omega), HA2⟩
      case measure => simp [intOf]; omega
    · clear HA
      go_wp2_with fail
      go_loop [8, 9] (fun p h => ∃ P H f : Nat, 1 ≤ P ∧ P ≤ 128 ∧ (1 ≤ n → P ≤ n) ∧ H + f = n ∧ n < P + f ∧ p = .int .i64 P ∧ h = .int .i64 H ∧ Hid (Sf.double n f P H = Sf.double n n 1 0)) (fun p _ => n + 1 - (intOf p).toNat)
      case atStart => exact ⟨1, 0, n, by omega, by omega, fun h => h, by omega, by omega, rfl, rfl, Lib.hid rfl⟩
      case round =>
        obtain ⟨P, H, f, hP1, hP2, hPn, hHf, hPf, rfl, rfl, HD⟩ := hrel
        by_cases h2 : 2 * P ≤ n
        · obtain ⟨g, rfl, hd⟩ := Sf.double_step n f P H h2 hPf hP1
          have HD2 : Hid (Sf.double n g (2 * P) (H + 1) = Sf.double n n 1 0) := Lib.hid (by rw [← hd]; exact HD.out)
          clear hd
          go_wp2_with fail
          go_round
          case rel => exact ⟨2 * P, H + 1, g, by omega, by omega, fun _ => h2, by omega, by omega, by go_num, by go_num, HD2⟩
          case measure => simp [intOf]; omega
        · have HD2 : Hid (Sf.double n n 1 0 = (P, H)) := Lib.hid (by rw [← HD.out]; exact Sf.double_stop n f P H h2)
          have HPw : Hid (Sf.pow2 n = (P, H)) := Lib.hid (by rw [HP2.out, HD2.out])
          have hQn : P ≤ n := hPn hl1
          have hH : H ≤ 70 := by omega
          rw [HPw.out] at HHd
          dsimp only at HHd
          clear HD HD2 HPw HP2 hPf hHf hPn
          have CB4 := Lib.hid (fun W => rbytes4 v W hvb.1 hvb.2)
          have CBn := Lib.hid (fun W => rbytes2 (n : Int) W (by omega) (by omega))
          have CBq := Lib.hid (fun W => rbytes2 (16 * (P : Int)) W (by omega) (by omega))
          have CBh := Lib.hid (fun W => rbytes2 (H : Int) W (by omega) (by omega))
          have CBd := Lib.hid (fun W => rbytes2 (16 * (n : Int) - 16 * (P : Int)) W (by omega) (by omega))
          rw [show ((16 * P : Nat) : Int) = 16 * (P : Int) by omega, show ((16 * n : Nat) : Int) = 16 * (n : Int) by omega] at HHd
          have z1 : (Bn.bytes v 4).length = 4 := Bn.bytes_len _ _
          have z2 : (Bn.bytes (n : Int) 2).length = 2 := Bn.bytes_len _ _
          have z3 : (Bn.bytes (16 * (P : Int)) 2).length = 2 := Bn.bytes_len _ _
          have z4 : (Bn.bytes (H : Int) 2).length = 2 := Bn.bytes_len _ _
          have z5 : (Bn.bytes (16 * (n : Int) - 16 * (P : Int)) 2).length = 2 := Bn.bytes_len _ _
          generalize Bn.bytes v 4 = y1 at *
          generalize Bn.bytes (n : Int) 2 = y2 at *
          generalize Bn.bytes (16 * (P : Int)) 2 = y3 at *
          generalize Bn.bytes (H : Int) 2 = y4 at *
          generalize Bn.bytes (16 * (n : Int) - 16 * (P : Int)) 2 = y5 at *
          have c1 := Gk.cat_list y1 y2
          have c2 := Gk.cat_list (y1 ++ y2) y3
          have c3 := Gk.cat_list (y1 ++ (y2 ++ y3)) y4
          have c4 := Gk.cat_list (y1 ++ (y2 ++ (y3 ++ y4))) y5
          simp only [List.append_assoc] at c2 c3 c4
          have hn0 : ((n : Int) == 0) = false := by simp; omega
          go_wp2_with fail
          refine (CB4.out _).mono ?_
          rintro e w2 ⟨rfl, lo⟩
          have HLa := Lib.hid (HL.out.trans lo)
          clear lo CB4
          go_wp2_with fail
          refine (CBn.out _).mono ?_
          rintro e w2 ⟨rfl, lo⟩
          have HLb := Lib.hid (HLa.out.trans lo)
          clear lo CBn
          go_wp2_with fail
          refine (CBq.out _).mono ?_
          rintro e w2 ⟨rfl, lo⟩
          have HLc := Lib.hid (HLb.out.trans lo)
          clear lo CBq
          go_wp2_with fail
          refine (CBh.out _).mono ?_
          rintro e w2 ⟨rfl, lo⟩
          have HLd := Lib.hid (HLc.out.trans lo)
          clear lo CBh
          go_wp2_with fail
          refine (CBd.out _).mono ?_
          rintro e w2 ⟨rfl, lo⟩
          have HLe := Lib.hid (HLd.out.trans lo)
          clear lo CBd
          go_wp2_with fail
          clear c1 c2 c3 c4 hn0
          have hcat : y1 ++ (y2 ++ (y3 ++ (y4 ++ y5))) = Sf.header v n := by rw [HHd.out]; simp only [List.append_assoc]
          have hol0 : (y1 ++ (y2 ++ (y3 ++ (y4 ++ y5)))).length ≤ 12 := by simp only [List.length_append, z1, z2, z3, z4, z5]; omega
          generalize y1 ++ (y2 ++ (y3 ++ (y4 ++ y5))) = hd at *
          have HCat := Lib.hid hcat
          clear hcat z1 z2 z3 z4 z5 HHd
          go_loopw [10, 11, 12, 13, 14] (fun ou a re i _ W => ∃ (k A : Nat) (o r : List UInt8), k ≤ n ∧ i = .int .i64 k ∧ a = .int .i64 A ∧ ou = .string ⟨o.toArray⟩ ∧ re = .string ⟨r.toArray⟩ ∧ A ≤ 16777216 ∧ o.length ≤ 12 + 36 * k ∧ r.length ≤ 4004 * k ∧ Hid (A = 12 + 16 * n + Sf.wide l k) ∧ Hid (o = hd ++ Sf.recs (12 + 16 * n) (l.take k)) ∧ Hid (r = Sf.bodies (l.take k)) ∧ Hid (Lo w W)) (fun _ _ _ i _ _ => n - (intOf i).toNat)
          case atStart => exact ⟨0, 12 + 16 * n, hd, [], Nat.zero_le _, rfl, by go_num, rfl, rfl, by omega, by omega, by simp, Lib.hid (by simp [Sf.wide]), Lib.hid (by simp [Sf.recs]), Lib.hid (by simp [Sf.bodies]), HLe⟩
          case round =>
            obtain ⟨k, A, o, r, hk, rfl, rfl, rfl, rfl, hA, hol, hrl, HA, HOo, HRr, HL3⟩ := hrel
            by_cases hlt : k < n
            · obtain ⟨⟨t, d⟩, hx⟩ := HX.out k hlt
              rename World => W3
              obtain ⟨b, off, rfl, hc1, hc2⟩ := TRow.at2 (HR.out.lo HL3.out) hx
              have hsm := HS.out.at_ hx
              have HWk : Hid (A + (Bn.up d 4).length = 12 + 16 * n + Sf.wide l (k + 1)) := Lib.hid (by have h := HWS.out k _ hx; dsimp only at h; rw [h, HA.out]; omega)
              have hA2 : A + (Bn.up d 4).length ≤ 16777216 := by rw [HWk.out]; exact HWT.out (k + 1) (by omega)
              have hul : (Bn.up d 4).length ≤ 4004 := by rw [Bn.up_len]; dsimp only at hsm; omega
              dsimp only at hsm hc1 hc2
              have HOs : Hid (hd ++ Sf.recs (12 + 16 * n) (l.take (k + 1)) = (((o ++ t) ++ Bn.bytes (Sf.tsum (t, d) : Nat) 4) ++ Bn.bytes (A : Nat) 4) ++ Bn.bytes d.length 4) := Lib.hid (by
                rw [Sf.recs_snoc hx, ← List.append_assoc, ← HOo.out, ← HA.out]
                unfold Sf.record
                simp only [List.append_assoc])
              have HRs : Hid (r ++ Bn.up d 4 = Sf.bodies (l.take (k + 1))) := Lib.hid (by rw [Sf.bodies_snoc hx, HRr.out])
              have hbw := World.block_lt_of_cell? W3 _ hc1
              have HSt : Hid (∀ W, Lo W3 W → TabAt b (off + k * 2) t d W3 W) := Lib.hid (fun W lo => ⟨(lo.cell hbw).trans hc1, (lo.cell hbw).trans hc2, Lib.hid lo⟩)
              have CSum : Hid (∀ W, TabAt b (off + k * 2) t d W3 W → Calls Tryz.prog 12 #[.agg #[.string ⟨t.toArray⟩, .string ⟨d.toArray⟩]] W fun e w' => e = .returned (.int .i64 (Sf.tsum (t, d) : Nat)) ∧ TabAt b (off + k * 2) t d W3 w') := Lib.hid (fun W hW => (rtsum_any (t, d) W (by dsimp only; omega)).mono fun _ _ ⟨h1, h2⟩ => ⟨h1, HSt.out _ (hW.2.2.out.trans h2)⟩)
              have CBy : Hid (∀ (x : Int) W, 0 ≤ x → x < 4294967296 → TabAt b (off + k * 2) t d W3 W → Calls Tryz.prog 33 #[.int .i64 x, .int .i64 4] W fun e w' => e = .returned (.string ⟨(Bn.bytes x 4).toArray⟩) ∧ TabAt b (off + k * 2) t d W3 w') := Lib.hid (fun x W h0 h1 hW => (rbytes4 x W h0 h1).mono fun _ _ ⟨h1, h2⟩ => ⟨h1, HSt.out _ (hW.2.2.out.trans h2)⟩)
              have hts := Sf.tsum_lt (t, d)
              have CUp := Lib.hid (fun W => rup_any d 4 W (by omega) (by omega) (by omega))
              rw [show ((4 : Nat) : Int) = 4 from rfl] at CUp
              generalize Sf.tsum (t, d) = ts at *
              have v1 : (Bn.bytes (ts : Int) 4).length = 4 := Bn.bytes_len _ _
              have v2 : (Bn.bytes (A : Int) 4).length = 4 := Bn.bytes_len _ _
              have v3 : (Bn.bytes (d.length : Int) 4).length = 4 := Bn.bytes_len _ _
              obtain ⟨q1, hq1⟩ : ∃ q, o ++ t = q := ⟨_, rfl⟩
              obtain ⟨q2, hq2⟩ : ∃ q, q1 ++ Bn.bytes (ts : Int) 4 = q := ⟨_, rfl⟩
              obtain ⟨q3, hq3⟩ : ∃ q, q2 ++ Bn.bytes (A : Int) 4 = q := ⟨_, rfl⟩
              obtain ⟨q4, hq4⟩ : ∃ q, q3 ++ Bn.bytes (d.length : Int) 4 = q := ⟨_, rfl⟩
              rw [hq1, hq2, hq3, hq4] at HOs
              have n1 : q1.length = o.length + t.length := by rw [← hq1, List.length_append]
              have n2 : q2.length = q1.length + 4 := by rw [← hq2, List.length_append, v1]
              have n3 : q3.length = q2.length + 4 := by rw [← hq3, List.length_append, v2]
              have n4 : q4.length = q3.length + 4 := by rw [← hq4, List.length_append, v3]
              have hq4l : q4.length ≤ 12 + 36 * (k + 1) := by omega
              have x1 := fun W => sadd_to o t q1 hq1 (by omega) W
              have x2 := fun W => sadd_to q1 _ q2 hq2 (by omega) W
              have x3 := fun W => sadd_to q2 _ q3 hq3 (by omega) W
              have x4 := fun W => sadd_to q3 _ q4 hq4 (by omega) W
              have hupc := Gk.cat_list r (Bn.up d 4)
              clear hx hq1 hq2 hq3 hq4 n1 n2 n3 n4 v1 v2 v3
              have s3 : (0 : Int) ≤ (k : Int) := by omega
              have s4 : (k : Int) < (n : Int) := by omega
              go_wp2_with fail
              clear hc1 hc2
              go_region_held3 (fun W => TabAt b (off + k * 2) t d W3 W) (first | assumption | exact HSt.out _ ((Lo.refl _).drew))
                (first
                  | (go_at_call 12; refine (CSum.out _ (by assumption)).mono ?_; rintro e wS ⟨rfl, hSS⟩)
                  | (go_at_call 33; refine (CBy.out _ _ (by omega) (by omega) (by assumption)).mono ?_; rintro e wB ⟨rfl, hSB⟩))
              all_goals
                have HL9 := Lib.hid (HL3.out.trans hSB.2.2.out)
                clear CSum CBy x1 x2 x3 x4 HSt hSB
                go_wp2_with fail
                refine (CUp.out _).mono ?_
                rintro e w7 ⟨rfl, rfl⟩
                go_wp2_with fail
                go_roundw
                case rel => exact ⟨k + 1, A + (Bn.up d 4).length, q4, r ++ Bn.up d 4, by omega, by go_num, by go_num, rfl, rfl, hA2, hq4l, by rw [List.length_append]; omega, HWk, Lib.hid HOs.out.symm, HRs, HL9⟩
                case measure => simp [intOf]; omega
            · obtain rfl : k = n := by omega
              have HE : Hid (o ++ r = Sf.file v l) := Lib.hid (by
                rw [HFile.out, HOo.out, HRr.out, List.take_of_length_le (by rw [HN.out]; exact Nat.le_refl _), HCat.out])
              have hfin := Gk.cat_list o r
              rw [HE.out] at hfin
              go_wp2_with fail
              go_ret2
              exact ⟨rfl, HL3.out⟩

set_option maxRecDepth 100000 in
set_option maxHeartbeats 4000000 in
theorem rsput_zero (v : Int) (u : Value) (w : World) (hr : TRow w u []) (hv : Sf.isVer v = true) :
    Calls Tryz.prog 8 #[.int .i64 v, u] w fun e w' => e = strErr (Sf.file v [], 0) ∧ Lo w w' := by
  have CV := Lib.hid (fun W => rversion_any v W)
  have CR := Lib.hid (rright_any [] u w hr (by simp))
  rw [hv] at CV
  rw [show Sf.right [] = true by decide] at CR
  have hvb : 0 ≤ v ∧ v < 4294967296 := by rcases Sf.isVer_cases hv with rfl | rfl <;> omega
  obtain ⟨p, c, rfl, hlen⟩ := hr.form
  have CB4 := Lib.hid (fun W => rbytes4 v W hvb.1 hvb.2)
  have CB0 := Lib.hid (fun W => rbytes2 0 W (by omega) (by omega))
  have hfile : Bn.bytes v 4 ++ (Bn.bytes 0 2 ++ (Bn.bytes 0 2 ++ (Bn.bytes 0 2 ++ Bn.bytes 0 2))) = Sf.file v [] := by
    show _ = Sf.header v 0 ++ Sf.recs (12 + 16 * 0) [] ++ Sf.bodies []
    simp [Sf.header, Sf.pow2, Sf.recs, Sf.bodies]
  have z1 : (Bn.bytes v 4).length = 4 := Bn.bytes_len _ _
  have z2 : (Bn.bytes 0 2).length = 2 := Bn.bytes_len _ _
  generalize Sf.file v [] = F at *
  generalize Bn.bytes v 4 = y1 at *
  generalize Bn.bytes 0 2 = y2 at *
  have c1 := Gk.cat_list y1 y2
  have c2 := Gk.cat_list (y1 ++ y2) y2
  have c3 := Gk.cat_list (y1 ++ (y2 ++ y2)) y2
  have c4 := Gk.cat_list (y1 ++ (y2 ++ (y2 ++ y2))) y2
  have c5 := Gk.cat_list F []
  simp only [List.append_assoc, List.append_nil] at c2 c3 c4 c5
  rw [hfile] at c4
  have hFl : F.length ≤ 12 := by rw [← hfile]; simp only [List.length_append, z1, z2]; omega
  clear hr hv hfile
  simp only [List.length_nil] at *
  go_enter Tryz.func8, Tryz.ntmps8
  go_wp2_with fail
  refine (CV.out _).mono ?_
  rintro e w1 ⟨rfl, rfl⟩
  go_wp2_with fail
  refine CR.out.mono ?_
  rintro e w1 ⟨rfl, lo⟩
  have HL := Lib.hid lo
  clear lo CR CV
  go_wp2_with fail
  go_loop [6, 7] (fun a i => a = .int .i64 12 ∧ i = .int .i64 0) (fun _ _ => 0)
  case atStart => exact ⟨rfl, rfl⟩
  case round =>
    obtain ⟨rfl, rfl⟩ := hrel
    go_wp2_with fail
    go_loop [8, 9] (fun p h => p = .int .i64 1 ∧ h = .int .i64 0) (fun _ _ => 0)
    case atStart => exact ⟨rfl, rfl⟩
    case round =>
      obtain ⟨rfl, rfl⟩ := hrel
      go_wp2_with fail
      refine (CB4.out _).mono ?_
      rintro e w2 ⟨rfl, lo⟩
      have HL1 := Lib.hid (HL.out.trans lo)
      clear lo
      go_wp2_with fail
      refine (CB0.out _).mono ?_
      rintro e w3 ⟨rfl, lo⟩
      have HL2 := Lib.hid (HL1.out.trans lo)
      clear lo
      go_wp2_with fail
      refine (CB0.out _).mono ?_
      rintro e w4 ⟨rfl, lo⟩
      have HL3 := Lib.hid (HL2.out.trans lo)
      clear lo
      go_wp2_with fail
      refine (CB0.out _).mono ?_
      rintro e w5 ⟨rfl, lo⟩
      have HL4 := Lib.hid (HL3.out.trans lo)
      clear lo
      go_wp2_with fail
      refine (CB0.out _).mono ?_
      rintro e w6 ⟨rfl, lo⟩
      have HL5 := Lib.hid (HL4.out.trans lo)
      clear lo
      go_wp2_with fail
      go_loop [10, 11, 12, 13, 14] (fun ou a re i _ => ou = .string ⟨F.toArray⟩ ∧ a = .int .i64 12 ∧ re = .string ⟨#[]⟩ ∧ i = .int .i64 0) (fun _ _ _ _ _ => 0)
      case atStart => exact ⟨rfl, rfl, rfl, rfl⟩
      case round =>
        obtain ⟨rfl, rfl, rfl, rfl⟩ := hrel
        go_wp2_with fail
        go_ret2
        exact ⟨by first | rfl | simp [strErr], HL5.out⟩

/-- The document's Put. -/
theorem rsput_any (v : Int) (l : List Sf.Tab) (u : Value) (w : World) (hr : TRow w u l) (hs : Sf.Small l) :
    Calls Tryz.prog 8 #[.int .i64 v, u] w fun e w' => e = strErr (Sf.put v l) ∧ Lo w w' := by
  rw [Sf.put_small hs]
  by_cases h : Sf.isVer v = false ∨ Sf.right l = false
  · rw [if_pos h]; exact rsput_arg v l u w hr hs h
  · rw [if_neg h]
    have h1 : Sf.isVer v = true := by cases hv : Sf.isVer v with | true => rfl | false => exact absurd (.inl hv) h
    have h2 : Sf.right l = true := by cases hv : Sf.right l with | true => rfl | false => exact absurd (.inr hv) h
    rcases Nat.eq_zero_or_pos l.length with h0 | h0
    · obtain rfl := List.eq_nil_of_length_eq_zero h0
      exact rsput_zero v u w hr h1
    · exact rsput_ok v l u w hr hs h1 h2 h0
end Go.Proofs.YtchhjfocanjniaaGreat

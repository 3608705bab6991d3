/-
  Facts that the walks rest on: CuRefO, BnRefB, CoRefPut. No conditions beyond those stated.
-/
import Derived.Test.YtcnmfgdeanbhoaaCuRefG
import Derived.Test.YtcnmfgdeanbhoaaPart16
import Derived.Test.YtcnmfgdeanbhoaaPart01
import Derived.Deep.RegionLaw
import Derived.Deep.RegionHeld3
import Derived.Test.YtcnmfgdeanbhoaaPart15
import Derived.Test.YtcnmfgdeanbhoaaPart12
import Derived.Test.YtcnmfgdeanbhoaaPart11
/-
  The contract of the document's answer for layer 15, Own: kerns in memory of their own. No conditions beyond those stated.
-/
namespace Go.Proofs.Ytcnmfgdeanbhoaa
open Go.RowKit

/-- The load of the row that is appended to, by a name: it is walked where it comes up (the row's cell is written behind it). -/
def ownLd : Oper := { dst := some 30, op := Op.load 40 (Operand.tmp 29), type := 40, pos := "ref.go:222", after := #[{ on := 0, ground := Ground.data }], guard := none }
@[go_sem] theorem ownLd_def : ownLd = { dst := some 30, op := Op.load 40 (Operand.tmp 29), type := 40, pos := "ref.go:222", after := #[{ on := 0, ground := Ground.data }], guard := none } := rfl
/-- The class of worlds that Own's drawn region walks. -/
abbrev OwnAt (b o b2 o2 : Nat) (st u1 u2 : Value) (w0 : World) (n : Nat) (W : World) : Prop :=
  W.cell? ⟨b, o, none⟩ = some st ∧ W.cell? ⟨b2, o2, none⟩ = some u1 ∧ W.cell? ⟨b2, o2 + 1, none⟩ = some u2 ∧ Hid (Lo w0 W) ∧ Hid (n ≤ W.heap.size)

set_option maxHeartbeats 400000 in
theorem rown_own (v : Value) (l : List Int) (w : World) (h1 : Row w v l) (hn : l.length ≤ 100000) :
    Calls Try.prog 24 #[v] w fun e w' => ∃ p c, e = .returned (.slice p l.length c) ∧ Own w' w.heap.size (.slice p l.length c) l ∧ Lo w w' := by
  have HR := Lib.hid h1
  clear h1
  go_enter Try.func24, Try.ntmps24
  go_wp2_with (at_builtin; refine wpList_app _ rfl (.tmp 4) (.tmp 5) rfl w.heap.size (.slice none 0 0) [] rfl (Own.none _ _) _ l rfl HR.out (by simp; omega) (Nat.le_refl _) ?_; intro q c2 w1 hown hlo; rw [List.nil_append, List.length_nil, Nat.zero_add] at hown; have HO := Lib.hid hown; have HL := Lib.hid (hlo w (Lo.refl w) rfl); clear hown hlo; rw [List.length_nil, Nat.zero_add])
  go_ret
  exact ⟨q, c2, rfl, HO.out, HL.out⟩

set_option maxRecDepth 100000 in
set_option maxHeartbeats 6400000 in
theorem rcuown_any (v : Value) (l : List Cu.Kern) (w : World) (hr : KRowC w v l) (hf : Cu.few l = true) :
    Calls Try.prog 9 #[v] w fun e w' => ∃ p c, e = .returned (.slice p l.length c) ∧ KRowC w' (.slice p l.length c) l ∧ Lo w w' := by
  obtain ⟨f1, f2⟩ := Cu.few_has hf
  have HFw := Lib.hid (fun k (hk : k < l.length) => f2 _ (Cu.getK_mem hk))
  have HTk := Lib.hid (fun k (hk : k < l.length) => Cu.takeK_snoc hk)
  have HTl := Lib.hid (fun k (hk : k ≤ l.length) => (by rw [List.length_take]; omega : (l.take k).length = k))
  obtain ⟨p0, c0, rfl, _⟩ := RowR.form hr
  have HR := Lib.hid hr
  generalize hnn : l.length = n at *
  have HN := Lib.hid hnn
  clear hr hf hnn f2
  go_enter Try.func9, Try.ntmps9
  go_wp2_with fail
  go_loopw [3, 4, 5, 6] (fun so si _ _ W => ∃ (k : Nat) (p : Option Addr) (c : Nat), k ≤ n ∧ si = .int .i64 k ∧ so = .slice p k c ∧ Hid (OwnR RK 42 2 (fun _ => False) W w.heap.size (.slice p k c) (l.take k)) ∧ Hid (Lo w W)) (fun _ si _ _ _ => n - (intOf si).toNat)
  case atStart => exact ⟨0, none, 0, by omega, rfl, rfl, Lib.hid (OwnR.none _ _ _ _ _ _), Lib.hid (Lo.refl _)⟩
  case round =>
    obtain ⟨k, p, c, hk, rfl, rfl, HOk, HLk⟩ := hrel
    obtain ⟨w6, rfl⟩ : ∃ W, W = wr := ⟨_, rfl⟩
    by_cases hlt : k < n
    · obtain ⟨b, off, u, rfl, e0, e1, hs⟩ := KRowC.at2 (KRowC.lo HR.out HLk.out) (Cu.getK_some (l := l) (i := k) (by rw [HN.out]; exact hlt))
      obtain ⟨g1, g2⟩ := HFw.out k hlt
      have HTkk := Lib.hid (HTk.out k hlt)
      have HLl := Lib.hid (HTl.out k hk)
      obtain ⟨ps, cs, rfl, _⟩ := RowR.form hs
      have HSR := Lib.hid hs
      have hb := World.block_lt_of_cell? _ _ e1
      clear hs
      generalize l.getD k Cu.zK = x at *
      obtain ⟨y, q⟩ := x
      dsimp only at e0 e1 g1 g2 HSR
      have HG2 := Lib.hid (fun j (hj : j < q.length) => g2 _ (Cu.getS_mem hj))
      have HTj := Lib.hid (fun j (hj : j < q.length) => Cu.takeS_snoc hj)
      have HTq : Hid (q.take q.length = q) := Lib.hid List.take_length
      have HTjl := Lib.hid (fun j (hj : j ≤ q.length) => (by rw [List.length_take]; omega : (q.take j).length = j))
      generalize hm : q.length = m at *
      have HM := Lib.hid hm
      have HE1 := Lib.hid e1
      clear g2 hm
      go_wp2_with fail
      clear e0 e1
      generalize hwa : w6.alloc (.cells #[.int .i64 y, .slice none 0 0] 42) = wa
      have HXa : Hid (wa.heap[w6.heap.size]? = some (.cells #[.int .i64 y, .slice none 0 0] 42 (0, 0))) := Lib.hid (by rw [← hwa]; exact new_block w6 _)
      have HSa : Hid (w6.heap.size + 1 ≤ wa.heap.size) := Lib.hid (by rw [← hwa]; simp)
      have HLa : Hid (Lo w6 wa) := Lib.hid (by rw [← hwa]; exact (Lo.refl w6).alloc _)
      clear hwa
      generalize hX : w6.heap.size = X at *
      have HXs := Lib.hid hX
      clear hX
      go_loopw [6] (fun sj W => ∃ (j : Nat) (pu : Option Addr) (cu : Nat), j ≤ m ∧ sj = .int .i64 j ∧ Hid (W.heap[X]? = some (.cells #[.int .i64 y, .slice pu j cu] 42 (0, 0))) ∧ Hid (OwnR RS 35 2 (fun T => T < X + 1) W (X + 1) (.slice pu j cu) (q.take j)) ∧ Hid (X + 1 ≤ W.heap.size) ∧ Hid (Lo w6 W)) (fun sj _ => m - (intOf sj).toNat)
      case atStart => exact ⟨0, none, 0, by omega, rfl, HXa, Lib.hid (OwnR.none _ _ _ _ _ _), HSa, HLa⟩
      case round =>
        obtain ⟨j, pu, cu, hj, rfl, HX, HO, HSz, HLj⟩ := hrel
        clear HXa HSa HLa
        have k1 := (HLj.out.cell (by rw [HXs.out]; exact hb)).trans HE1.out
        by_cases hjm : j < m
        · obtain ⟨b2, off2, u2, v2, rfl, d0, d1, ra, rb⟩ := SRowC.at2 HSR.out (Cu.getS_some (l := q) (i := j) (by rw [HM.out]; exact hjm))
          obtain ⟨h1, h2⟩ := HG2.out j hjm
          have HTjj := Lib.hid (HTj.out j hjm)
          have HMl := Lib.hid (HTjl.out j hj)
          have HA := Lib.hid (fun W (lo : Lo w6 W) => rown_own u2 (q.getD j Cu.zS).1 W (ra.lo lo) (by omega))
          have HB := Lib.hid (fun W (lo : Lo w6 W) => rown_own v2 (q.getD j Cu.zS).2 W (rb.lo lo) (by omega))
          obtain ⟨pa, ca, rfl, _⟩ := ra.form
          obtain ⟨pb, cb, rfl, _⟩ := rb.form
          clear ra rb h1 h2 HG2 HTj HTjl HTq
          generalize q.getD j Cu.zS = x at *
          obtain ⟨x1, x2⟩ := x
          dsimp only at HA HB d0 d1
          generalize x1.length = n1 at *
          generalize x2.length = n2 at *
          obtain ⟨⟨t0, t1⟩, _, _⟩ := cu_two HX.out
          have hb2 := World.block_lt_of_cell? _ _ d0
          have hXl := World.block_lt_of_cell? _ _ t0
          have HS : Hid (∀ W, Lo w6 W → wr.heap.size ≤ W.heap.size → OwnAt b (off + k * 2 + 1) b2 (off2 + j * 2) (.slice (some ⟨b2, off2, none⟩) m cs) (.slice pa n1 ca) (.slice pb n2 cb) w6 wr.heap.size W) := Lib.hid (fun W lo hz => ⟨(lo.cell (by rw [HXs.out]; exact hb)).trans HE1.out, (lo.cell hb2).trans d0, (lo.cell hb2).trans d1, Lib.hid lo, Lib.hid hz⟩)
          have HS0 : Hid (OwnAt b (off + k * 2 + 1) b2 (off2 + j * 2) (.slice (some ⟨b2, off2, none⟩) m cs) (.slice pa n1 ca) (.slice pb n2 cb) w6 wr.heap.size wr.drew) := Lib.hid (HS.out _ HLj.out.drew (by simp))
          have HSl : Hid (∀ W W', OwnAt b (off + k * 2 + 1) b2 (off2 + j * 2) (.slice (some ⟨b2, off2, none⟩) m cs) (.slice pa n1 ca) (.slice pb n2 cb) w6 wr.heap.size W → Lo W W' → OwnAt b (off + k * 2 + 1) b2 (off2 + j * 2) (.slice (some ⟨b2, off2, none⟩) m cs) (.slice pa n1 ca) (.slice pb n2 cb) w6 wr.heap.size W') := Lib.hid (fun W W' hW lo => HS.out W' (hW.2.2.2.1.out.trans lo) (Nat.le_trans hW.2.2.2.2.out lo.size))
          have HT1 : Hid (∀ W, Lo wr W → W.cell? ⟨X, 1, none⟩ = some (.slice pu j cu)) := Lib.hid (fun W lo => (lo.cell hXl).trans t1)
          have C1 : Hid (∀ W, OwnAt b (off + k * 2 + 1) b2 (off2 + j * 2) (.slice (some ⟨b2, off2, none⟩) m cs) (.slice pa n1 ca) (.slice pb n2 cb) w6 wr.heap.size W → Calls Try.prog 24 #[.slice pa n1 ca] W fun e w' => ∃ p c, e = .returned (.slice p n1 c) ∧ Own w' wr.heap.size (.slice p n1 c) x1 ∧ Lo W w' ∧ OwnAt b (off + k * 2 + 1) b2 (off2 + j * 2) (.slice (some ⟨b2, off2, none⟩) m cs) (.slice pa n1 ca) (.slice pb n2 cb) w6 wr.heap.size w') := Lib.hid (fun W hW => (HA.out W hW.2.2.2.1.out).mono (by rintro e w' ⟨p, c, h1, h2, h3⟩; exact ⟨p, c, h1, h2.mono hW.2.2.2.2.out, h3, HSl.out W w' hW h3⟩))
          have C2 : Hid (∀ W, OwnAt b (off + k * 2 + 1) b2 (off2 + j * 2) (.slice (some ⟨b2, off2, none⟩) m cs) (.slice pa n1 ca) (.slice pb n2 cb) w6 wr.heap.size W → Calls Try.prog 24 #[.slice pb n2 cb] W fun e w' => ∃ p c, e = .returned (.slice p n2 c) ∧ Own w' wr.heap.size (.slice p n2 c) x2 ∧ Lo W w' ∧ OwnAt b (off + k * 2 + 1) b2 (off2 + j * 2) (.slice (some ⟨b2, off2, none⟩) m cs) (.slice pa n1 ca) (.slice pb n2 cb) w6 wr.heap.size w') := Lib.hid (fun W hW => (HB.out W hW.2.2.2.1.out).mono (by rintro e w' ⟨p, c, h1, h2, h3⟩; exact ⟨p, c, h1, h2.mono hW.2.2.2.2.out, h3, HSl.out W w' hW h3⟩))
          have HDw : Hid (∀ T, (T < X + 1 ∨ (Value.slice pu j cu).ownBlock = some T) → T < wr.heap.size) := Lib.hid (fun T hT => by
            have := HSz.out
            rcases hT with hT | hT
            · omega
            · exact (OwnR.lt HO.out hT).2)
          have hjm1 : (j : Int) < (m : Int) := by omega
          have hj0 : (0 : Int) ≤ (j : Int) := by omega
          have hkn1 : (k : Int) < (n : Int) := by omega
          have hk0 : (0 : Int) ≤ (k : Int) := by omega
          have HLr := Lib.hid (Lo.refl wr)
          have d0' := (HLj.out.cell hb2).trans d0
          have d1' := (HLj.out.cell hb2).trans d1
          go_wp2_with fail
          clear k1 t0 t1 d0 d1 d0' d1'
          rw [← ownLd_def]
          have t1 := HT1.out _ ((Lo.refl wr).drew)
          go_region_held3 (fun W => OwnAt b (off + k * 2 + 1) b2 (off2 + j * 2) (.slice (some ⟨b2, off2, none⟩) m cs) (.slice pa n1 ca) (.slice pb n2 cb) w6 wr.heap.size W) (first | assumption | exact HS0.out | exact HSl.out _ _ hSB ((Lo.refl _).alloc _) | exact HS.out _ HL9.out HW9.out | exact HS.out _ (HL9.out.set (p := ⟨X, 1, none⟩) (by rw [HXs.out]; exact Nat.le_refl _) _) (by simp; exact HW9.out))
            (first
              | (go_at_call 24; refine (C1.out _ (by assumption)).mono ?_; rintro e w5 ⟨p5, c5, rfl, hown, lo, hSA⟩; have HU5 := Lib.hid hown; have HL5 := Lib.hid (((Lo.refl wr).drew).trans lo); have t2 := HT1.out _ HL5.out; clear hown lo)
              | (go_at_call 24; refine (C2.out _ (by assumption)).mono ?_; rintro e w7 ⟨p7, c7, rfl, hown, lo, hSB⟩; have HU7 := Lib.hid (Own.lo HU5.out lo); have HV7 := Lib.hid hown; have HL7 := Lib.hid (HL5.out.trans lo); have t3 := HT1.out _ HL7.out; have t5 := fun o => HT1.out _ (HL7.out.alloc o); clear hown lo; have HI7 : Hid (Ind (fun W => RS W [.slice p5 n1 c5, .slice p7 n2 c7] (x1, x2)) (fun T => T < X + 1 ∨ (Value.slice pu j cu).ownBlock = some T) w7) := Lib.hid ((((Own.new HU7.out (w0 := wr) (Nat.le_refl _)).and (Own.new HV7.out (w0 := wr) (Nat.le_refl _))).mono fun W hW => ⟨_, _, rfl, hW.1, hW.2⟩).weak fun T _ hT => HDw.out T hT))
              | (refine step_appR (R := RS) rfl (.tmp 30) (.tmp 52) 40 rfl 35 2 48 (.agg #[.slice none 0 0, .slice none 0 0]) Try.underlying40 stair_info rfl (by omega) (by omega) (fun T => T < X + 1) (X + 1) (.slice pu j cu) _ rfl (HO.out.lo (HL7.out.alloc _)) _ [.slice p5 n1 c5, .slice p7 n2 c7] (x1, x2) rfl rfl (by intro u hu; simp at hu; rcases hu with rfl | rfl <;> rfl) (fun i' u' hh => (cells_two (lit_block _ _ (by simp) _) hh)) (HI7.out.lo ((Lo.refl _).alloc _)) (by rw [HMl.out]; omega) (by have := HSz.out; have := HL7.out.size; simp; omega) ?_; rw [HMl.out]; intro p9 c9 w9 told; have HO9 := Lib.hid told.1; have HL9 := Lib.hid (told.2.1 w6 ((HLj.out.trans HL7.out).alloc _) (by rw [HXs.out]; omega)); have HK9 := Lib.hid (block_agr told.2.2.1 (lo_block (HL7.out.alloc _) HX.out) (fun hS => by have := (OwnR.lt HO.out hS).1; omega)); have HZ9 := Lib.hid told.2.2.1.1; clear told; obtain ⟨⟨y0, y1⟩, e0, e1⟩ := cu_two HK9.out; have HW9 : Hid (wr.heap.size ≤ w9.heap.size) := Lib.hid (by have h1 := HZ9.out; have h2 := HL7.out.size; have h3 := (((Lo.refl w7).alloc (.cells #[.slice p5 n1 c5, .slice p7 n2 c7] 35))).size; omega)))
          all_goals
            clear HA HB HDw HS HSl HS0 C1 C2
            go_wp2_with fail
            go_roundw
            case rel =>
              refine ⟨j + 1, p9, c9, by omega, by go_num, Lib.hid (set_two1 HK9.out), ?_, Lib.hid (by have := HZ9.out; have := HSz.out; have := HL7.out.size; simp at *; omega), Lib.hid (HL9.out.set (p := ⟨X, 1, none⟩) (by rw [HXs.out]; exact Nat.le_refl _) _)⟩
              exact Lib.hid (by rw [HTjj.out]; exact HO9.out.agr (agr_set (S := fun T => T = X) _ _ _ rfl) (fun g hg hS => by have := (OwnR.lt HO9.out hg).1; omega) (fun T hT => by show T < X + 1; have hT2 : T = X := hT; omega))
            case measure => simp [intOf]; omega
        · obtain rfl : j = m := by omega
          rw [HTq.out] at HO
          have HOo := Lib.hid (HOk.out.lo HLj.out)
          have HI9 : Hid (Ind (fun W => RK W [.int .i64 y, .slice pu j cu] (y, q)) (fun T => False ∨ (Value.slice p k c).ownBlock = some T) wr) := Lib.hid (((OwnR.ind HO.out (fun T h => h)).mono fun W hW => ⟨_, rfl, hW⟩).weak fun T _ hT => by
            rcases hT with hT | hT
            · exact hT.elim
            · have := (OwnR.lt HOk.out hT).2
              have := HXs.out
              show T < X + 1; omega)
          have HW3 : Hid (w.heap.size ≤ wr.heap.size) := Lib.hid (Nat.le_trans HLk.out.size HLj.out.size)
          obtain ⟨⟨c0, c1⟩, _, _⟩ := cu_two HX.out
          go_wp2_with (at_builtin; refine wpList_appR (R := RK) _ rfl (.tmp 55) (.tmp 57) 22 rfl 42 2 32 (.agg #[.int .i64 0, .slice none 0 0]) Try.underlying22 kern_info rfl (by omega) (by omega) (fun _ => False) w.heap.size (.slice p k c) _ rfl (HOo.out.lo ((Lo.refl _).alloc _)) _ [.int .i64 y, .slice pu j cu] (y, q) rfl rfl (by intro u hu; simp at hu; rcases hu with rfl | rfl <;> rfl) (fun i' u' hh => (cells_two (lit_block _ _ (by simp) _) hh)) (HI9.out.lo ((Lo.refl _).alloc _)) (by rw [HLl.out]; omega) (by have := HW3.out; simp at *; omega) ?_; rw [HLl.out]; intro p9 c9 w9 told; have HO9 := Lib.hid told.1; have HL9 := Lib.hid (told.2.1 w ((HLk.out.trans HLj.out).alloc _) (Nat.le_refl _)); clear told)
          go_roundw
          case rel => exact ⟨k + 1, p9, c9, by omega, by go_num, rfl, Lib.hid (by rw [HTkk.out]; exact HO9.out), HL9⟩
          case measure => simp [intOf]; omega
    · obtain rfl : k = n := by omega
      have hta : l.take k = l := List.take_of_length_le (by rw [HN.out]; exact Nat.le_refl _)
      rw [hta] at HOk
      clear hta
      go_wp2_with fail
      go_ret
      exact ⟨p, c, rfl, OwnR.row HOk.out, HLk.out⟩
end Go.Proofs.Ytcnmfgdeanbhoaa
/-
  The contract of the document's answer for layer 3, Bytes. No conditions beyond those stated.
-/
namespace Bn
theorem bytes_eq (v : Int) (n : Nat) : bytes v n = tail n (if v < 0 then v + ((256 ^ n : Nat) : Int) else v).toNat := rfl
end Bn
namespace Go.Proofs.Ytcnmfgdeanbhoaa
open Go.RowKit

set_option maxHeartbeats 800000 in
/-- The loop of Bytes, from a number that is not below 0 on. -/
theorem rbytes_pos (u n : Nat) (w : World) (hn : n ≤ 4) (hu : u < 4294967296) :
    Calls Try.prog 38 #[.int .i64 u, .int .i64 n] w fun e w' => e = .returned (.string ⟨(Bn.tail n u).toArray⟩) ∧ Lo w w' := by
  have h0 : ¬ (u : Int) < 0 := by omega
  go_enter Try.func38, Try.ntmps38
  go_wp2_with fail
  go_loopw [0, 5, 6] (fun a o i W => ∃ (k m : Nat) (l : List UInt8), k ≤ n ∧ i = .int .i64 k ∧ a = .int .i64 m ∧ o = .string ⟨l.toArray⟩ ∧ Hid (m = u / 256 ^ k) ∧ Hid (l = Bn.tail k u) ∧ Lo w W) (fun _ _ i _ => n - (intOf i).toNat)
  case atStart => exact ⟨0, u, [], Nat.zero_le _, rfl, rfl, rfl, Lib.hid (by simp), Lib.hid rfl, Lo.refl _⟩
  case round =>
    obtain ⟨k, m, l, hk, rfl, rfl, rfl, Hmo, Hl, hlo⟩ := hrel
    have hmb : m < 4294967296 := by rw [Hmo.out]; exact Nat.lt_of_le_of_lt (Nat.div_le_self _ _) hu
    have hll : l.length ≤ 4 := by rw [Hl.out, Bn.tail_len]; omega
    by_cases hlt : k < n
    · have hone : ∀ W : World, (convert 58 9 (.slice (some ⟨W.heap.size, 0, none⟩) 1 1)).run Try.prog (W.alloc (.cells #[.int .u8 ((m : Int) % 256)] 5)) = .ok (.string ⟨[UInt8.ofNat ((m : Int) % 256).toNat].toArray⟩) (W.alloc (.cells #[.int .u8 ((m : Int) % 256)] 5)) := fun W => one_byte W _ (by omega) (by omega)
      go_wp2_with fail
      exact ⟨⟨k + 1, m / 256, UInt8.ofNat (m % 256) :: l, by omega, by go_num, by go_num, congrArg Value.string (Gk.cat_list [UInt8.ofNat (m % 256)] l), Lib.hid (by rw [Hmo.out, Nat.pow_succ, Nat.div_div_eq_div_mul]), Lib.hid (by rw [Bn.tail_cons, Bn.dig, Hmo.out, Hl.out]), hlo.alloc _⟩, by simp [intOf]; omega⟩
    · obtain rfl : k = n := by omega
      go_wp2_with fail
      go_ret
      exact ⟨congrArg (fun l : List UInt8 => Ending.returned (Value.string ⟨l.toArray⟩)) Hl.out, hlo⟩

set_option maxHeartbeats 800000 in
theorem rbytes_neg (x : Int) (u n : Nat) (w : World) (hn : n ≤ 4) (hu : u < 4294967296) (h0 : x < 0) (hx : x + ((256 ^ n : Nat) : Int) = u) (_hP1 : 256 ^ n ≤ 4294967296) :
    Calls Try.prog 38 #[.int .i64 x, .int .i64 n] w fun e w' => e = .returned (.string ⟨(Bn.tail n u).toArray⟩) ∧ Lo w w' := by
  have HP := Lib.hid (fun W => rpower_any n W hn)
  generalize 256 ^ n = P at *
  go_enter Try.func38, Try.ntmps38
  go_wp2_with fail
  refine (HP.out _).mono ?_
  rintro e w1 ⟨rfl, rfl⟩
  go_wp2_with fail
  go_loopw [0, 5, 6] (fun a o i W => ∃ (k m : Nat) (l : List UInt8), k ≤ n ∧ i = .int .i64 k ∧ a = .int .i64 m ∧ o = .string ⟨l.toArray⟩ ∧ Hid (m = u / 256 ^ k) ∧ Hid (l = Bn.tail k u) ∧ Lo w W) (fun _ _ i _ => n - (intOf i).toNat)
  case atStart => exact ⟨0, u, [], Nat.zero_le _, rfl, congrArg (Value.int .i64) (by omega), rfl, Lib.hid (by simp), Lib.hid rfl, Lo.refl _⟩
  case round =>
    obtain ⟨k, m, l, hk, rfl, rfl, rfl, Hmo, Hl, hlo⟩ := hrel
    have hmb : m < 4294967296 := by rw [Hmo.out]; exact Nat.lt_of_le_of_lt (Nat.div_le_self _ _) hu
    have hll : l.length ≤ 4 := by rw [Hl.out, Bn.tail_len]; omega
    by_cases hlt : k < n
    · have hone : ∀ W : World, (convert 58 9 (.slice (some ⟨W.heap.size, 0, none⟩) 1 1)).run Try.prog (W.alloc (.cells #[.int .u8 ((m : Int) % 256)] 5)) = .ok (.string ⟨[UInt8.ofNat ((m : Int) % 256).toNat].toArray⟩) (W.alloc (.cells #[.int .u8 ((m : Int) % 256)] 5)) := fun W => one_byte W _ (by omega) (by omega)
      go_wp2_with fail
      exact ⟨⟨k + 1, m / 256, UInt8.ofNat (m % 256) :: l, by omega, by go_num, by go_num, congrArg Value.string (Gk.cat_list [UInt8.ofNat (m % 256)] l), Lib.hid (by rw [Hmo.out, Nat.pow_succ, Nat.div_div_eq_div_mul]), Lib.hid (by rw [Bn.tail_cons, Bn.dig, Hmo.out, Hl.out]), hlo.alloc _⟩, by simp [intOf]; omega⟩
    · obtain rfl : k = n := by omega
      go_wp2_with fail
      go_ret
      exact ⟨congrArg (fun l : List UInt8 => Ending.returned (Value.string ⟨l.toArray⟩)) Hl.out, hlo⟩

theorem rbytes_any (x z : Int) (w : World) (hz : Bn.isSize z = true) (hf : Bn.fits x z = true) :
    Calls Try.prog 38 #[.int .i64 x, .int .i64 z.natAbs] w fun e w' => e = .returned (.string ⟨(Bn.bytes x z.natAbs).toArray⟩) ∧ Lo w w' := by
  have h4 := (Bn.isSize_wide hz).2
  have hP1 : 256 ^ z.natAbs ≤ 4294967296 := Nat.le_trans (Nat.pow_le_pow_right (by omega) h4) (by decide)
  have hge := Bn.fits_ge hf
  have hlt : x < ((256 ^ z.natAbs : Nat) : Int) := by
    unfold Bn.fits at hf
    generalize 256 ^ z.natAbs = P at *
    by_cases h : z < 0
    · rw [if_pos h] at hf; simp only [Bool.and_eq_true, decide_eq_true_eq] at hf; omega
    · rw [if_neg h] at hf; simp only [Bool.and_eq_true, decide_eq_true_eq] at hf; omega
  rw [Bn.bytes_eq]
  by_cases h0 : x < 0
  · rw [if_pos h0]
    exact rbytes_neg x _ z.natAbs w h4 (by omega) h0 (by omega) hP1
  · rw [if_neg h0]
    obtain ⟨u, rfl⟩ := Int.eq_ofNat_of_zero_le (show 0 ≤ x by omega)
    rw [Int.toNat_natCast]
    exact rbytes_pos u z.natAbs w h4 (by omega)
end Go.Proofs.Ytcnmfgdeanbhoaa
/-
  The contract of the document's answer for layer 12, Put. No conditions beyond those stated.
-/
namespace Co
open Bn He
theorem flat_take {l : List Int} {k : Nat} (h : k < l.length) : flat (l.take (k + 1)) = flat (l.take k) ++ bytes (l.getD k 0) 2 := by
  rw [Bn.take_snoc h, flat_append]
  simp [flat]
theorem nums_more (Y : List (Int × Int × Int)) (a b c : Int) : flat (nums (Y ++ [(a, b, c)])) = flat (nums Y) ++ bytes a 2 ++ bytes b 2 ++ bytes c 2 := by
  rw [nums_append, flat_append]
  simp [nums, flat]
theorem one_is (l : List Int) : one l = [0, 1] ++ bytes l.length 2 ++ flat l := rfl
theorem two_is (l : List Int) : two l = [0, 2] ++ bytes (runs l).length 2 ++ flat (nums (tr l)) := by
  unfold two tr
  rw [recs_flat]; rfl
end Co
namespace Go.Proofs.Ytcnmfgdeanbhoaa
open Go.RowKit

theorem cadd_to (a b c : List UInt8) (hc : a ++ b = c) (h : a.length + b.length ≤ 100000000) (W : World) : (Op.stringOp .add ⟨a.toArray⟩ ⟨b.toArray⟩).run Try.prog W = .ok (.string ⟨c.toArray⟩) W := by
  rw [← hc, run_string_add_sum W _ _ (by show a.length + b.length ≤ _; omega), Gk.cat_list]
theorem cbytes2 (x : Int) (W : World) (h0 : 0 ≤ x) (h1 : x < 65536) : Calls Try.prog 38 #[.int .i64 x, .int .i64 2] W fun e w' => e = .returned (.string ⟨(Bn.bytes x 2).toArray⟩) ∧ Lo W w' := by
  have h := rbytes_any x 2 W (by decide) (by unfold Bn.fits; rw [if_neg (by omega)]; simp; omega)
  rw [show ((2 : Int).natAbs) = 2 from rfl, show ((2 : Nat) : Int) = 2 from rfl] at h
  exact h
abbrev TwoC (b o1 o2 : Nat) (x y : Int) (w0 W : World) : Prop := W.cell? ⟨b, o1, none⟩ = some (.int .i64 x) ∧ W.cell? ⟨b, o2, none⟩ = some (.int .i64 y) ∧ Hid (Lo w0 W)

set_option maxHeartbeats 400000 in
theorem rcput_arg (v : Value) (l : List Int) (w : World) (h : Row w v l) (hn : l.length ≤ 1000000) (hc : Co.isCov l = false) : Calls Try.prog 36 #[v] w fun e w' => e = strErr ([], 1) ∧ Lo w w' := by
  have HI := Lib.hid (ris12_any v l w h hn)
  rw [hc] at HI
  obtain ⟨p, c, rfl, _⟩ := h.form
  unfold strErr
  clear h hc
  go_enter Try.func36, Try.ntmps36
  go_wp2_with fail
  refine HI.out.mono ?_
  rintro e w1 ⟨rfl, lo⟩
  have HL := Lib.hid lo
  clear lo
  go_wp2_with fail
  go_ret2
  exact ⟨rfl, HL.out⟩

set_option maxRecDepth 100000 in
set_option maxHeartbeats 6400000 in
theorem rcput_ok (v : Value) (l : List Int) (w : World) (h : Row w v l) (hc : Co.isCov l = true) : Calls Try.prog 36 #[v] w fun e w' => e = strErr (Co.put l) ∧ Lo w w' := by
  have hcl := Co.cov_len hc
  have HI := Lib.hid (ris12_any v l w h (by omega))
  rw [hc] at HI
  obtain ⟨p, c, rfl, _⟩ := h.form
  have HR := Lib.hid h
  have HM := Lib.hid (fun (k : Nat) (hk : k < l.length) => Co.cov_mem hc (l.getD k 0) (by rw [List.getD, List.getElem?_eq_getElem hk]; exact List.getElem_mem _))
  have HT : Hid ([] ++ Co.jn 0 0 (l.getD 0 0) (l.drop 0) = Co.tr l) := Lib.hid (by rw [List.nil_append, List.drop_zero]; exact Co.jn_all l)
  have HTl := Lib.hid (show (Co.tr l).length ≤ 65535 by have h1 := Co.tr_len l; have h2 := Co.runs_len l; omega)
  have HOne : Hid (∀ F, [0, 1] ++ Bn.bytes l.length 2 = F → F ++ Co.flat l = Co.one l) := Lib.hid (fun F h => by rw [← h]; exact (Co.one_is l).symm)
  have HTwo : Hid (∀ Z m : List UInt8, Z = Co.flat (Co.nums (Co.tr l)) → [0, 2] ++ Bn.bytes (Co.tr l).length 2 = m → m ++ Z = Co.two l) := Lib.hid (fun Z m h1 h2 => by rw [h1, ← h2, Co.two_is, Co.tr_len])
  have HP : Hid (Co.put l = if 6 * (Co.tr l).length < 2 * l.length then (Co.two l, 0) else (Co.one l, 0)) := Lib.hid (by unfold Co.put; rw [if_neg (by rw [hc]; simp), Co.tr_len])
  generalize Co.tr l = T at *
  have HTk := Lib.hid (fun k => @Co.flat_take l k)
  have HSa := Lib.hid (fun (k f : Nat) (a : Int) => @Co.jn_same l k f a)
  have HNx := Lib.hid (fun (k f : Nat) (a : Int) => @Co.jn_next l k f a)
  have HAll : Hid (l.take l.length = l) := Lib.hid List.take_length
  have HDn : Hid (l.drop l.length = []) := Lib.hid List.drop_length
  generalize hn : l.length = n at *
  have CBn := Lib.hid (fun W => cbytes2 (n : Int) W (by omega) (by omega))
  obtain ⟨F, hF⟩ : ∃ F, [0, 1] ++ Bn.bytes (n : Int) 2 = F := ⟨_, rfl⟩
  have HOneF := Lib.hid (HOne.out F hF)
  have hFl : F.length = 4 := by rw [← hF, List.length_append, Bn.bytes_len]; rfl
  have x0 := fun W => cadd_to [0, 1] (Bn.bytes (n : Int) 2) F hF (by rw [Bn.bytes_len]; simp) W
  unfold strErr
  clear h hc hn hF HOne
  go_enter Try.func36, Try.ntmps36
  go_wp2_with fail
  refine HI.out.mono ?_
  rintro e w1 ⟨rfl, lo⟩
  have HL := Lib.hid lo
  clear lo
  go_wp2_with fail
  refine (CBn.out _).mono ?_
  rintro e w2 ⟨rfl, lo⟩
  have HL2 := Lib.hid (HL.out.trans lo)
  clear lo
  go_wp2_with fail
  clear x0
  go_loopw [4, 5, 6, 7, 8] (fun so sr sm sf si W => ∃ (k f m : Nat) (o r : List UInt8) (Y : List (Int × Int × Int)), k ≤ n ∧ f ≤ k ∧ si = .int .i64 (k : Int) ∧ sf = .int .i64 (f : Int) ∧ sm = .int .i64 (m : Int) ∧ so = .string ⟨o.toArray⟩ ∧ sr = .string ⟨r.toArray⟩ ∧
      o.length = 4 + 2 * k ∧ r.length = 6 * m ∧ Hid (Y.length = m) ∧ Hid (o = F ++ Co.flat (l.take k)) ∧ Hid (r = Co.flat (Co.nums Y)) ∧ Hid (Y ++ Co.jn k f (l.getD f 0) (l.drop k) = T) ∧ Hid (Lo w W)) (fun _ _ _ _ si _ => n - (intOf si).toNat)
  case atStart => exact ⟨0, 0, 0, F, [], [], Nat.zero_le _, Nat.le_refl _, rfl, rfl, rfl, rfl, rfl, by omega, rfl, Lib.hid rfl, Lib.hid (by rw [List.take_zero]; exact (List.append_nil F).symm), Lib.hid rfl, HT, HL2⟩
  case round =>
    obtain ⟨k, f, m, o, r, Y, hk, hfk, rfl, rfl, rfl, rfl, rfl, hol, hrl, HYm, HO, HRr, HY, HLw⟩ := hrel
    by_cases hlt : k < n
    · have hrow := HR.out.lo HLw.out
      obtain ⟨b, off, rfl, ck⟩ := hrow.at_ (k := k) hlt
      have hgk := HM.out k hlt
      have HTk1 := Lib.hid (HTk.out k hlt)
      have hmb : m ≤ 65535 := by
        have h1 : Y.length ≤ T.length := by rw [← HY.out, List.length_append]; omega
        have h2 := HYm.out
        have h3 := HTl.out
        omega
      obtain ⟨o1, ho1⟩ : ∃ q, o ++ Bn.bytes (l.getD k 0) 2 = q := ⟨_, rfl⟩
      have HO1 : Hid (o1 = F ++ Co.flat (l.take (k + 1))) := Lib.hid (by rw [HTk1.out, ← List.append_assoc, ← HO.out, ho1])
      have ho1l : o1.length = 4 + 2 * (k + 1) := by rw [← ho1, List.length_append, Bn.bytes_len]; omega
      have x0 := fun W => cadd_to o _ o1 ho1 (by rw [Bn.bytes_len]; omega) W
      have HL0 := Lib.hid (show l.getD k 0 = l.getD k 0 from rfl)
      obtain ⟨g, hg⟩ : ∃ g, l.getD k 0 = g := ⟨_, rfl⟩
      have HG := Lib.hid hg
      rw [hg] at ck hgk x0
      have CBk := Lib.hid (fun W => cbytes2 g W (by omega) (by omega))
      clear hrow ho1 HL0 hg HTk1
      go_wp2_with fail
      refine (CBk.out _).mono ?_
      rintro e w2 ⟨rfl, lo⟩
      have HL2 := Lib.hid (HLw.out.trans lo)
      clear lo ck CBk
      obtain ⟨b', off', e1, ck⟩ := (HR.out.lo HL2.out).at_ (k := k) hlt
      simp only [Option.some.injEq, Addr.mk.injEq, and_true] at e1
      obtain ⟨rfl, rfl⟩ := e1
      rw [HG.out] at ck
      have hw1 : IntKind.i64.wrap ((k : Int) + 1) = (k : Int) + 1 := IntWalk.i64_in _ (by omega)
      have hw2 : IntKind.i64.wrap (g + 1) = g + 1 := IntWalk.i64_in _ (by omega)
      have hi0 : (0 : Int) ≤ (k : Int) := by omega
      have hi1 : (0 : Int) ≤ (k : Int) + 1 := by omega
      have hi2 : (k : Int) < (n : Int) := by omega
      have hi3 : ((k : Int) + 1).toNat = k + 1 := by omega
      by_cases hc1 : k + 1 < n
      · obtain ⟨b', off', e2, c2⟩ := (HR.out.lo HL2.out).at_ (k := k + 1) hc1
        simp only [Option.some.injEq, Addr.mk.injEq, and_true] at e2
        obtain ⟨rfl, rfl⟩ := e2
        have hi4 : (k : Int) + 1 < (n : Int) := by omega
        have hd1 : decide ((k : Int) + 1 < (n : Int)) = true := decide_eq_true hi4
        have hd2 : decide (k + 1 < n) = true := decide_eq_true hc1
        by_cases hc2 : l.getD (k + 1) 0 = g + 1
        · have HS : Hid (Y ++ Co.jn (k + 1) f (l.getD f 0) (l.drop (k + 1)) = T) := Lib.hid (by rw [← HSa.out k f _ hlt ⟨hc1, by rw [HG.out]; exact hc2⟩]; exact HY.out)
          rw [hc2] at c2
          clear hc2
          go_wp2_with fail
          go_quiet (fail)
          have HL3 := Lib.hid (HL2.out.drewN nq)
          go_wp2_with fail
          go_roundw
          case rel => exact ⟨k + 1, f, m, o1, r, Y, by omega, by omega, by go_num, rfl, rfl, rfl, rfl, ho1l, hrl, HYm, HO1, HRr, HS, HL3⟩
          case measure => simp [intOf]; omega
        · have hqf : (l.getD (k + 1) 0 == g + 1) = false := by simpa using hc2
          have HNX := Lib.hid (show (Y ++ [(l.getD f 0, l.getD k 0, (f : Int))]) ++ Co.jn (k + 1) (k + 1) (l.getD (k + 1) 0) (l.drop (k + 1)) = T from by rw [List.append_assoc, List.singleton_append, ← HNx.out k f _ hlt (fun h => hc2 (by rw [← HG.out]; exact h.2))]; exact HY.out)
          obtain ⟨g1, hg1⟩ : ∃ g1, l.getD (k + 1) 0 = g1 := ⟨_, rfl⟩
          rw [hg1] at c2 hqf
          clear hc2 hg1
          go_wp2_with fail
          go_quiet (fail)
          clear c2 ck
          have HL3 := Lib.hid (HL2.out.drewN nq)
          generalize w2.drewN nq = W3 at *
          obtain ⟨b', off', e3, ck3⟩ := (HR.out.lo HL3.out).at_ (k := k) hlt
          simp only [Option.some.injEq, Addr.mk.injEq, and_true] at e3
          obtain ⟨rfl, rfl⟩ := e3
          obtain ⟨b', off', e4, cf3⟩ := (HR.out.lo HL3.out).at_ (k := f) (by omega)
          simp only [Option.some.injEq, Addr.mk.injEq, and_true] at e4
          obtain ⟨rfl, rfl⟩ := e4
          rw [HG.out] at ck3
          have hgf := HM.out f (by omega)
          rw [HG.out] at HNX
          generalize l.getD f 0 = gf at *
          have hbw := World.block_lt_of_cell? W3 _ ck3
          have HTr : Hid (∀ W, Lo W3 W → TwoC b (off + f) (off + k) gf g W3 W) := Lib.hid (fun W lo => ⟨(lo.cell hbw).trans cf3, (lo.cell hbw).trans ck3, Lib.hid lo⟩)
          have CBy : Hid (∀ (x : Int) W, 0 ≤ x → x < 65536 → TwoC b (off + f) (off + k) gf g W3 W → Calls Try.prog 38 #[.int .i64 x, .int .i64 2] W fun e w' => e = .returned (.string ⟨(Bn.bytes x 2).toArray⟩) ∧ TwoC b (off + f) (off + k) gf g W3 w') := Lib.hid (fun x W h0 h1 hW => (cbytes2 x W h0 h1).mono fun _ _ ⟨h1, h2⟩ => ⟨h1, HTr.out _ (hW.2.2.out.trans h2)⟩)
          obtain ⟨u1, hu1⟩ : ∃ q, r ++ Bn.bytes gf 2 = q := ⟨_, rfl⟩
          obtain ⟨u2, hu2⟩ : ∃ q, u1 ++ Bn.bytes g 2 = q := ⟨_, rfl⟩
          obtain ⟨u3, hu3⟩ : ∃ q, u2 ++ Bn.bytes (f : Int) 2 = q := ⟨_, rfl⟩
          have HU : Hid (u3 = Co.flat (Co.nums (Y ++ [(gf, g, (f : Int))]))) := Lib.hid (by rw [Co.nums_more, ← HRr.out, hu1, hu2, hu3])
          have n1 : u1.length = r.length + 2 := by rw [← hu1, List.length_append, Bn.bytes_len]
          have n2 : u2.length = u1.length + 2 := by rw [← hu2, List.length_append, Bn.bytes_len]
          have n3 : u3.length = u2.length + 2 := by rw [← hu3, List.length_append, Bn.bytes_len]
          have hul : u3.length = 6 * (m + 1) := by omega
          have x1 := fun W => cadd_to r _ u1 hu1 (by rw [Bn.bytes_len]; omega) W
          have x2 := fun W => cadd_to u1 _ u2 hu2 (by rw [Bn.bytes_len]; omega) W
          have x3 := fun W => cadd_to u2 _ u3 hu3 (by rw [Bn.bytes_len]; omega) W
          have s1 : (0 : Int) ≤ (k : Int) := by omega
          have s2 : (k : Int) < (n : Int) := by omega
          have s3 : (0 : Int) ≤ (f : Int) := by omega
          have s4 : (f : Int) < (n : Int) := by omega
          clear hu1 hu2 hu3 n1 n2 n3 ck3 cf3 hbw
          go_wp2_with fail
          go_region_held3 (fun W => TwoC b (off + f) (off + k) gf g W3 W) (first | assumption | exact HTr.out _ ((Lo.refl _).drew))
            (first | (go_at_call 38; refine (CBy.out _ _ (by omega) (by omega) (by assumption)).mono ?_; rintro e wB ⟨rfl, hSB⟩))
          all_goals
            have HL9 := Lib.hid (HL3.out.trans hSB.2.2.out)
            clear CBy x1 x2 x3 HTr hSB
            go_wp2_with fail
            go_roundw
            case rel => exact ⟨k + 1, k + 1, m + 1, o1, u3, _, by omega, by omega, by go_num, by go_num, by go_num, rfl, rfl, ho1l, hul, Lib.hid (by rw [List.length_append, HYm.out]; rfl), HO1, HU, HNX, HL9⟩
            case measure => simp [intOf]; omega
      · have hi4 : ¬ (k : Int) + 1 < (n : Int) := by omega
        have hd1 : decide ((k : Int) + 1 < (n : Int)) = false := decide_eq_false hi4
        have hd2 : decide (k + 1 < n) = false := decide_eq_false hc1
        have HNX := Lib.hid (show (Y ++ [(l.getD f 0, l.getD k 0, (f : Int))]) ++ Co.jn (k + 1) (k + 1) (l.getD (k + 1) 0) (l.drop (k + 1)) = T from by rw [List.append_assoc, List.singleton_append, ← HNx.out k f _ hlt (fun h => hc1 h.1)]; exact HY.out)
        go_wp2_with fail
        go_quiet (fail)
        clear ck
        have HL3 := Lib.hid (HL2.out.drewN nq)
        generalize w2.drewN nq = W3 at *
        obtain ⟨b', off', e3, ck3⟩ := (HR.out.lo HL3.out).at_ (k := k) hlt
        simp only [Option.some.injEq, Addr.mk.injEq, and_true] at e3
        obtain ⟨rfl, rfl⟩ := e3
        obtain ⟨b', off', e4, cf3⟩ := (HR.out.lo HL3.out).at_ (k := f) (by omega)
        simp only [Option.some.injEq, Addr.mk.injEq, and_true] at e4
        obtain ⟨rfl, rfl⟩ := e4
        rw [HG.out] at ck3
        have hgf := HM.out f (by omega)
        rw [HG.out] at HNX
        generalize l.getD f 0 = gf at *
        have hbw := World.block_lt_of_cell? W3 _ ck3
        have HTr : Hid (∀ W, Lo W3 W → TwoC b (off + f) (off + k) gf g W3 W) := Lib.hid (fun W lo => ⟨(lo.cell hbw).trans cf3, (lo.cell hbw).trans ck3, Lib.hid lo⟩)
        have CBy : Hid (∀ (x : Int) W, 0 ≤ x → x < 65536 → TwoC b (off + f) (off + k) gf g W3 W → Calls Try.prog 38 #[.int .i64 x, .int .i64 2] W fun e w' => e = .returned (.string ⟨(Bn.bytes x 2).toArray⟩) ∧ TwoC b (off + f) (off + k) gf g W3 w') := Lib.hid (fun x W h0 h1 hW => (cbytes2 x W h0 h1).mono fun _ _ ⟨h1, h2⟩ => ⟨h1, HTr.out _ (hW.2.2.out.trans h2)⟩)
        obtain ⟨u1, hu1⟩ : ∃ q, r ++ Bn.bytes gf 2 = q := ⟨_, rfl⟩
        obtain ⟨u2, hu2⟩ : ∃ q, u1 ++ Bn.bytes g 2 = q := ⟨_, rfl⟩
        obtain ⟨u3, hu3⟩ : ∃ q, u2 ++ Bn.bytes (f : Int) 2 = q := ⟨_, rfl⟩
        have HU : Hid (u3 = Co.flat (Co.nums (Y ++ [(gf, g, (f : Int))]))) := Lib.hid (by rw [Co.nums_more, ← HRr.out, hu1, hu2, hu3])
        have n1 : u1.length = r.length + 2 := by rw [← hu1, List.length_append, Bn.bytes_len]
        have n2 : u2.length = u1.length + 2 := by rw [← hu2, List.length_append, Bn.bytes_len]
        have n3 : u3.length = u2.length + 2 := by rw [← hu3, List.length_append, Bn.bytes_len]
        have hul : u3.length = 6 * (m + 1) := by omega
        have x1 := fun W => cadd_to r _ u1 hu1 (by rw [Bn.bytes_len]; omega) W
        have x2 := fun W => cadd_to u1 _ u2 hu2 (by rw [Bn.bytes_len]; omega) W
        have x3 := fun W => cadd_to u2 _ u3 hu3 (by rw [Bn.bytes_len]; omega) W
        have s1 : (0 : Int) ≤ (k : Int) := by omega
        have s2 : (k : Int) < (n : Int) := by omega
        have s3 : (0 : Int) ≤ (f : Int) := by omega
        have s4 : (f : Int) < (n : Int) := by omega
        clear hu1 hu2 hu3 n1 n2 n3 ck3 cf3 hbw
        go_wp2_with fail
        go_region_held3 (fun W => TwoC b (off + f) (off + k) gf g W3 W) (first | assumption | exact HTr.out _ ((Lo.refl _).drew))
          (first | (go_at_call 38; refine (CBy.out _ _ (by omega) (by omega) (by assumption)).mono ?_; rintro e wB ⟨rfl, hSB⟩))
        all_goals
          have HL9 := Lib.hid (HL3.out.trans hSB.2.2.out)
          clear CBy x1 x2 x3 HTr hSB
          go_wp2_with fail
          go_roundw
          case rel => exact ⟨k + 1, k + 1, m + 1, o1, u3, _, by omega, by omega, by go_num, by go_num, by go_num, rfl, rfl, ho1l, hul, Lib.hid (by rw [List.length_append, HYm.out]; rfl), HO1, HU, HNX, HL9⟩
          case measure => simp [intOf]; omega
    · obtain rfl : k = n := by omega
      have HYT : Hid (Y = T) := Lib.hid (by
        have h := HY.out
        rw [HDn.out] at h
        rw [← h]; exact (List.append_nil Y).symm)
      have hmb : m ≤ 65535 := by
        have h1 := HYT.out
        have h2 := HYm.out
        have h3 := HTl.out
        rw [h1] at h2
        omega
      have HPm : Hid (Co.put l = if 6 * m < 2 * k then (Co.two l, 0) else (Co.one l, 0)) := Lib.hid (by rw [HP.out, ← HYT.out, HYm.out])
      have HOe : Hid (o = Co.one l) := Lib.hid (by rw [HO.out, HAll.out]; exact HOneF.out)
      obtain ⟨M, hM⟩ : ∃ M, [0, 2] ++ Bn.bytes (m : Int) 2 = M := ⟨_, rfl⟩
      obtain ⟨Z, hZ⟩ : ∃ Z, M ++ r = Z := ⟨_, rfl⟩
      have HTw : Hid (Z = Co.two l) := Lib.hid (by rw [← hZ]; exact HTwo.out r M (by rw [HRr.out, HYT.out]) (by rw [← HYT.out, HYm.out]; exact hM))
      have hMl : M.length = 4 := by rw [← hM, List.length_append, Bn.bytes_len]; rfl
      have x1 := fun W => cadd_to [0, 2] (Bn.bytes (m : Int) 2) M hM (by rw [Bn.bytes_len]; simp) W
      have x2 := fun W => cadd_to M r Z hZ (by omega) W
      have CBm := Lib.hid (fun W => cbytes2 (m : Int) W (by omega) (by omega))
      clear hM hZ
      by_cases hlt2 : 6 * m < 2 * k
      · rw [if_pos hlt2] at HPm
        have hq : 6 * (m : Int) < 2 * (k : Int) := by omega
        go_wp2_with fail
        refine (CBm.out _).mono ?_
        rintro e w2 ⟨rfl, lo⟩
        have HL3 := Lib.hid (HLw.out.trans lo)
        clear lo
        go_wp2_with fail
        go_ret2
        rw [HPm.out, ← HTw.out]
        exact ⟨rfl, HL3.out⟩
      · rw [if_neg hlt2] at HPm
        have hq : ¬ 6 * (m : Int) < 2 * (k : Int) := by omega
        go_wp2_with fail
        go_ret2
        rw [HPm.out, ← HOe.out]
        exact ⟨rfl, HLw.out⟩

/-- Put. -/
theorem rcput_any (v : Value) (l : List Int) (w : World) (h : Row w v l) (hn : l.length ≤ 1000000) : Calls Try.prog 36 #[v] w fun e w' => e = strErr (Co.put l) ∧ Lo w w' := by
  cases hc : Co.isCov l with
  | false => rw [show Co.put l = ([], 1) by unfold Co.put; rw [if_pos hc]]; exact rcput_arg v l w h hn hc
  | true => exact rcput_ok v l w h hc
end Go.Proofs.Ytcnmfgdeanbhoaa

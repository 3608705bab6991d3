/-
  Facts that the walks rest on: BnValue, BnCaught, BnGet, BnGet2, BnCaughtS, BnPieceW. No conditions beyond those stated.
-/
import Derived.Test.YtcnmfgdeanbhoaaPart04
import Derived.Test.YtcnmfgdeanbhoaaGround
import Derived.StillTailTactics
/-
  Contracts of package bin's value (a field's bytes as a number) and piece (some bytes, or an error raised). No conditions beyond those stated.
-/
namespace Bn
open Go
theorem or_nat (a b : Nat) (ha : a < 4611686018427387904) (hb : b < 4611686018427387904) : bits .or .i64 (a : Int) (b : Int) = ((a ||| b : Nat) : Int) := by
  have hx : a ||| b < 2 ^ 62 := Nat.or_lt_two_pow (n := 62) (by omega) (by omega)
  show IntKind.i64.wrap ((BitVec.ofInt 64 (a : Int) ||| BitVec.ofInt 64 (b : Int)).toNat : Int) = _
  rw [BitVec.toNat_or, ofInt_u64 a (by omega), ofInt_u64 b (by omega), IntKind.wrap_i64]
  omega
theorem or_byte (v : Nat) (c : UInt8) (hv : v < 1099511627776) : bits .or .i64 ((v : Int) * 256) (c.toNat : Int) = ((256 * v + c.toNat : Nat) : Int) := by
  have hc : c.toNat < 256 := UInt8.toNat_lt c
  rw [show (v : Int) * 256 = ((256 * v : Nat) : Int) by omega, or_nat _ _ (by omega) (by omega), nat_join 8 _ _ (by omega) (by omega)]
/-- Where a field's number does not fit as it stands, it is one below 0. -/
theorem one_of_fits (l : List UInt8) (size : Int) (hs : isSize size = true) (hl : l.length = size.natAbs) : one l size = if fits (be l) size = true then (be l : Int) else (be l : Int) - ((256 ^ size.natAbs : Nat) : Int) := by
  obtain ⟨w1, w2⟩ := isSize_wide hs
  have hh := pow_half size.natAbs w1
  have hb := be_lt l
  unfold fits one
  rw [hl] at hb ⊢
  generalize 256 ^ size.natAbs / 2 = hf at *
  generalize 256 ^ size.natAbs = P at *
  by_cases hn : size < 0
  · rw [if_pos hn]
    by_cases hc : hf ≤ be l
    · rw [if_pos ⟨hn, hc⟩, if_neg]; simp only [Bool.and_eq_true, decide_eq_true_eq]; omega
    · rw [if_neg (fun h => hc h.2), if_pos]; simp only [Bool.and_eq_true, decide_eq_true_eq]; omega
  · rw [if_neg hn, if_neg (fun h => hn h.1), if_pos]; simp only [Bool.and_eq_true, decide_eq_true_eq]; omega
theorem be_take (l : List UInt8) (k : Nat) (h : k < l.length) : be (l.take (k + 1)) = 256 * be (l.take k) + (l.getD k 0).toNat := by
  rw [Gk.take_snoc l k h, be_snoc]
theorem be_take_lt (l : List UInt8) (k : Nat) : be (l.take k) < 256 ^ k := by
  have := be_lt (l.take k)
  exact Nat.lt_of_lt_of_le this (Nat.pow_le_pow_right (by omega) (by simp; omega))
end Bn
namespace Go.Proofs.Ytcnmfgdeanbhoaa
open Go.RowKit

set_option maxHeartbeats 800000 in
theorem value_some (l : List UInt8) (size P : Int) (n : Nat) (w : World) (hl : l.length = n) (hn : n ≤ 4) (hs : Bn.isSize size = true)
    (hp : (2 : Int) ^ (8 * n) = P) (hP : 0 ≤ P ∧ P ≤ 4294967296) :
    Calls Try.prog 54 #[.string ⟨l.toArray⟩, .int .i64 size] w fun e w' => e = .returned (.int .i64 (if Bn.fits (Bn.be l) size = true then (Bn.be l : Int) else (Bn.be l : Int) - P)) ∧ w = w' := by
  have HN : Hid (l.length = n) := Lib.hid hl
  have HPP := Lib.hid hp
  clear hp
  obtain ⟨hP0, hP1⟩ := hP
  generalize hy : (if Bn.fits (Bn.be l) size = true then (Bn.be l : Int) else (Bn.be l : Int) - P) = y
  have HY := Lib.hid hy
  clear hy
  go_enter Try.func54, Try.ntmps54
  go_wp2_with fail
  go_loop [5, 6, 9] (fun s _ i => ∃ k v : Nat, k ≤ n ∧ i = .int .i64 k ∧ s = .int .i64 v ∧ Hid (v = Bn.be (l.take k))) (fun _ _ i => n - (intOf i).toNat)
  case atStart => exact ⟨0, 0, Nat.zero_le _, rfl, rfl, Lib.hid rfl⟩
  case round =>
    obtain ⟨k, v, hk, rfl, rfl, HV⟩ := hrel
    have hv : v < 1099511627776 := by
      rw [HV.out]
      refine Nat.lt_of_lt_of_le (Bn.be_take_lt l k) (Nat.le_trans (Nat.pow_le_pow_right (by omega) (show k ≤ 5 by omega)) (by decide))
    by_cases hlt : k < n
    · have HK : Hid (k < l.length) := Lib.hid (by rw [HN.out]; exact hlt)
      have hc := ba_get l k
      have HB := Lib.hid (Bn.be_take l k HK.out)
      generalize l.getD k 0 = c at *
      have hor := Bn.or_byte v c hv
      have hc2 : c.toNat < 256 := UInt8.toNat_lt c
      go_wp2_with fail
      go_round
      case rel => exact ⟨k + 1, 256 * v + c.toNat, by omega, by go_num, rfl, Lib.hid (by rw [HB.out, HV.out])⟩
      case measure => simp [intOf]; omega
    · have HE : Hid (l.take k = l) := Lib.hid (List.take_of_length_le (by rw [HN.out]; omega))
      have HV2 : Hid (Bn.be l = v) := Lib.hid (by rw [HV.out, HE.out])
      have hy := HY.out
      rw [HV2.out] at hy
      clear HV HE HY
      by_cases hf : Bn.fits v size = true
      · rw [if_pos hf] at hy
        have HF := Lib.hid hf
        have HY := Lib.hid hy
        clear hf hy
        go_wp2_with fail
        refine (fits_any v size _ hs).mono ?_
        rw [HF.out]
        rintro e w1 ⟨rfl, rfl⟩
        go_wp2_with fail
        go_ret
        exact ⟨ret_int HY.out, rfl⟩
      · rw [if_neg hf] at hy
        have HF := Lib.hid (show Bn.fits v size = false by simpa using hf)
        have HY := Lib.hid hy
        clear hf hy
        go_wp2_with fail
        refine (fits_any v size _ hs).mono ?_
        rw [HF.out]
        rintro e w1 ⟨rfl, rfl⟩
        go_wp2_with fail
        go_ret
        refine ⟨ret_int ?_, rfl⟩
        rw [HPP.out, ← HY.out, wrap_id (n := P) (by omega) (by omega), wrap_id (by omega) (by omega)]

theorem value_any (l : List UInt8) (size : Int) (w : World) (hs : Bn.isSize size = true) (hl : l.length = size.natAbs) :
    Calls Try.prog 54 #[.string ⟨l.toArray⟩, .int .i64 size] w fun e w' => e = .returned (.int .i64 (Bn.one l size)) ∧ w = w' := by
  rw [Bn.one_of_fits l size hs hl]
  refine value_some l size _ size.natAbs w hl (Bn.isSize_wide hs).2 hs ?_ ?_
  · rcases Bn.size_cases hs with rfl | rfl | rfl | rfl | rfl | rfl | rfl | rfl <;> decide
  · rcases Bn.size_cases hs with rfl | rfl | rfl | rfl | rfl | rfl | rfl | rfl <;> decide

theorem ret_str {a b : ByteArray} (h : a = b) : Ending.returned (.string a) = .returned (.string b) := by rw [h]

set_option maxHeartbeats 400000 in
theorem piece_ret (l : List UInt8) (pos n : Nat) (w : World) (h : pos + n ≤ l.length) (hl : l.length ≤ 9223372036854775807) :
    Calls Try.prog 52 #[.string ⟨l.toArray⟩, .int .i64 pos, .int .i64 n] w fun e w' => e = .returned (.string ⟨((l.drop pos).take n).toArray⟩) ∧ w = w' := by
  go_enter Try.func52, Try.ntmps52
  go_wp2
  go_ret
  exact ⟨ret_str (by rw [Gk.extract_list, Nat.add_sub_cancel_left]), rfl⟩

set_option maxHeartbeats 400000 in
theorem piece_raise (l : List UInt8) (pos : Int) (n : Int) (w : World) (h0 : 0 ≤ pos) (h1 : pos ≤ 9223372036854775807) (h : (l.length : Int) - pos < n) (hl : l.length ≤ 9223372036854775807) :
    Calls Try.prog 52 #[.string ⟨l.toArray⟩, .int .i64 pos, .int .i64 n] w fun e w' => e = .panicked (raise 4) ∧ w = w' := by
  go_enter Try.func52, Try.ntmps52
  go_wp2
  exact ⟨rfl, rfl, rfl⟩
end Go.Proofs.Ytcnmfgdeanbhoaa
/-
  The contracts of bin.caught, for rows and for texts, and of its deferred closures: what the work answers, or the error that it raises. No conditions.
-/
namespace Go.Proofs.Ytcnmfgdeanbhoaa
open Go.RowKit

theorem ta_hit (v : Value) (W : World) : (Instr.typeAssert (.iface 25 v) 20 25 true).run Try.prog W = .ok (.tuple #[v, .bool true]) W := by
  simp [Instr.typeAssert, run_underlying Try.underlying25]
theorem ta_nil (W : World) : (Instr.typeAssert .nilIface 20 25 true).run Try.prog W = .ok (.tuple #[.int .i64 0, .bool false]) W := by
  have hz : (zeroValue 25).run Try.prog W = .ok (.int .i64 0) W := by kernel_rfl
  simp [Instr.typeAssert, run_underlying Try.underlying25, hz]

/-- The world in which the work of caught begins: one named result lies in memory. -/
def boxed (w : World) : World := w.alloc (.cells #[.int .i64 0] 25)
theorem boxed_lo (w : World) : Lo w (boxed w) := (Lo.refl w).alloc _
theorem boxed_size (w : World) : (boxed w).heap.size = w.heap.size + 1 := by simp [boxed]
theorem boxed_facts {w w1 : World} (h : Lo (boxed w) w1) : w1.frozen? ⟨w.heap.size, 0, none⟩ = false ∧ w1.cell? ⟨w.heap.size, 0, none⟩ = some (.int .i64 0) ∧ w.heap.size < w1.heap.size ∧ Lo w w1 := by
  have hs := boxed_size w
  refine ⟨?_, ?_, ?_, (boxed_lo w).trans h⟩
  · rw [h.frozen (by omega)]; simp [boxed, go_sem]
  · rw [h.cell (by omega)]; simp [boxed, go_sem]
  · have := h.size; omega

set_option maxHeartbeats 400000 in
theorem rcatch_panicking (q : Addr) (y k : Int) (older : List PanicEntry) (w : World) (hd : w.cell? q = some (.int .i64 y)) (hy : w.frozen? q = false) :
    CallsD Try.prog 74 #[.pointer (some q)] (.panicking ({ v := .iface 25 (.int .i64 k), recovered := false } :: older)) w fun e u' w' =>
      e = .returned (.tuple #[]) ∧ u' = .panicking ({ v := .iface 25 (.int .i64 k), recovered := true } :: older) ∧ w' = w.setCell q (.int .i64 k) := by
  have ta := ta_hit
  refine callsD_of_wpS Try.func74 rfl fun c₀ cs hu => ?_
  apply wpS_seq
  apply wpS_region
  simp [wpOpsS, go_sem, recoverD, hu, Try.ntmps74, Exit.thenS, ta]
  apply wpS_seq
  apply wpS_region
  simp [wpOpsS, go_sem, Exit.thenS]
  refine wpS_cond (t := true) (by simp [Act.eval]) ?_
  simp only [if_true]
  apply wpS_region
  simp [wpOpsS, go_sem, hd, hy, bodyPostS, results, Try.results74]

set_option maxHeartbeats 400000 in
theorem rcatch_idle (q : Addr) (w : World) :
    CallsD Try.prog 74 #[.pointer (some q)] .returning w fun e u' w' => e = .returned (.tuple #[]) ∧ u' = .returning ∧ w' = w := by
  have ta := ta_nil
  refine callsD_of_wpS Try.func74 rfl fun c₀ cs hu => ?_
  apply wpS_seq
  apply wpS_region
  simp [wpOpsS, go_sem, recoverD, hu, Try.ntmps74, Exit.thenS, ta]
  apply wpS_seq
  apply wpS_region
  simp [wpOpsS, go_sem, Exit.thenS]
  refine wpS_cond (t := false) (by simp [Act.eval]) ?_
  simp only [Bool.false_eq_true, if_false]
  refine wpS_of_wp (wp_skip ?_)
  cases c₀
  simp_all [bodyPostS, results, Try.results74]

set_option maxHeartbeats 400000 in
theorem rcaught_ret (g : Nat) (caps : Array Value) (w : World) (R : World → Value → Prop) (hent : ∀ W : World, (callFunc g caps).run Try.prog W = .ok (.enter g caps) W)
    (hwork : Calls Try.prog g caps (boxed w) fun e w' => ∃ v, e = .returned v ∧ R w' v ∧ Lo (boxed w) w') (hR : ∀ w' v u, R w' v → R (w'.setCell ⟨w.heap.size, 0, none⟩ u) v) :
    Calls Try.prog 50 #[.func (.func g) #[] caps] w fun e w' => ∃ v, e = .returned (.tuple #[v, .int .i64 0]) ∧ R w' v ∧ Lo w w' := by
  have hmf : ∀ (fn : Fn) (first cap : Array Value) (w : World), (Instr.makeFunc fn first cap).run Try.prog w = .ok (.func fn first cap) w := fun _ _ _ _ => rfl
  have HW := Lib.hid hwork
  clear hwork
  go_enter_defers Try.func50, Try.ntmps50
  go_wp2_with fail
  refine HW.out.mono ?_
  rintro e w1 ⟨v, rfl, hr, hlo⟩
  obtain ⟨hz, hc, hsz, hlw⟩ := boxed_facts hlo
  have HR := Lib.hid hr
  clear hlo HW hr
  go_wp2_with fail
  refine leaves_cons (f := 74) (args := #[.pointer (some ⟨w.heap.size, 0, none⟩)]) (by simp) (by simp [go_sem]) ?_
  refine (rcatch_idle ⟨w.heap.size, 0, none⟩ _).mono ?_
  rintro e u' w'' ⟨rfl, rfl, rfl⟩
  simp [Leaves, settle, results, Try.results50, go_sem, hc]
  exact ⟨hR _ _ _ HR.out, hlw.set (by simp) _⟩

set_option maxHeartbeats 400000 in
theorem rcaught_raised (g : Nat) (caps : Array Value) (k : Int) (w : World) (hent : ∀ W : World, (callFunc g caps).run Try.prog W = .ok (.enter g caps) W)
    (hwork : Calls Try.prog g caps (boxed w) fun e w' => e = .panicked (raise k) ∧ Lo (boxed w) w') :
    Calls Try.prog 50 #[.func (.func g) #[] caps] w fun e w' => e = .returned (.tuple #[.slice none 0 0, .int .i64 k]) ∧ Lo w w' := by
  have hmf : ∀ (fn : Fn) (first cap : Array Value) (w : World), (Instr.makeFunc fn first cap).run Try.prog w = .ok (.func fn first cap) w := fun _ _ _ _ => rfl
  have HW := Lib.hid hwork
  clear hwork
  go_enter_defers Try.func50, Try.ntmps50
  go_wp2_with fail
  refine HW.out.mono ?_
  rintro e w1 ⟨rfl, hlo⟩
  obtain ⟨hz, hc, hsz, hlw⟩ := boxed_facts hlo
  clear hlo HW
  go_wp2_with fail
  refine leaves_cons (f := 74) (args := #[.pointer (some ⟨w.heap.size, 0, none⟩)]) (by simp) (by simp [go_sem]) ?_
  refine (rcatch_panicking ⟨w.heap.size, 0, none⟩ 0 k [] _ hc hz).mono ?_
  rintro e u' w'' ⟨rfl, rfl, rfl⟩
  simp [Leaves, settle, results, Try.results50, go_sem, hc]
  exact hlw.set (by simp) _
end Go.Proofs.Ytcnmfgdeanbhoaa
/-
  The contracts of bin.Get and bin.Piece: they answer what the plain functions on bytes say. No conditions beyond those stated.
-/
namespace Bn
theorem fields_one (l : List UInt8) (z : Int) : fields l [z] = [one (l.take z.natAbs) z] := rfl
theorem fields_snoc (l : List UInt8) (a : List Int) (z : Int) : fields l (a ++ [z]) = fields l a ++ [one ((l.drop (many a)).take z.natAbs) z] := by rw [fields_append, fields_one]
theorem many_drop_le (l : List Int) (k : Nat) (h : k < l.length) : many (l.take k) + (l.getD k 0).natAbs ≤ many l := by
  have h1 : many l = many (l.take (k + 1)) + many (l.drop (k + 1)) := by rw [← many_append, List.take_append_drop]
  rw [take_snoc h, many_snoc] at h1
  omega
/-- Only what is read counts. -/
theorem fields_take : ∀ (sizes : List Int) (l : List UInt8) (n : Nat), many sizes ≤ n → fields (l.take n) sizes = fields l sizes
  | [], _, _, _ => rfl
  | z :: r, l, n, h => by
    rw [many_cons] at h
    rw [fields, fields, List.take_take, Nat.min_eq_left (by omega), List.drop_take, fields_take r _ _ (by omega)]
end Bn
namespace Go.Proofs.Ytcnmfgdeanbhoaa
open Go.RowKit

theorem quiet' {P : Program} {f : FuncId} {args : Array Value} {w : World} {n : Nat} {v : Value}
    (h : Calls P f args (w.drewN n) fun e w' => e = .returned v ∧ w.drewN n = w') : Calls P f args (w.drewN n) fun e w'' => e = .returned v ∧ ∃ m, w'' = w.drewN m :=
  h.mono fun _ _ ⟨he, hm⟩ => ⟨he, n, hm.symm⟩

set_option maxHeartbeats 2000000 in
theorem get1_ret (b0 b1 b2 : Nat) (l : List UInt8) (pos : Nat) (sizes : List Int) (v : Value) (w : World) (hc0 : w.cell? ⟨b0, 0, none⟩ = some (.string ⟨l.toArray⟩)) (hc1 : w.cell? ⟨b1, 0, none⟩ = some (.int .i64 pos)) (hc2 : w.cell? ⟨b2, 0, none⟩ = some v)
    (hb2 : b2 < w.heap.size) (hrow : Row w v sizes) (hs : Bn.allSizes sizes = true) (hn : sizes.length ≤ 200000) (hl : l.length ≤ 9223372036854775807) (hfit : pos + Bn.many sizes ≤ l.length) :
    Calls Try.prog 51 #[.pointer (some ⟨b0, 0, none⟩), .pointer (some ⟨b1, 0, none⟩), .pointer (some ⟨b2, 0, none⟩)] w fun e w' =>
      ∃ u, e = .returned u ∧ Own w' w.heap.size u (Bn.fields (l.drop pos) sizes) ∧ Lo w w' := by
  have HT := Lib.hid (fun k => total_any v sizes (w.drewN k) (hrow.lo ((Lo.refl w).drewN k)) hs (by omega))
  have HP := Lib.hid (fun W => piece_ret l pos (Bn.many sizes) W hfit hl)
  obtain ⟨p, c, rfl, hlen⟩ := hrow.form
  have HR := Lib.hid hrow
  have HS := Lib.hid hs
  have HF := Lib.hid (Bn.fields_take sizes (l.drop pos) (Bn.many sizes) (Nat.le_refl _)).symm
  have hbl : ((l.drop pos).take (Bn.many sizes)).length = Bn.many sizes := by rw [List.length_take, List.length_drop]; omega
  have hbl2 : Bn.many sizes ≤ l.length := by omega
  generalize (l.drop pos).take (Bn.many sizes) = body at *
  generalize hM : Bn.many sizes = M at *
  have HM := Lib.hid hM
  have HBL := Lib.hid hbl
  generalize hnn : sizes.length = n at *
  have HN := Lib.hid hnn
  have HB2 := Lib.hid hb2
  clear hM hbl hnn hrow hs hb2 hfit
  go_enter Try.func51, Try.ntmps51
  go_wp2_with fail
  go_quiet (first
    | (go_at_call 53; exact quiet' (HT.out _))
    | (go_at_call 52; exact quiet' (HP.out _)))
  have HL0 := Lib.hid ((Lo.refl w).drewN nq)
  have hsz : (w.drewN nq).heap.size = w.heap.size := rfl
  go_wp2_with (at_make; refine wpList_mk _ rfl _ _ rfl w.heap.size _ n rfl rfl (by simp) (by omega) (Nat.le_refl _) ?_; intro pv cv w1 hown hlo; have HL := Lib.hid (HL0.out.trans hlo); have HO := Lib.hid hown; clear hown hlo; have hc2' := (HL.out.cell HB2.out).trans hc2)
  clear hc0 hc1 hc2 hc2' HT HP HL0
  go_loopw [4, 5, 7, 18] (fun r u _ i W => ∃ (k : Nat) (m : List UInt8) (pu : Option Addr) (cu : Nat), k ≤ n ∧ i = .int .i64 k ∧ r = .string ⟨m.toArray⟩ ∧ u = .slice pu k cu ∧ Hid (m = body.drop (Bn.many (sizes.take k))) ∧ Hid (Own W w.heap.size (.slice pu k cu) (Bn.fields body (sizes.take k))) ∧ Hid (Lo w W)) (fun _ _ _ i _ => n - (intOf i).toNat)
  case atStart => exact ⟨0, body, pv, cv, Nat.zero_le _, rfl, rfl, rfl, Lib.hid (by simp [Bn.many]), HO, HL⟩
  case round =>
    obtain ⟨k, m, pu, cu, hk, rfl, rfl, rfl, HR1, HO1, HL1⟩ := hrel
    by_cases hlt : k < n
    · obtain ⟨b, off, rfl, hcell⟩ := (HR.out.lo HL1.out).at_ hlt
      have HK : Hid (k < sizes.length) := Lib.hid (by rw [HN.out]; exact hlt)
      have HTS := Lib.hid (Bn.take_snoc HK.out)
      have HZ := Lib.hid (Bn.allSizes_at HS.out HK.out)
      have hmd := Bn.many_drop_le sizes k HK.out
      have hml : m.length = M - Bn.many (sizes.take k) := by rw [HR1.out, List.length_drop, HBL.out]
      rw [HM.out] at hmd
      generalize sizes.getD k 0 = z at *
      have hqm : z.natAbs ≤ m.length := by omega
      have hmle : m.length ≤ 9223372036854775807 := by omega
      clear hml hmd
      generalize hq : z.natAbs = q at *
      have HQ := Lib.hid hq
      clear hq
      have hx1 : (⟨m.toArray⟩ : ByteArray).extract 0 q = ⟨(m.take q).toArray⟩ := by rw [Gk.extract_list]; simp
      have hx2 := Gk.extract_from m q
      have HVal := Lib.hid (fun W => value_any (m.take q) z W HZ.out (by rw [HQ.out, List.length_take]; omega))
      have HW := Lib.hid (fun W => width_any z W HZ.out)
      rw [HQ.out] at HW
      have HOne : Hid (Bn.fields body (sizes.take (k + 1)) = Bn.fields body (sizes.take k) ++ [Bn.one (m.take q) z]) := Lib.hid (by rw [HTS.out, Bn.fields_snoc, ← HR1.out, HQ.out])
      have HDrop : Hid (m.drop q = body.drop (Bn.many (sizes.take (k + 1)))) := Lib.hid (by rw [HTS.out, Bn.many_snoc, HQ.out, HR1.out, List.drop_drop])
      generalize Bn.one (m.take q) z = y at *
      have hfl : (Bn.fields body (sizes.take k)).length = k := by rw [Bn.fields_len, List.length_take]; have := HK.out; omega
      have HFL := Lib.hid hfl
      clear hfl
      go_wp2_with fail
      refine (HW.out _).mono ?_
      rintro e w2 ⟨rfl, rfl⟩
      go_wp2_with fail
      refine (HVal.out _).mono ?_
      rintro e w2 ⟨rfl, rfl⟩
      go_wp2_with (at_builtin; refine wpList_app _ rfl (.tmp 22) (.tmp 29) rfl w.heap.size (.slice pu k cu) _ rfl (HO1.out.lo ((Lo.refl _).alloc _)) _ [y] rfl (row1 _ _ (by simp) y) (by rw [HFL.out]; simp; omega) (by have := HL1.out.size; simp; omega) ?_; intro q1 c1 w3 hown hlo; have HO3 := Lib.hid hown; have HL3 := Lib.hid (hlo w (HL1.out.alloc _) rfl); clear hown hlo; rw [HFL.out, List.length_singleton] at HO3; rw [HFL.out, List.length_singleton])
      refine (HW.out _).mono ?_
      rintro e w4 ⟨rfl, rfl⟩
      go_wp2_with fail
      go_roundw
      case rel => exact ⟨k + 1, m.drop q, q1, c1, by omega, by go_num, rfl, rfl, HDrop, Lib.hid (by rw [HOne.out]; exact HO3.out), HL3⟩
      case measure => simp [intOf]; omega
    · go_wp2_with fail
      go_ret
      have h1 : sizes.take k = sizes := List.take_of_length_le (by rw [HN.out]; omega)
      have := HO1.out
      rw [h1, ← HF.out] at this
      exact ⟨_, rfl, this, HL1.out⟩

set_option maxRecDepth 100000 in
set_option maxHeartbeats 2000000 in
theorem get1_raise (b0 b1 b2 : Nat) (l : List UInt8) (pos : Int) (sizes : List Int) (v : Value) (w : World) (hc0 : w.cell? ⟨b0, 0, none⟩ = some (.string ⟨l.toArray⟩)) (hc1 : w.cell? ⟨b1, 0, none⟩ = some (.int .i64 pos)) (hc2 : w.cell? ⟨b2, 0, none⟩ = some v)
    (hrow : Row w v sizes) (hs : Bn.allSizes sizes = true) (hn : sizes.length ≤ 200000) (hl : l.length ≤ 9223372036854775807) (h0 : 0 ≤ pos) (h1 : pos ≤ 9223372036854775807) (hfit : (l.length : Int) - pos < (Bn.many sizes : Nat)) :
    Calls Try.prog 51 #[.pointer (some ⟨b0, 0, none⟩), .pointer (some ⟨b1, 0, none⟩), .pointer (some ⟨b2, 0, none⟩)] w fun e w' => e = .panicked (raise 4) ∧ Lo w w' := by
  have HT := Lib.hid (fun k => total_any v sizes (w.drewN k) (hrow.lo ((Lo.refl w).drewN k)) hs (by omega))
  have HP := Lib.hid (fun W => piece_raise l pos (Bn.many sizes : Nat) W h0 h1 hfit hl)
  obtain ⟨p, c, rfl, hlen⟩ := hrow.form
  generalize Bn.many sizes = M at *
  generalize sizes.length = n at *
  clear hrow hs hfit
  go_enter Try.func51, Try.ntmps51
  go_wp2_with fail
  refine wp_region_still_tail 4 (by kernel_rfl) (by kernel_rfl) ?_
  simp only [List.take_succ_cons, List.take_zero, List.drop_succ_cons, List.drop_zero]
  change wpStill _ _ (w.drewN 1) _ _ _
  still_step
  still_step
  still_step
  still_call ((HT.out 1).mono fun e w' h => ⟨h.1, h.2.symm⟩)
  refine wpStill_nil ?_
  change wpList _ _ _ _ _ (w.drewN 1)
  generalize hw : w.drewN 1 = w2
  have HL : Hid (Lo w w2) := Lib.hid (by rw [← hw]; exact (Lo.refl w).drewN 1)
  clear hw
  go_wp2_with fail
  refine (HP.out _).mono ?_
  rintro e w3 ⟨rfl, rfl⟩
  exact ⟨rfl, rfl, HL.out⟩
end Go.Proofs.Ytcnmfgdeanbhoaa
/-
  The contracts of bin.Get and bin.Piece, whole: they answer what the plain functions on bytes say. No conditions beyond those stated.
-/
namespace Go.Proofs.Ytcnmfgdeanbhoaa
open Go.RowKit

/-- A row and an error, told. -/
def GotRow (a : List Int × Int) (w : World) (e : Ending) (w' : World) : Prop := ∃ p c, e = .returned (.tuple #[.slice p a.1.length c, .int .i64 a.2]) ∧ Row w' (.slice p a.1.length c) a.1 ∧ Lo w w'
/-- A text and an error, told. -/
def strErr (a : List UInt8 × Int) : Ending := .returned (.tuple #[.string ⟨a.1.toArray⟩, .int .i64 a.2])

theorem GotRow.nil {w w' : World} {k : Int} {e : Ending} (he : e = .returned (.tuple #[.slice none 0 0, .int .i64 k])) (h : Lo w w') : GotRow ([], k) w e w' := by
  subst he
  exact ⟨none, 0, rfl, .inl ⟨_, _, rfl, fun _ => rfl, rfl⟩, h⟩

/-- The world in which Get's work is called: its three arguments lie in memory. -/
def held (w : World) (s : Value) (pos : Int) (v : Value) : World := ((w.alloc (.cells #[s] 9)).alloc (.cells #[.int .i64 pos] 3)).alloc (.cells #[v] 33)
theorem held_lo (w : World) (s : Value) (pos : Int) (v : Value) : Lo w (held w s pos v) := (((Lo.refl w).alloc _).alloc _).alloc _

set_option maxHeartbeats 400000 in
theorem get_neg (l : List UInt8) (pos : Int) (p : Option Addr) (n c : Nat) (w : World) (h : pos < 0) :
    Calls Try.prog 25 #[.string ⟨l.toArray⟩, .int .i64 pos, .slice p n c] w fun e w' => GotRow ([], 1) w e w' := by
  go_enter Try.func25, Try.ntmps25
  go_wp2_with fail
  go_ret2
  exact GotRow.nil rfl ((((Lo.refl w).alloc _).alloc _).alloc _)

set_option maxHeartbeats 400000 in
theorem get_size (l : List UInt8) (pos : Int) (p : Option Addr) (n c : Nat) (sizes : List Int) (w : World) (h : 0 ≤ pos) (hr : Row w (.slice p n c) sizes) (hs : Bn.allSizes sizes = false) :
    Calls Try.prog 25 #[.string ⟨l.toArray⟩, .int .i64 pos, .slice p n c] w fun e w' => GotRow ([], 1) w e w' := by
  have HA := Lib.hid (areSizes_any (.slice p n c) sizes _ (hr.lo (held_lo w (.string ⟨l.toArray⟩) pos (.slice p n c))))
  rw [hs] at HA
  clear hr hs
  go_enter Try.func25, Try.ntmps25
  go_wp2_with fail
  refine HA.out.mono ?_
  rintro e w1 ⟨rfl, rfl⟩
  go_wp2_with fail
  go_ret2
  exact GotRow.nil rfl (held_lo w _ _ _)

set_option maxHeartbeats 800000 in
theorem get_more (l : List UInt8) (pos : Int) (p : Option Addr) (n c : Nat) (sizes : List Int) (w : World) (h : 0 ≤ pos) (h1 : pos ≤ 9223372036854775807) (hr : Row w (.slice p n c) sizes) (hs : Bn.allSizes sizes = true) (hn : sizes.length ≤ 200000) (hl : l.length ≤ 9223372036854775807) (hfit : (l.length : Int) - pos < (Bn.many sizes : Nat)) :
    Calls Try.prog 25 #[.string ⟨l.toArray⟩, .int .i64 pos, .slice p n c] w fun e w' => GotRow ([], 4) w e w' := by
  have hmf : ∀ (fn : Fn) (first cap : Array Value) (w : World), (Instr.makeFunc fn first cap).run Try.prog w = .ok (.func fn first cap) w := fun _ _ _ _ => rfl
  have hrow := hr.lo (held_lo w (.string ⟨l.toArray⟩) pos (.slice p n c))
  have hc0 : (held w (.string ⟨l.toArray⟩) pos (.slice p n c)).cell? ⟨w.heap.size, 0, none⟩ = some (.string ⟨l.toArray⟩) := by simp [held, go_sem]
  have hc1 : (held w (.string ⟨l.toArray⟩) pos (.slice p n c)).cell? ⟨w.heap.size + 1, 0, none⟩ = some (.int .i64 pos) := by simp [held, go_sem]
  have hc2 : (held w (.string ⟨l.toArray⟩) pos (.slice p n c)).cell? ⟨w.heap.size + 2, 0, none⟩ = some (.slice p n c) := by simp [held, go_sem]
  have hsz : (held w (.string ⟨l.toArray⟩) pos (.slice p n c)).heap.size = w.heap.size + 3 := by simp [held]
  have bl := boxed_lo (held w (.string ⟨l.toArray⟩) pos (.slice p n c))
  have HW := Lib.hid (rcaught_raised 51 #[.pointer (some ⟨w.heap.size, 0, none⟩), .pointer (some ⟨w.heap.size + 1, 0, none⟩), .pointer (some ⟨w.heap.size + 2, 0, none⟩)] 4 (held w (.string ⟨l.toArray⟩) pos (.slice p n c)) (fun W => by simp [go_sem])
    (get1_raise w.heap.size (w.heap.size + 1) (w.heap.size + 2) l pos sizes (.slice p n c) _ ((bl.cell (by omega)).trans hc0) ((bl.cell (by omega)).trans hc1) ((bl.cell (by omega)).trans hc2) (hrow.lo bl) hs hn hl h h1 hfit))
  have HA := Lib.hid (areSizes_any (.slice p n c) sizes _ hrow)
  rw [hs] at HA
  have HL := Lib.hid (held_lo w (.string ⟨l.toArray⟩) pos (.slice p n c))
  clear hr hs hfit hrow hc0 hc1 hc2 hsz bl
  go_enter Try.func25, Try.ntmps25
  go_wp2_with fail
  refine HA.out.mono ?_
  rintro e w1 ⟨rfl, rfl⟩
  go_wp2_with fail
  refine HW.out.mono ?_
  rintro e w1 ⟨rfl, hlo⟩
  clear HW HA
  go_wp2_with fail
  go_ret2
  exact GotRow.nil rfl (HL.out.trans hlo)

set_option maxHeartbeats 800000 in
theorem get_ok (l : List UInt8) (pos : Nat) (p : Option Addr) (n c : Nat) (sizes : List Int) (w : World) (hr : Row w (.slice p n c) sizes) (hs : Bn.allSizes sizes = true) (hn : sizes.length ≤ 200000) (hl : l.length ≤ 9223372036854775807) (hfit : pos + Bn.many sizes ≤ l.length) :
    Calls Try.prog 25 #[.string ⟨l.toArray⟩, .int .i64 pos, .slice p n c] w fun e w' => GotRow (Bn.fields (l.drop pos) sizes, 0) w e w' := by
  have hmf : ∀ (fn : Fn) (first cap : Array Value) (w : World), (Instr.makeFunc fn first cap).run Try.prog w = .ok (.func fn first cap) w := fun _ _ _ _ => rfl
  have hp0 : ¬ (pos : Int) < 0 := by omega
  have hrow := hr.lo (held_lo w (.string ⟨l.toArray⟩) pos (.slice p n c))
  have hc0 : (held w (.string ⟨l.toArray⟩) pos (.slice p n c)).cell? ⟨w.heap.size, 0, none⟩ = some (.string ⟨l.toArray⟩) := by simp [held, go_sem]
  have hc1 : (held w (.string ⟨l.toArray⟩) pos (.slice p n c)).cell? ⟨w.heap.size + 1, 0, none⟩ = some (.int .i64 pos) := by simp [held, go_sem]
  have hc2 : (held w (.string ⟨l.toArray⟩) pos (.slice p n c)).cell? ⟨w.heap.size + 2, 0, none⟩ = some (.slice p n c) := by simp [held, go_sem]
  have hsz : (held w (.string ⟨l.toArray⟩) pos (.slice p n c)).heap.size = w.heap.size + 3 := by simp [held]
  have bl := boxed_lo (held w (.string ⟨l.toArray⟩) pos (.slice p n c))
  have bs := boxed_size (held w (.string ⟨l.toArray⟩) pos (.slice p n c))
  have HW := Lib.hid (rcaught_ret 51 #[.pointer (some ⟨w.heap.size, 0, none⟩), .pointer (some ⟨w.heap.size + 1, 0, none⟩), .pointer (some ⟨w.heap.size + 2, 0, none⟩)] (held w (.string ⟨l.toArray⟩) pos (.slice p n c)) (fun w' v => Own w' (boxed (held w (.string ⟨l.toArray⟩) pos (.slice p n c))).heap.size v (Bn.fields (l.drop pos) sizes)) (fun W => by simp [go_sem])
    (get1_ret w.heap.size (w.heap.size + 1) (w.heap.size + 2) l pos sizes (.slice p n c) _ ((bl.cell (by omega)).trans hc0) ((bl.cell (by omega)).trans hc1) ((bl.cell (by omega)).trans hc2) (by omega) (hrow.lo bl) hs hn hl hfit) (fun w' v u h => Own.set h (by rw [bs]; exact Nat.lt_succ_self _) u))
  have HA := Lib.hid (areSizes_any (.slice p n c) sizes _ hrow)
  rw [hs] at HA
  have HL := Lib.hid (held_lo w (.string ⟨l.toArray⟩) pos (.slice p n c))
  clear hr hs hfit hrow hc0 hc1 hc2 hsz bl bs
  go_enter Try.func25, Try.ntmps25
  go_wp2_with fail
  refine HA.out.mono ?_
  rintro e w1 ⟨rfl, rfl⟩
  go_wp2_with fail
  refine HW.out.mono ?_
  rintro e w1 ⟨v, rfl, hown, hlo⟩
  clear HW HA
  obtain ⟨pv, cv, rfl⟩ := Own.form hown
  have HR := Lib.hid (Own.row hown)
  clear hown
  go_wp2_with fail
  go_ret2
  exact ⟨pv, cv, rfl, HR.out, HL.out.trans hlo⟩

/-- bin.Get. -/
theorem get_any (l : List UInt8) (pos : Int) (v : Value) (sizes : List Int) (w : World) (hr : Row w v sizes) (hn : sizes.length ≤ 200000) (hl : l.length ≤ 9223372036854775807) (h1 : pos ≤ 9223372036854775807) :
    Calls Try.prog 25 #[.string ⟨l.toArray⟩, .int .i64 pos, v] w fun e w' => GotRow (Bn.get l pos sizes) w e w' := by
  obtain ⟨p, c, rfl, hlen⟩ := hr.form
  unfold Bn.get
  by_cases c0 : pos < 0
  · rw [if_pos (.inr c0)]; exact get_neg l pos p _ c w c0
  · by_cases cs : Bn.allSizes sizes = false
    · rw [if_pos (.inl cs)]; exact get_size l pos p _ c sizes w (by omega) hr cs
    · rw [if_neg (by rintro (h | h) <;> contradiction)]
      have hs : Bn.allSizes sizes = true := by simpa using cs
      by_cases cm : (l.length : Int) - pos < (Bn.many sizes : Nat)
      · rw [if_pos (.inr cm)]; exact get_more l pos p _ c sizes w (by omega) h1 hr hs hn hl cm
      · rw [if_neg (by rintro (h | h) <;> omega)]
        obtain ⟨q, rfl⟩ := Int.eq_ofNat_of_zero_le (show 0 ≤ pos by omega)
        exact get_ok l q p _ c sizes w hr hs hn hl (by omega)
end Go.Proofs.Ytcnmfgdeanbhoaa
/-
  caught[string]: what a call that may panic tells. No conditions beyond those stated.
-/
namespace Go.Proofs.Ytcnmfgdeanbhoaa
open Go.RowKit

set_option maxHeartbeats 400000 in
theorem scatch_panicking (q : Addr) (y k : Int) (older : List PanicEntry) (w : World) (hd : w.cell? q = some (.int .i64 y)) (hy : w.frozen? q = false) :
    CallsD Try.prog 75 #[.pointer (some q)] (.panicking ({ v := .iface 25 (.int .i64 k), recovered := false } :: older)) w fun e u' w' =>
      e = .returned (.tuple #[]) ∧ u' = .panicking ({ v := .iface 25 (.int .i64 k), recovered := true } :: older) ∧ w' = w.setCell q (.int .i64 k) := by
  have ta := ta_hit
  refine callsD_of_wpS Try.func75 rfl fun c₀ cs hu => ?_
  apply wpS_seq
  apply wpS_region
  simp [wpOpsS, go_sem, recoverD, hu, Try.ntmps75, Exit.thenS, ta]
  apply wpS_seq
  apply wpS_region
  simp [wpOpsS, go_sem, Exit.thenS]
  refine wpS_cond (t := true) (by simp [Act.eval]) ?_
  simp only [if_true]
  apply wpS_region
  simp [wpOpsS, go_sem, hd, hy, bodyPostS, results, Try.results75]

set_option maxHeartbeats 400000 in
theorem scatch_idle (q : Addr) (w : World) :
    CallsD Try.prog 75 #[.pointer (some q)] .returning w fun e u' w' => e = .returned (.tuple #[]) ∧ u' = .returning ∧ w' = w := by
  have ta := ta_nil
  refine callsD_of_wpS Try.func75 rfl fun c₀ cs hu => ?_
  apply wpS_seq
  apply wpS_region
  simp [wpOpsS, go_sem, recoverD, hu, Try.ntmps75, Exit.thenS, ta]
  apply wpS_seq
  apply wpS_region
  simp [wpOpsS, go_sem, Exit.thenS]
  refine wpS_cond (t := false) (by simp [Act.eval]) ?_
  simp only [Bool.false_eq_true, if_false]
  refine wpS_of_wp (wp_skip ?_)
  cases c₀
  simp_all [bodyPostS, results, Try.results75]

set_option maxHeartbeats 400000 in
theorem scaught_ret (g : Nat) (caps : Array Value) (w : World) (R : World → Value → Prop) (hent : ∀ W : World, (callFunc g caps).run Try.prog W = .ok (.enter g caps) W)
    (hwork : Calls Try.prog g caps (boxed w) fun e w' => ∃ v, e = .returned v ∧ R w' v ∧ Lo (boxed w) w') (hR : ∀ w' v u, R w' v → R (w'.setCell ⟨w.heap.size, 0, none⟩ u) v) :
    Calls Try.prog 56 #[.func (.func g) #[] caps] w fun e w' => ∃ v, e = .returned (.tuple #[v, .int .i64 0]) ∧ R w' v ∧ Lo w w' := by
  have hmf : ∀ (fn : Fn) (first cap : Array Value) (w : World), (Instr.makeFunc fn first cap).run Try.prog w = .ok (.func fn first cap) w := fun _ _ _ _ => rfl
  have HW := Lib.hid hwork
  clear hwork
  go_enter_defers Try.func56, Try.ntmps56
  go_wp2_with fail
  refine HW.out.mono ?_
  rintro e w1 ⟨v, rfl, hr, hlo⟩
  obtain ⟨hz, hc, hsz, hlw⟩ := boxed_facts hlo
  have HR := Lib.hid hr
  clear hlo HW hr
  go_wp2_with fail
  refine leaves_cons (f := 75) (args := #[.pointer (some ⟨w.heap.size, 0, none⟩)]) (by simp) (by simp [go_sem]) ?_
  refine (scatch_idle ⟨w.heap.size, 0, none⟩ _).mono ?_
  rintro e u' w'' ⟨rfl, rfl, rfl⟩
  simp [Leaves, settle, results, Try.results56, go_sem, hc]
  exact ⟨hR _ _ _ HR.out, hlw.set (by simp) _⟩

set_option maxHeartbeats 400000 in
theorem scaught_raised (g : Nat) (caps : Array Value) (k : Int) (w : World) (hent : ∀ W : World, (callFunc g caps).run Try.prog W = .ok (.enter g caps) W)
    (hwork : Calls Try.prog g caps (boxed w) fun e w' => e = .panicked (raise k) ∧ Lo (boxed w) w') :
    Calls Try.prog 56 #[.func (.func g) #[] caps] w fun e w' => e = .returned (.tuple #[.string ⟨#[]⟩, .int .i64 k]) ∧ Lo w w' := by
  have hmf : ∀ (fn : Fn) (first cap : Array Value) (w : World), (Instr.makeFunc fn first cap).run Try.prog w = .ok (.func fn first cap) w := fun _ _ _ _ => rfl
  have HW := Lib.hid hwork
  clear hwork
  go_enter_defers Try.func56, Try.ntmps56
  go_wp2_with fail
  refine HW.out.mono ?_
  rintro e w1 ⟨rfl, hlo⟩
  obtain ⟨hz, hc, hsz, hlw⟩ := boxed_facts hlo
  clear hlo HW
  go_wp2_with fail
  refine leaves_cons (f := 75) (args := #[.pointer (some ⟨w.heap.size, 0, none⟩)]) (by simp) (by simp [go_sem]) ?_
  refine (scatch_panicking ⟨w.heap.size, 0, none⟩ 0 k [] _ hc hz).mono ?_
  rintro e u' w'' ⟨rfl, rfl, rfl⟩
  simp [Leaves, settle, results, Try.results56, go_sem, hc]
  exact hlw.set (by simp) _
end Go.Proofs.Ytcnmfgdeanbhoaa
/-
  The contract of bin.Piece: it answers what the plain function on bytes says. No conditions beyond those stated.
-/
namespace Go.Proofs.Ytcnmfgdeanbhoaa
open Go.RowKit

set_option maxHeartbeats 400000 in
theorem piece1_ret (b0 b1 b2 : Nat) (l : List UInt8) (pos n : Nat) (w : World) (hc0 : w.cell? ⟨b0, 0, none⟩ = some (.string ⟨l.toArray⟩)) (hc1 : w.cell? ⟨b1, 0, none⟩ = some (.int .i64 pos)) (hc2 : w.cell? ⟨b2, 0, none⟩ = some (.int .i64 n))
    (hl : l.length ≤ 9223372036854775807) (hfit : pos + n ≤ l.length) :
    Calls Try.prog 57 #[.pointer (some ⟨b0, 0, none⟩), .pointer (some ⟨b1, 0, none⟩), .pointer (some ⟨b2, 0, none⟩)] w fun e w' => ∃ u, e = .returned u ∧ u = .string ⟨((l.drop pos).take n).toArray⟩ ∧ Lo w w' := by
  have HP := Lib.hid (fun W => piece_ret l pos n W hfit hl)
  generalize (l.drop pos).take n = body at *
  clear hfit
  go_enter Try.func57, Try.ntmps57
  go_wp2_with fail
  refine (HP.out _).mono ?_
  rintro e w1 ⟨rfl, rfl⟩
  go_wp2_with fail
  go_ret
  exact ⟨_, rfl, rfl, Lo.refl _⟩

set_option maxHeartbeats 400000 in
theorem piece1_raise (b0 b1 b2 : Nat) (l : List UInt8) (pos n : Int) (w : World) (hc0 : w.cell? ⟨b0, 0, none⟩ = some (.string ⟨l.toArray⟩)) (hc1 : w.cell? ⟨b1, 0, none⟩ = some (.int .i64 pos)) (hc2 : w.cell? ⟨b2, 0, none⟩ = some (.int .i64 n))
    (hl : l.length ≤ 9223372036854775807) (h0 : 0 ≤ pos) (h1 : pos ≤ 9223372036854775807) (hfit : (l.length : Int) - pos < n) :
    Calls Try.prog 57 #[.pointer (some ⟨b0, 0, none⟩), .pointer (some ⟨b1, 0, none⟩), .pointer (some ⟨b2, 0, none⟩)] w fun e w' => e = .panicked (raise 4) ∧ Lo w w' := by
  have HP := Lib.hid (fun W => piece_raise l pos n W h0 h1 hfit hl)
  clear hfit
  go_enter Try.func57, Try.ntmps57
  go_wp2_with fail
  refine (HP.out _).mono ?_
  rintro e w1 ⟨rfl, rfl⟩
  exact ⟨rfl, rfl, Lo.refl _⟩

/-- The world in which Piece's work is called. -/
def held2 (w : World) (s : Value) (pos n : Int) : World := ((w.alloc (.cells #[s] 9)).alloc (.cells #[.int .i64 pos] 3)).alloc (.cells #[.int .i64 n] 3)
theorem held2_lo (w : World) (s : Value) (pos n : Int) : Lo w (held2 w s pos n) := (((Lo.refl w).alloc _).alloc _).alloc _

set_option maxHeartbeats 400000 in
theorem bpiece_arg (l : List UInt8) (pos n : Int) (w : World) (h : pos < 0 ∨ n < 0) :
    Calls Try.prog 26 #[.string ⟨l.toArray⟩, .int .i64 pos, .int .i64 n] w fun e w' => e = strErr ([], 1) ∧ Lo w w' := by
  by_cases hp : pos < 0
  · clear h
    go_enter Try.func26, Try.ntmps26
    go_wp2_with fail
    go_ret2
    exact ⟨rfl, held2_lo w _ _ _⟩
  · have h2 : n < 0 := by omega
    clear h
    go_enter Try.func26, Try.ntmps26
    go_wp2_with fail
    go_ret2
    exact ⟨rfl, held2_lo w _ _ _⟩

set_option maxHeartbeats 800000 in
theorem bpiece_work (l : List UInt8) (pos n : Int) (w : World) (u : Value) (k : Int) (h : 0 ≤ pos) (h2 : 0 ≤ n)
    (hW : Calls Try.prog 56 #[.func (.func 57) #[] #[.pointer (some ⟨w.heap.size, 0, none⟩), .pointer (some ⟨w.heap.size + 1, 0, none⟩), .pointer (some ⟨w.heap.size + 2, 0, none⟩)]] (held2 w (.string ⟨l.toArray⟩) pos n) fun e w' => e = .returned (.tuple #[u, .int .i64 k]) ∧ Lo (held2 w (.string ⟨l.toArray⟩) pos n) w') :
    Calls Try.prog 26 #[.string ⟨l.toArray⟩, .int .i64 pos, .int .i64 n] w fun e w' => e = .returned (.tuple #[u, .int .i64 k]) ∧ Lo w w' := by
  have hmf : ∀ (fn : Fn) (first cap : Array Value) (w : World), (Instr.makeFunc fn first cap).run Try.prog w = .ok (.func fn first cap) w := fun _ _ _ _ => rfl
  have HW := Lib.hid hW
  have HL := Lib.hid (held2_lo w (.string ⟨l.toArray⟩) pos n)
  clear hW
  go_enter Try.func26, Try.ntmps26
  go_wp2_with fail
  refine HW.out.mono ?_
  rintro e w1 ⟨rfl, hlo⟩
  clear HW
  go_wp2_with fail
  go_ret2
  exact ⟨rfl, HL.out.trans hlo⟩

/-- bin.Piece. -/
theorem bpiece_any (l : List UInt8) (pos n : Int) (w : World) (hl : l.length ≤ 9223372036854775807) (h1 : pos ≤ 9223372036854775807) :
    Calls Try.prog 26 #[.string ⟨l.toArray⟩, .int .i64 pos, .int .i64 n] w fun e w' => e = strErr (Bn.piece l pos n) ∧ Lo w w' := by
  unfold Bn.piece
  by_cases c0 : pos < 0 ∨ n < 0
  · rw [if_pos c0]; exact bpiece_arg l pos n w c0
  · rw [if_neg c0]
    have hc0 : (held2 w (.string ⟨l.toArray⟩) pos n).cell? ⟨w.heap.size, 0, none⟩ = some (.string ⟨l.toArray⟩) := by simp [held2, go_sem]
    have hc1 : (held2 w (.string ⟨l.toArray⟩) pos n).cell? ⟨w.heap.size + 1, 0, none⟩ = some (.int .i64 pos) := by simp [held2, go_sem]
    have hc2 : (held2 w (.string ⟨l.toArray⟩) pos n).cell? ⟨w.heap.size + 2, 0, none⟩ = some (.int .i64 n) := by simp [held2, go_sem]
    have hsz : (held2 w (.string ⟨l.toArray⟩) pos n).heap.size = w.heap.size + 3 := by simp [held2]
    have bl := boxed_lo (held2 w (.string ⟨l.toArray⟩) pos n)
    by_cases cm : (l.length : Int) - pos < n
    · rw [if_pos (.inr cm)]
      exact bpiece_work l pos n w _ 4 (by omega) (by omega) (scaught_raised 57 _ 4 _ (fun W => by simp [go_sem])
        (piece1_raise w.heap.size (w.heap.size + 1) (w.heap.size + 2) l pos n _ ((bl.cell (by omega)).trans hc0) ((bl.cell (by omega)).trans hc1) ((bl.cell (by omega)).trans hc2) hl (by omega) h1 cm))
    · rw [if_neg (by rintro (h | h) <;> omega)]
      obtain ⟨q, rfl⟩ := Int.eq_ofNat_of_zero_le (show 0 ≤ pos by omega)
      obtain ⟨m, rfl⟩ := Int.eq_ofNat_of_zero_le (show 0 ≤ n by omega)
      refine bpiece_work l q m w _ 0 (by omega) (by omega) ((scaught_ret 57 _ _ (fun _ u => u = .string ⟨((l.drop q).take m).toArray⟩) (fun W => by simp [go_sem])
        (piece1_ret w.heap.size (w.heap.size + 1) (w.heap.size + 2) l q m _ ((bl.cell (by omega)).trans hc0) ((bl.cell (by omega)).trans hc1) ((bl.cell (by omega)).trans hc2) hl (by omega)) (fun _ _ _ h => h)).mono ?_)
      rintro e w' ⟨u, rfl, rfl, hlo⟩
      exact ⟨rfl, hlo⟩
end Go.Proofs.Ytcnmfgdeanbhoaa

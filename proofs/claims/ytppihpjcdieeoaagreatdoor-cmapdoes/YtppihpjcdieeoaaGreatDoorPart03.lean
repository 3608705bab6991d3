/-
  Facts that the walks rest on: BnGet, BnGet2, GlHigh, GlFacts. No conditions beyond those stated.
-/
import Derived.Test.YtppihpjcdieeoaaGreatDoorPart02
import Derived.StillTailTactics
import Derived.Test.YtppihpjcdieeoaaGreatDoorPlain
/-
  The contracts of bin.Get and bin.Piece: they answer what the plain functions on bytes say. No conditions beyond those stated.
-/
namespace Bn
theorem fields_one (l : List UInt8) (z : Int) : fields l [z] = [one (l.take z.natAbs) z] := rfl
theorem fields_snoc (l : List UInt8) (a : List Int) (z : Int) : fields l (a ++ [z]) = fields l a ++ [one ((l.drop (many a)).take z.natAbs) z] := by rw [fields_append, fields_one]
theorem many_drop_le (l : List Int) (k : Nat) (h : k < l.length) : many (l.take k) + (l.getD k 0).natAbs ≤ many l := by
  have h1 : many l = many (l.take (k + 1)) + many (l.drop (k + 1)) := by rw [← many_append, List.take_append_drop]
  rw [take_snoc h, many_snoc] at h1
  omega
/-- Only what is read counts. -/
theorem fields_take : ∀ (sizes : List Int) (l : List UInt8) (n : Nat), many sizes ≤ n → fields (l.take n) sizes = fields l sizes
  | [], _, _, _ => rfl
  | z :: r, l, n, h => by
    rw [many_cons] at h
    rw [fields, fields, List.take_take, Nat.min_eq_left (by omega), List.drop_take, fields_take r _ _ (by omega)]
end Bn
namespace Go.Proofs.YtppihpjcdieeoaaGreatDoor
open Go.RowKit

theorem quiet' {P : Program} {f : FuncId} {args : Array Value} {w : World} {n : Nat} {v : Value}
    (h : Calls P f args (w.drewN n) fun e w' => e = .returned v ∧ w.drewN n = w') : Calls P f args (w.drewN n) fun e w'' => e = .returned v ∧ ∃ m, w'' = w.drewN m :=
  h.mono fun _ _ ⟨he, hm⟩ => ⟨he, n, hm.symm⟩

set_option maxHeartbeats 2000000 in
theorem get1_ret (b0 b1 b2 : Nat) (l : List UInt8) (pos : Nat) (sizes : List Int) (v : Value) (w : World) (hc0 : w.cell? ⟨b0, 0, none⟩ = some (.string ⟨l.toArray⟩)) (hc1 : w.cell? ⟨b1, 0, none⟩ = some (.int .i64 pos)) (hc2 : w.cell? ⟨b2, 0, none⟩ = some v)
    (hb2 : b2 < w.heap.size) (hrow : Row w v sizes) (hs : Bn.allSizes sizes = true) (hn : sizes.length ≤ 200000) (hl : l.length ≤ 9223372036854775807) (hfit : pos + Bn.many sizes ≤ l.length) :
    Calls Tryz.prog 60 #[.pointer (some ⟨b0, 0, none⟩), .pointer (some ⟨b1, 0, none⟩), .pointer (some ⟨b2, 0, none⟩)] w fun e w' =>
      ∃ u, e = .returned u ∧ Own w' w.heap.size u (Bn.fields (l.drop pos) sizes) ∧ Lo w w' := by
  have HT := Lib.hid (fun k => total_any v sizes (w.drewN k) (hrow.lo ((Lo.refl w).drewN k)) hs (by omega))
  have HP := Lib.hid (fun W => piece_ret l pos (Bn.many sizes) W hfit hl)
  obtain ⟨p, c, rfl, hlen⟩ := hrow.form
  have HR := Lib.hid hrow
  have HS := Lib.hid hs
  have HF := Lib.hid (Bn.fields_take sizes (l.drop pos) (Bn.many sizes) (Nat.le_refl _)).symm
  have hbl : ((l.drop pos).take (Bn.many sizes)).length = Bn.many sizes := by rw [List.length_take, List.length_drop]; omega
  have hbl2 : Bn.many sizes ≤ l.length := by omega
  generalize (l.drop pos).take (Bn.many sizes) = body at *
  generalize hM : Bn.many sizes = M at *
  have HM := Lib.hid hM
  have HBL := Lib.hid hbl
  generalize hnn : sizes.length = n at *
  have HN := Lib.hid hnn
  have HB2 := Lib.hid hb2
  clear hM hbl hnn hrow hs hb2 hfit
  go_enter Tryz.func60, Tryz.ntmps60
  go_wp2_with fail
  go_quiet (first
    | (go_at_call 62; exact quiet' (HT.out _))
    | (go_at_call 61; exact quiet' (HP.out _)))
  have HL0 := Lib.hid ((Lo.refl w).drewN nq)
  have hsz : (w.drewN nq).heap.size = w.heap.size := rfl
  go_wp2_with (at_make; refine wpList_mk _ rfl _ _ rfl w.heap.size _ n rfl rfl (by simp) (by omega) (Nat.le_refl _) ?_; intro pv cv w1 hown hlo; have HL := Lib.hid (HL0.out.trans hlo); have HO := Lib.hid hown; clear hown hlo; have hc2' := (HL.out.cell HB2.out).trans hc2)
  clear hc0 hc1 hc2 hc2' HT HP HL0
  go_loopw [4, 5, 7, 18] (fun r u _ i W => ∃ (k : Nat) (m : List UInt8) (pu : Option Addr) (cu : Nat), k ≤ n ∧ i = .int .i64 k ∧ r = .string ⟨m.toArray⟩ ∧ u = .slice pu k cu ∧ Hid (m = body.drop (Bn.many (sizes.take k))) ∧ Hid (Own W w.heap.size (.slice pu k cu) (Bn.fields body (sizes.take k))) ∧ Hid (Lo w W)) (fun _ _ _ i _ => n - (intOf i).toNat)
  case atStart => exact ⟨0, body, pv, cv, Nat.zero_le _, rfl, rfl, rfl, Lib.hid (by simp [Bn.many]), HO, HL⟩
  case round =>
    obtain ⟨k, m, pu, cu, hk, rfl, rfl, rfl, HR1, HO1, HL1⟩ := hrel
    by_cases hlt : k < n
    · obtain ⟨b, off, rfl, hcell⟩ := (HR.out.lo HL1.out).at_ hlt
      have HK : Hid (k < sizes.length) := Lib.hid (by rw [HN.out]; exact hlt)
      have HTS := Lib.hid (Bn.take_snoc HK.out)
      have HZ := Lib.hid (Bn.allSizes_at HS.out HK.out)
      have hmd := Bn.many_drop_le sizes k HK.out
      have hml : m.length = M - Bn.many (sizes.take k) := by rw [HR1.out, List.length_drop, HBL.out]
      rw [HM.out] at hmd
      generalize sizes.getD k 0 = z at *
      have hqm : z.natAbs ≤ m.length := by omega
      have hmle : m.length ≤ 9223372036854775807 := by omega
      clear hml hmd
      generalize hq : z.natAbs = q at *
      have HQ := Lib.hid hq
      clear hq
      have hx1 : (⟨m.toArray⟩ : ByteArray).extract 0 q = ⟨(m.take q).toArray⟩ := by rw [Gk.extract_list]; simp
      have hx2 := Gk.extract_from m q
      have HVal := Lib.hid (fun W => value_any (m.take q) z W HZ.out (by rw [HQ.out, List.length_take]; omega))
      have HW := Lib.hid (fun W => width_any z W HZ.out)
      rw [HQ.out] at HW
      have HOne : Hid (Bn.fields body (sizes.take (k + 1)) = Bn.fields body (sizes.take k) ++ [Bn.one (m.take q) z]) := Lib.hid (by rw [HTS.out, Bn.fields_snoc, ← HR1.out, HQ.out])
      have HDrop : Hid (m.drop q = body.drop (Bn.many (sizes.take (k + 1)))) := Lib.hid (by rw [HTS.out, Bn.many_snoc, HQ.out, HR1.out, List.drop_drop])
      generalize Bn.one (m.take q) z = y at *
      have hfl : (Bn.fields body (sizes.take k)).length = k := by rw [Bn.fields_len, List.length_take]; have := HK.out; omega
      have HFL := Lib.hid hfl
      clear hfl
      go_wp2_with fail
      refine (HW.out _).mono ?_
      rintro e w2 ⟨rfl, rfl⟩
      go_wp2_with fail
      refine (HVal.out _).mono ?_
      rintro e w2 ⟨rfl, rfl⟩
      go_wp2_with (at_builtin; refine wpList_app _ rfl (.tmp 22) (.tmp 29) rfl w.heap.size (.slice pu k cu) _ rfl (HO1.out.lo ((Lo.refl _).alloc _)) _ [y] rfl (row1 _ _ (by simp) y) (by rw [HFL.out]; simp; omega) (by have := HL1.out.size; simp; omega) ?_; intro q1 c1 w3 hown hlo; have HO3 := Lib.hid hown; have HL3 := Lib.hid (hlo w (HL1.out.alloc _) rfl); clear hown hlo; rw [HFL.out, List.length_singleton] at HO3; rw [HFL.out, List.length_singleton])
      refine (HW.out _).mono ?_
      rintro e w4 ⟨rfl, rfl⟩
      go_wp2_with fail
      go_roundw
      case rel => exact ⟨k + 1, m.drop q, q1, c1, by omega, by go_num, rfl, rfl, HDrop, Lib.hid (by rw [HOne.out]; exact HO3.out), HL3⟩
      case measure => simp [intOf]; omega
    · go_wp2_with fail
      go_ret
      have h1 : sizes.take k = sizes := List.take_of_length_le (by rw [HN.out]; omega)
      have := HO1.out
      rw [h1, ← HF.out] at this
      exact ⟨_, rfl, this, HL1.out⟩

set_option maxRecDepth 100000 in
set_option maxHeartbeats 2000000 in
theorem get1_raise (b0 b1 b2 : Nat) (l : List UInt8) (pos : Int) (sizes : List Int) (v : Value) (w : World) (hc0 : w.cell? ⟨b0, 0, none⟩ = some (.string ⟨l.toArray⟩)) (hc1 : w.cell? ⟨b1, 0, none⟩ = some (.int .i64 pos)) (hc2 : w.cell? ⟨b2, 0, none⟩ = some v)
    (hrow : Row w v sizes) (hs : Bn.allSizes sizes = true) (hn : sizes.length ≤ 200000) (hl : l.length ≤ 9223372036854775807) (h0 : 0 ≤ pos) (h1 : pos ≤ 9223372036854775807) (hfit : (l.length : Int) - pos < (Bn.many sizes : Nat)) :
    Calls Tryz.prog 60 #[.pointer (some ⟨b0, 0, none⟩), .pointer (some ⟨b1, 0, none⟩), .pointer (some ⟨b2, 0, none⟩)] w fun e w' => e = .panicked (raise 4) ∧ Lo w w' := by
  have HT := Lib.hid (fun k => total_any v sizes (w.drewN k) (hrow.lo ((Lo.refl w).drewN k)) hs (by omega))
  have HP := Lib.hid (fun W => piece_raise l pos (Bn.many sizes : Nat) W h0 h1 hfit hl)
  obtain ⟨p, c, rfl, hlen⟩ := hrow.form
  generalize Bn.many sizes = M at *
  generalize sizes.length = n at *
  clear hrow hs hfit
  go_enter Tryz.func60, Tryz.ntmps60
  go_wp2_with fail
  refine wp_region_still_tail 4 (by kernel_rfl) (by kernel_rfl) ?_
  simp only [List.take_succ_cons, List.take_zero, List.drop_succ_cons, List.drop_zero]
  change wpStill _ _ (w.drewN 1) _ _ _
  still_step
  still_step
  still_step
  still_call ((HT.out 1).mono fun e w' h => ⟨h.1, h.2.symm⟩)
  refine wpStill_nil ?_
  change wpList _ _ _ _ _ (w.drewN 1)
  generalize hw : w.drewN 1 = w2
  have HL : Hid (Lo w w2) := Lib.hid (by rw [← hw]; exact (Lo.refl w).drewN 1)
  clear hw
  go_wp2_with fail
  refine (HP.out _).mono ?_
  rintro e w3 ⟨rfl, rfl⟩
  exact ⟨rfl, rfl, HL.out⟩
end Go.Proofs.YtppihpjcdieeoaaGreatDoor
/-
  The contracts of bin.Get and bin.Piece, whole: they answer what the plain functions on bytes say. No conditions beyond those stated.
-/
namespace Go.Proofs.YtppihpjcdieeoaaGreatDoor
open Go.RowKit

/-- A row and an error, told. -/
def GotRow (a : List Int × Int) (w : World) (e : Ending) (w' : World) : Prop := ∃ p c, e = .returned (.tuple #[.slice p a.1.length c, .int .i64 a.2]) ∧ Row w' (.slice p a.1.length c) a.1 ∧ Lo w w'
/-- A text and an error, told. -/
def strErr (a : List UInt8 × Int) : Ending := .returned (.tuple #[.string ⟨a.1.toArray⟩, .int .i64 a.2])

theorem GotRow.nil {w w' : World} {k : Int} {e : Ending} (he : e = .returned (.tuple #[.slice none 0 0, .int .i64 k])) (h : Lo w w') : GotRow ([], k) w e w' := by
  subst he
  exact ⟨none, 0, rfl, .inl ⟨_, _, rfl, fun _ => rfl, rfl⟩, h⟩

/-- The world in which Get's work is called: its three arguments lie in memory. -/
def held (w : World) (s : Value) (pos : Int) (v : Value) : World := ((w.alloc (.cells #[s] 9)).alloc (.cells #[.int .i64 pos] 3)).alloc (.cells #[v] 52)
theorem held_lo (w : World) (s : Value) (pos : Int) (v : Value) : Lo w (held w s pos v) := (((Lo.refl w).alloc _).alloc _).alloc _

set_option maxHeartbeats 400000 in
theorem get_neg (l : List UInt8) (pos : Int) (p : Option Addr) (n c : Nat) (w : World) (h : pos < 0) :
    Calls Tryz.prog 33 #[.string ⟨l.toArray⟩, .int .i64 pos, .slice p n c] w fun e w' => GotRow ([], 1) w e w' := by
  go_enter Tryz.func33, Tryz.ntmps33
  go_wp2_with fail
  go_ret2
  exact GotRow.nil rfl ((((Lo.refl w).alloc _).alloc _).alloc _)

set_option maxHeartbeats 400000 in
theorem get_size (l : List UInt8) (pos : Int) (p : Option Addr) (n c : Nat) (sizes : List Int) (w : World) (h : 0 ≤ pos) (hr : Row w (.slice p n c) sizes) (hs : Bn.allSizes sizes = false) :
    Calls Tryz.prog 33 #[.string ⟨l.toArray⟩, .int .i64 pos, .slice p n c] w fun e w' => GotRow ([], 1) w e w' := by
  have HA := Lib.hid (areSizes_any (.slice p n c) sizes _ (hr.lo (held_lo w (.string ⟨l.toArray⟩) pos (.slice p n c))))
  rw [hs] at HA
  clear hr hs
  go_enter Tryz.func33, Tryz.ntmps33
  go_wp2_with fail
  refine HA.out.mono ?_
  rintro e w1 ⟨rfl, rfl⟩
  go_wp2_with fail
  go_ret2
  exact GotRow.nil rfl (held_lo w _ _ _)

set_option maxHeartbeats 800000 in
theorem get_more (l : List UInt8) (pos : Int) (p : Option Addr) (n c : Nat) (sizes : List Int) (w : World) (h : 0 ≤ pos) (h1 : pos ≤ 9223372036854775807) (hr : Row w (.slice p n c) sizes) (hs : Bn.allSizes sizes = true) (hn : sizes.length ≤ 200000) (hl : l.length ≤ 9223372036854775807) (hfit : (l.length : Int) - pos < (Bn.many sizes : Nat)) :
    Calls Tryz.prog 33 #[.string ⟨l.toArray⟩, .int .i64 pos, .slice p n c] w fun e w' => GotRow ([], 4) w e w' := by
  have hmf : ∀ (fn : Fn) (first cap : Array Value) (w : World), (Instr.makeFunc fn first cap).run Tryz.prog w = .ok (.func fn first cap) w := fun _ _ _ _ => rfl
  have hrow := hr.lo (held_lo w (.string ⟨l.toArray⟩) pos (.slice p n c))
  have hc0 : (held w (.string ⟨l.toArray⟩) pos (.slice p n c)).cell? ⟨w.heap.size, 0, none⟩ = some (.string ⟨l.toArray⟩) := by simp [held, go_sem]
  have hc1 : (held w (.string ⟨l.toArray⟩) pos (.slice p n c)).cell? ⟨w.heap.size + 1, 0, none⟩ = some (.int .i64 pos) := by simp [held, go_sem]
  have hc2 : (held w (.string ⟨l.toArray⟩) pos (.slice p n c)).cell? ⟨w.heap.size + 2, 0, none⟩ = some (.slice p n c) := by simp [held, go_sem]
  have hsz : (held w (.string ⟨l.toArray⟩) pos (.slice p n c)).heap.size = w.heap.size + 3 := by simp [held]
  have bl := boxed_lo (held w (.string ⟨l.toArray⟩) pos (.slice p n c))
  have HW := Lib.hid (rcaught_raised 60 #[.pointer (some ⟨w.heap.size, 0, none⟩), .pointer (some ⟨w.heap.size + 1, 0, none⟩), .pointer (some ⟨w.heap.size + 2, 0, none⟩)] 4 (held w (.string ⟨l.toArray⟩) pos (.slice p n c)) (fun W => by simp [go_sem])
    (get1_raise w.heap.size (w.heap.size + 1) (w.heap.size + 2) l pos sizes (.slice p n c) _ ((bl.cell (by omega)).trans hc0) ((bl.cell (by omega)).trans hc1) ((bl.cell (by omega)).trans hc2) (hrow.lo bl) hs hn hl h h1 hfit))
  have HA := Lib.hid (areSizes_any (.slice p n c) sizes _ hrow)
  rw [hs] at HA
  have HL := Lib.hid (held_lo w (.string ⟨l.toArray⟩) pos (.slice p n c))
  clear hr hs hfit hrow hc0 hc1 hc2 hsz bl
  go_enter Tryz.func33, Tryz.ntmps33
  go_wp2_with fail
  refine HA.out.mono ?_
  rintro e w1 ⟨rfl, rfl⟩
  go_wp2_with fail
  refine HW.out.mono ?_
  rintro e w1 ⟨rfl, hlo⟩
  clear HW HA
  go_wp2_with fail
  go_ret2
  exact GotRow.nil rfl (HL.out.trans hlo)

set_option maxHeartbeats 800000 in
theorem get_ok (l : List UInt8) (pos : Nat) (p : Option Addr) (n c : Nat) (sizes : List Int) (w : World) (hr : Row w (.slice p n c) sizes) (hs : Bn.allSizes sizes = true) (hn : sizes.length ≤ 200000) (hl : l.length ≤ 9223372036854775807) (hfit : pos + Bn.many sizes ≤ l.length) :
    Calls Tryz.prog 33 #[.string ⟨l.toArray⟩, .int .i64 pos, .slice p n c] w fun e w' => GotRow (Bn.fields (l.drop pos) sizes, 0) w e w' := by
  have hmf : ∀ (fn : Fn) (first cap : Array Value) (w : World), (Instr.makeFunc fn first cap).run Tryz.prog w = .ok (.func fn first cap) w := fun _ _ _ _ => rfl
  have hp0 : ¬ (pos : Int) < 0 := by omega
  have hrow := hr.lo (held_lo w (.string ⟨l.toArray⟩) pos (.slice p n c))
  have hc0 : (held w (.string ⟨l.toArray⟩) pos (.slice p n c)).cell? ⟨w.heap.size, 0, none⟩ = some (.string ⟨l.toArray⟩) := by simp [held, go_sem]
  have hc1 : (held w (.string ⟨l.toArray⟩) pos (.slice p n c)).cell? ⟨w.heap.size + 1, 0, none⟩ = some (.int .i64 pos) := by simp [held, go_sem]
  have hc2 : (held w (.string ⟨l.toArray⟩) pos (.slice p n c)).cell? ⟨w.heap.size + 2, 0, none⟩ = some (.slice p n c) := by simp [held, go_sem]
  have hsz : (held w (.string ⟨l.toArray⟩) pos (.slice p n c)).heap.size = w.heap.size + 3 := by simp [held]
  have bl := boxed_lo (held w (.string ⟨l.toArray⟩) pos (.slice p n c))
  have bs := boxed_size (held w (.string ⟨l.toArray⟩) pos (.slice p n c))
  have HW := Lib.hid (rcaught_ret 60 #[.pointer (some ⟨w.heap.size, 0, none⟩), .pointer (some ⟨w.heap.size + 1, 0, none⟩), .pointer (some ⟨w.heap.size + 2, 0, none⟩)] (held w (.string ⟨l.toArray⟩) pos (.slice p n c)) (fun w' v => Own w' (boxed (held w (.string ⟨l.toArray⟩) pos (.slice p n c))).heap.size v (Bn.fields (l.drop pos) sizes)) (fun W => by simp [go_sem])
    (get1_ret w.heap.size (w.heap.size + 1) (w.heap.size + 2) l pos sizes (.slice p n c) _ ((bl.cell (by omega)).trans hc0) ((bl.cell (by omega)).trans hc1) ((bl.cell (by omega)).trans hc2) (by omega) (hrow.lo bl) hs hn hl hfit) (fun w' v u h => Own.set h (by rw [bs]; exact Nat.lt_succ_self _) u))
  have HA := Lib.hid (areSizes_any (.slice p n c) sizes _ hrow)
  rw [hs] at HA
  have HL := Lib.hid (held_lo w (.string ⟨l.toArray⟩) pos (.slice p n c))
  clear hr hs hfit hrow hc0 hc1 hc2 hsz bl bs
  go_enter Tryz.func33, Tryz.ntmps33
  go_wp2_with fail
  refine HA.out.mono ?_
  rintro e w1 ⟨rfl, rfl⟩
  go_wp2_with fail
  refine HW.out.mono ?_
  rintro e w1 ⟨v, rfl, hown, hlo⟩
  clear HW HA
  obtain ⟨pv, cv, rfl⟩ := Own.form hown
  have HR := Lib.hid (Own.row hown)
  clear hown
  go_wp2_with fail
  go_ret2
  exact ⟨pv, cv, rfl, HR.out, HL.out.trans hlo⟩

/-- bin.Get. -/
theorem get_any (l : List UInt8) (pos : Int) (v : Value) (sizes : List Int) (w : World) (hr : Row w v sizes) (hn : sizes.length ≤ 200000) (hl : l.length ≤ 9223372036854775807) (h1 : pos ≤ 9223372036854775807) :
    Calls Tryz.prog 33 #[.string ⟨l.toArray⟩, .int .i64 pos, v] w fun e w' => GotRow (Bn.get l pos sizes) w e w' := by
  obtain ⟨p, c, rfl, hlen⟩ := hr.form
  unfold Bn.get
  by_cases c0 : pos < 0
  · rw [if_pos (.inr c0)]; exact get_neg l pos p _ c w c0
  · by_cases cs : Bn.allSizes sizes = false
    · rw [if_pos (.inl cs)]; exact get_size l pos p _ c sizes w (by omega) hr cs
    · rw [if_neg (by rintro (h | h) <;> contradiction)]
      have hs : Bn.allSizes sizes = true := by simpa using cs
      by_cases cm : (l.length : Int) - pos < (Bn.many sizes : Nat)
      · rw [if_pos (.inr cm)]; exact get_more l pos p _ c sizes w (by omega) h1 hr hs hn hl cm
      · rw [if_neg (by rintro (h | h) <;> omega)]
        obtain ⟨q, rfl⟩ := Int.eq_ofNat_of_zero_le (show 0 ≤ pos by omega)
        exact get_ok l q p _ c sizes w hr hs hn hl (by omega)
end Go.Proofs.YtppihpjcdieeoaaGreatDoor
/-
  Plain functions (layer 7, glyf), further: how high and how deep a glyph is; facts on them. No conditions beyond those stated.
-/
namespace Gl
open Bn He

/-- Height, depth, error. -/
def high (h : He.Head) (l : List Ext) (g : Int) : Int × Int × Int :=
  if isHead h = false then (0, 0, 1)
  else if g < 0 ∨ h.glyphs ≤ g ∨ (0 < l.length ∧ (l.length : Int) ≤ g) then (0, 0, 10)
  else if l.length = 0 then (h.asc, 0 - h.desc, 0)
  else ((l.getD g.toNat none).y1, 0 - (l.getD g.toNat none).y0, 0)
theorem high_arg {h : He.Head} (l : List Ext) (g : Int) (hh : isHead h = false) : high h l g = (0, 0, 1) := by unfold high; rw [if_pos hh]
theorem high_glyph {h : He.Head} {l : List Ext} {g : Int} (hh : isHead h = true) (hg : g < 0 ∨ h.glyphs ≤ g ∨ (0 < l.length ∧ (l.length : Int) ≤ g)) : high h l g = (0, 0, 10) := by
  unfold high; rw [if_neg (by rw [hh]; simp), if_pos hg]
theorem high_nil {h : He.Head} {g : Int} (hh : isHead h = true) (hg : 0 ≤ g ∧ g < h.glyphs) : high h [] g = (h.asc, 0 - h.desc, 0) := by
  unfold high; rw [if_neg (by rw [hh]; simp), if_neg (by simp; omega), if_pos List.length_nil]
theorem high_at {h : He.Head} {l : List Ext} {g : Int} (hh : isHead h = true) (hg : 0 ≤ g ∧ g < h.glyphs) (hl : 0 < l.length) (hgl : g < l.length) : high h l g = ((l.getD g.toNat none).y1, 0 - (l.getD g.toNat none).y0, 0) := by
  unfold high; rw [if_neg (by rw [hh]; simp), if_neg (by omega), if_neg (by omega)]
/-- What is refused is 0, and why. -/
theorem high_no {h : He.Head} {l : List Ext} {g : Int} (he : (high h l g).2.2 ≠ 0) : (high h l g).1 = 0 ∧ (high h l g).2.1 = 0 ∧ (isHead h = false ∨ g < 0 ∨ h.glyphs ≤ g ∨ (l.length : Int) ≤ g) := by
  unfold high at *
  by_cases c1 : isHead h = false
  · rw [if_pos c1]; exact ⟨rfl, rfl, .inl c1⟩
  · rw [if_neg c1] at he ⊢
    by_cases c2 : g < 0 ∨ h.glyphs ≤ g ∨ (0 < l.length ∧ (l.length : Int) ≤ g)
    · rw [if_pos c2]; exact ⟨rfl, rfl, .inr (by omega)⟩
    · rw [if_neg c2] at he
      by_cases c3 : l.length = 0
      · rw [if_pos c3] at he; exact absurd rfl he
      · rw [if_neg c3] at he; exact absurd rfl he
/-- What is told: the bounds; and all glyphs are as high as the font where no outlines are given. -/
theorem high_deep {h : He.Head} {l : List Ext} {g : Int} (hall : l.all isExt = true) (he : (high h l g).2.2 = 0) :
    high h [] g = (h.asc, 0 - h.desc, 0) ∧ (high h l g).1 ≤ 32768 ∧ (high h l g).2.1 ≤ 32768 ∧ (l.length = 0 ∨ 0 ≤ (high h l g).1 + (high h l g).2.1) := by
  unfold high at he
  cases c1 : isHead h with
  | false => rw [if_pos c1] at he; cases he
  | true =>
    have hb := (isHead_iff h).1 c1
    rw [if_neg (by rw [c1]; simp)] at he
    by_cases c2 : g < 0 ∨ h.glyphs ≤ g ∨ (0 < l.length ∧ (l.length : Int) ≤ g)
    · rw [if_pos c2] at he; cases he
    · refine ⟨high_nil c1 (by omega), ?_⟩
      by_cases c3 : l.length = 0
      · obtain rfl := List.eq_nil_of_length_eq_zero c3
        rw [high_nil c1 (by omega)]
        exact ⟨by dsimp only; omega, by dsimp only; omega, .inl rfl⟩
      · have hlt : g.toNat < l.length := by omega
        rw [high_at c1 (by omega) (by omega) (by omega)]
        have hm : l.getD g.toNat none ∈ l := by simp [List.getD, List.getElem?_eq_getElem hlt]
        have hx := List.all_eq_true.1 hall _ hm
        generalize l.getD g.toNat none = x at *
        dsimp only
        cases ha : x.any with
        | true =>
          have := isExt_any hx ha
          omega
        | false =>
          have := isExt_none hx ha
          subst this
          simp [none]
end Gl
/-
  Plain facts (layer 7, glyf), further: rows of one size, the steps by offsets, what is laid; heights as the program tells them. No conditions beyond those stated.
-/
namespace Gl
open Bn He Sf

theorem rep_many (size : Int) : ∀ n, many (List.replicate n size) = size.natAbs * n
  | 0 => by simp [many]
  | n + 1 => by rw [List.replicate_succ, many_cons, rep_many size n, Nat.mul_succ]; omega
theorem rep_sizes {size : Int} (h : isSize size = true) (n : Nat) : allSizes (List.replicate n size) = true := by
  unfold allSizes
  rw [List.all_eq_true]
  intro x hx
  rw [(List.mem_replicate.1 hx).2]; exact h
theorem rep_fields (size : Int) (s : List UInt8) : ∀ n, fields s (List.replicate n size) = (List.range n).map fun i => fld s (size.natAbs * i) size
  | 0 => rfl
  | n + 1 => by
    rw [List.replicate_succ', fields_append, rep_fields size s n, rep_many, List.range_succ, List.map_append]
    rfl

/-- Of how many bytes an offset counts. -/
def unit (long : Bool) : Int := if long = true then 1 else 2
def offs (s : List UInt8) (n : Nat) (long : Bool) : List Int := (List.range n).map fun i => fld s (wid long * i) ((wid long : Nat) : Int)
theorem offs_len (s : List UInt8) (n : Nat) (long : Bool) : (offs s n long).length = n := by simp [offs]
theorem offs_at {s : List UInt8} {n : Nat} {long : Bool} {i : Nat} (h : i < n) : (offs s n long).getD i 0 = fld s (wid long * i) ((wid long : Nat) : Int) := by
  simp [offs, List.getD, h]
theorem get_loca (s : List UInt8) (n : Nat) (long : Bool) : Bn.get s 0 (List.replicate n ((wid long : Nat) : Int)) = if s.length < wid long * n then ([], 4) else (offs s n long, 0) := by
  unfold Bn.get
  rw [rep_sizes (wid_size long), rep_many, rep_fields, wid_abs, if_neg (by simp)]
  by_cases h : s.length < wid long * n
  · rw [if_pos (by omega), if_pos h]
  · rw [if_neg (by omega), if_neg h]; rfl
theorem place_fld (s : List UInt8) (i : Nat) (long : Bool) : place s i long = fld s (wid long * i) ((wid long : Nat) : Int) * unit long := by
  cases long with
  | true => show fld s (4 * i) 4 = fld s (4 * i) 4 * 1; omega
  | false => show 2 * fld s (2 * i) 2 = fld s (2 * i) 2 * 2; omega
theorem fld_bd (s : List UInt8) (pos : Nat) (long : Bool) : 0 ≤ fld s pos ((wid long : Nat) : Int) ∧ fld s pos ((wid long : Nat) : Int) ≤ 4294967295 := by
  unfold fld one
  rw [if_neg (by omega), wid_abs]
  have h1 := be_lt ((s.drop pos).take (wid long))
  have h2 : ((s.drop pos).take (wid long)).length ≤ 4 := by
    rw [List.length_take]
    cases long
    · show min 2 _ ≤ 4; omega
    · show min 4 _ ≤ 4; omega
  have h3 := Nat.pow_le_pow_right (show 0 < 256 by omega) h2
  omega

/-- One glyph, by its offset and the next one. -/
def stepO (g : List UInt8) (a b : Int) : Ext × Int :=
  if b < a then (none, 5) else if (g.length : Int) < b then (none, 4) else ext ((g.drop a.toNat).take (b.toNat - a.toNat))
def fO (g : List UInt8) (os : List Int) (u : Int) (i : Nat) : Ext × Int := stepO g (os.getD i 0 * u) (os.getD (i + 1) 0 * u)
def gets (g : List UInt8) (os : List Int) (u : Int) (n : Nat) : List Ext × Int :=
  if scan (fun i => (fO g os u i).2) 0 n ≠ 0 then ([], scan (fun i => (fO g os u i).2) 0 n) else ((List.range n).map fun i => (fO g os u i).1, 0)
theorem scan_same (f h : Nat → Int) : ∀ (m k : Nat), (∀ j, k ≤ j → j < k + m → f j = h j) → scan f k m = scan h k m
  | 0, _, _ => rfl
  | m + 1, k, e => by rw [scan, scan, e k (Nat.le_refl _) (by omega), scan_same f h m (k + 1) fun j h1 h2 => e j (by omega) (by omega)]
theorem step_fO (s g : List UInt8) (n : Nat) (long : Bool) {i : Nat} (h : i < n) : step s g long i = fO g (offs s (n + 1) long) (unit long) i := by
  unfold fO
  rw [offs_at (by omega), offs_at (by omega), ← place_fld, ← place_fld]
  rfl
/-- Get, by layer 3's. -/
theorem get_by (s g : List UInt8) (n : Nat) (long : Bool) (h1 : 1 ≤ n) (h2 : n ≤ 65535) (h3 : wid long * (n + 1) ≤ s.length) : get s g n long = gets g (offs s (n + 1) long) (unit long) n := by
  have h4 : ((wid long * (n + 1) : Nat) : Int) = (wid long : Int) * ((n : Int) + 1) := by simp
  unfold get gets
  rw [if_neg (by omega), if_neg (by omega), Int.toNat_natCast]
  have e : scan (fun i => (step s g long i).2) 0 n = scan (fun i => (fO g (offs s (n + 1) long) (unit long) i).2) 0 n := scan_same _ _ _ _ fun j _ hj => by rw [step_fO s g n long (by omega)]
  rw [e]
  have e2 : ((List.range n).map fun i => (step s g long i).1) = ((List.range n).map fun i => (fO g (offs s (n + 1) long) (unit long) i).1) := List.map_congr_left fun i hi => by rw [step_fO s g n long (List.mem_range.1 hi)]
  rw [e2]
theorem get_few (s g : List UInt8) (n : Nat) (long : Bool) (h1 : 1 ≤ n) (h2 : n ≤ 65535) (h3 : s.length < wid long * (n + 1)) : get s g n long = ([], 4) := by
  have h4 : ((wid long * (n + 1) : Nat) : Int) = (wid long : Int) * ((n : Int) + 1) := by simp
  unfold get
  rw [if_neg (by omega), if_pos (by omega)]
theorem get_arg (s g : List UInt8) {n : Int} (long : Bool) (h : n < 1 ∨ 65535 < n) : get s g n long = ([], 1) := by unfold get; rw [if_pos h]
/-- The scan behind k steps that are right. -/
theorem gets_wrong {g : List UInt8} {os : List Int} {u : Int} {n k : Nat} (hk : k < n) (h : ∀ i, i < k → (fO g os u i).2 = 0) (hw : (fO g os u k).2 ≠ 0) : gets g os u n = ([], (fO g os u k).2) := by
  have e := scan_first (fun i => (fO g os u i).2) n 0 k (by omega) (by omega) (fun i _ hi => h i hi) hw
  unfold gets
  rw [e, if_pos hw]
theorem gets_right {g : List UInt8} {os : List Int} {u : Int} {n : Nat} (h : ∀ i, i < n → (fO g os u i).2 = 0) : gets g os u n = ((List.range n).map fun i => (fO g os u i).1, 0) := by
  have e := scan_zero (fun i => (fO g os u i).2) n 0 (fun i _ hi => h i (by omega))
  unfold gets
  rw [e, if_neg (by simp)]
theorem gets_bd (g : List UInt8) (os : List Int) (u : Int) (n : Nat) : (gets g os u n).1.length ≤ n := by
  unfold gets
  split
  · simp
  · simp
theorem ext_two (s : List UInt8) : Bn.get s 2 [-2, -2, -2, -2] = if s.length < 10 then ([], 4) else ([fld s 2 (-2), fld s 4 (-2), fld s 6 (-2), fld s 8 (-2)], 0) := by
  unfold Bn.get
  rw [show allSizes [-2, -2, -2, -2] = true by decide, show many [-2, -2, -2, -2] = 8 by decide, if_neg (by simp)]
  by_cases h : s.length < 10
  · rw [if_pos (by omega), if_pos h]
  · rw [if_neg (by omega), if_neg h]
    simp [fields, fld, List.drop_drop]
theorem ext_more {s : List UInt8} (h0 : s.length ≠ 0) (h : s.length < 10) : ext s = (none, 4) := by unfold ext; rw [if_neg h0, if_pos h]
theorem ext_form {s : List UInt8} (h : 10 ≤ s.length) (hx : isExt (read s) = false) : ext s = (none, 5) := by unfold ext; rw [if_neg (by omega), if_neg (by omega), if_pos hx]
theorem ext_right {s : List UInt8} (h : 10 ≤ s.length) (hx : isExt (read s) = true) : ext s = (read s, 0) := by unfold ext; rw [if_neg (by omega), if_neg (by omega), if_neg (by rw [hx]; simp)]

/-- The fields of outlines. -/
def vals1 (x : Ext) : List Int := if x.any = true then [0, x.x0, x.y0, x.x1, x.y1, 0] else []
def vals : List Ext → List Int
  | [] => []
  | x :: r => vals1 x ++ vals r
theorem vals_append : ∀ a b : List Ext, vals (a ++ b) = vals a ++ vals b
  | [], b => rfl
  | x :: r, b => by rw [List.cons_append, vals, vals, vals_append r b, List.append_assoc]
theorem vals_snoc (l : List Ext) (x : Ext) : vals (l ++ [x]) = vals l ++ vals1 x := by rw [vals_append, vals, vals, List.append_nil]
theorem flat_vals : ∀ l : List Ext, flat (-2) (vals l) = bodies l
  | [] => rfl
  | x :: r => by
    rw [vals, bodies, flat_append, flat_vals r]
    congr 1
    unfold vals1 body
    by_cases h : x.any = true
    · rw [if_pos h, if_pos h]
      simp only [flat, List.append_nil]
      rw [show bytes 0 (-2 : Int).natAbs = [0, 0] by decide]
      simp only [List.append_assoc]
      rfl
    · rw [if_neg h, if_neg h]; rfl
theorem vals_len (l : List Ext) : 2 * (vals l).length = (bodies l).length := by rw [← flat_vals, flat_len]; rfl
theorem vals_many (l : List Ext) : (vals l).length = 6 * outlines l := by
  have h1 := vals_len l
  have h2 := bodies_len l
  omega
def ends (l : List Ext) (u : Nat) (n : Nat) : List Int := (List.range (n + 1)).map fun i => ((2 * (vals (l.take i)).length / u : Nat) : Int)
theorem ends_len (l : List Ext) (u n : Nat) : (ends l u n).length = n + 1 := by simp [ends]
theorem ends_zero (l : List Ext) (u : Nat) : ends l u 0 = [0] := by simp [ends, vals]
theorem ends_succ (l : List Ext) (u n : Nat) : ends l u (n + 1) = ends l u n ++ [((2 * (vals (l.take (n + 1))).length / u : Nat) : Int)] := by
  unfold ends
  rw [List.range_succ, List.map_append]; rfl
def unitN (long : Bool) : Nat := if long = true then 1 else 2
theorem unit_nat (long : Bool) : unit long = ((unitN long : Nat) : Int) := by cases long <;> rfl
theorem ends_places (l : List Ext) (long : Bool) : ends l (unitN long) l.length = places l long := by
  unfold ends places
  refine List.map_congr_left fun i _ => ?_
  have h := vals_len (l.take i)
  unfold off
  cases long with
  | true => rw [if_pos rfl, ← h]; simp [unitN]
  | false => rw [if_neg (by simp), ← h]; rfl
theorem join_rep (size : Int) : ∀ xs : List Int, join (List.replicate xs.length size) xs = flat size xs
  | [] => rfl
  | x :: r => by rw [List.length_cons, List.replicate_succ, join, join_rep size r, flat]
theorem allFit_rep (size : Int) : ∀ xs : List Int, allFit (List.replicate xs.length size) xs = xs.all fun v => fits v size
  | [] => rfl
  | x :: r => by rw [List.length_cons, List.replicate_succ, allFit, allFit_rep size r, List.all_cons]
theorem put_rep {size : Int} (hz : isSize size = true) {xs : List Int} (h : ∀ v ∈ xs, fits v size = true) : Bn.put (List.replicate xs.length size) xs = (flat size xs, 0) := by
  unfold Bn.put
  rw [rep_sizes hz, allFit_rep, join_rep, if_neg (by simp), if_neg (by rw [List.all_eq_true.2 h]; simp)]
theorem put_loca {l : List Ext} {long : Bool} (ho : outlines l ≤ if long = true then 65535 else 10922) : Bn.put (List.replicate (l.length + 1) ((wid long : Nat) : Int)) (places l long) = (loca l long, 0) := by
  have := put_rep (wid_size long) (xs := places l long) (by
    intro v hv
    unfold places at hv
    obtain ⟨i, _, rfl⟩ := List.mem_map.1 hv
    have hle := off_le l i
    cases long with
    | true => simp only [if_true] at *; unfold fits wid; simp; omega
    | false => simp only [Bool.false_eq_true, if_false] at *; unfold fits wid; simp; omega)
  rwa [places_len] at this
theorem vals_fit : ∀ {l : List Ext}, l.all isExt = true → ∀ v ∈ vals l, fits v (-2) = true
  | [], _, v, hv => by simp [vals] at hv
  | x :: r, h, v, hv => by
    rw [List.all_cons, Bool.and_eq_true] at h
    rw [vals, List.mem_append] at hv
    rcases hv with hv | hv
    · unfold vals1 at hv
      by_cases ha : x.any = true
      · rw [if_pos ha] at hv
        have hb := isExt_any h.1 ha
        simp only [List.mem_cons, List.not_mem_nil, or_false] at hv
        rcases hv with rfl | rfl | rfl | rfl | rfl | rfl <;> exact fits2s (by omega) (by omega)
      · rw [if_neg ha] at hv; simp at hv
    · exact vals_fit h.2 v hv
theorem put_bodies {l : List Ext} (h : l.all isExt = true) : Bn.put (List.replicate (vals l).length (-2)) (vals l) = (bodies l, 0) := by
  rw [put_rep (by decide) (vals_fit h), flat_vals]
theorem put_arg {l : List Ext} (long : Bool) (h : l.length < 1 ∨ 65535 < l.length ∨ l.all isExt = false) : put l long = ([], [], 1) := by unfold put; rw [if_pos h]
theorem put_long {l : List Ext} (h1 : 1 ≤ l.length) (h2 : l.length ≤ 65535) (h : l.all isExt = true) (ho : 10922 < outlines l) : put l false = ([], [], 7) := by
  unfold put; rw [if_neg (by rintro (c | c | c); omega; omega; rw [h] at c; cases c), if_pos ⟨rfl, ho⟩]
theorem put_right {l : List Ext} {long : Bool} (h1 : 1 ≤ l.length) (h2 : l.length ≤ 65535) (h : l.all isExt = true) (ho : outlines l ≤ if long = true then 65535 else 10922) : put l long = (loca l long, bodies l, 0) := by
  unfold put; rw [if_neg (by rintro (c | c | c); omega; omega; rw [h] at c; cases c), if_neg (by rintro ⟨rfl, hb⟩; simp at ho; omega)]
theorem take_snocE {l : List Ext} {k : Nat} (h : k < l.length) : l.take (k + 1) = l.take k ++ [l.getD k none] := by
  rw [List.take_succ_eq_append_getElem h]
  simp [List.getD, List.getElem?_eq_getElem h]
theorem getD_some {l : List Ext} {k : Nat} (h : k < l.length) : l[k]? = some (l.getD k none) := by
  simp [List.getD, List.getElem?_eq_getElem h]
theorem all_upto {l : List Ext} {k : Nat} (h : k < l.length) : (l.take (k + 1)).all isExt = ((l.take k).all isExt && isExt (l.getD k none)) := by
  rw [take_snocE h, List.all_append]; simp
theorem all_no {l : List Ext} {k : Nat} (h : k < l.length) (hx : isExt (l.getD k none) = false) : l.all isExt = false := by
  rw [List.all_eq_false]
  refine ⟨l.getD k none, ?_, by rw [hx]; simp⟩
  rw [show l.getD k none = l[k] by simp [List.getD, List.getElem?_eq_getElem h]]; exact List.getElem_mem _
theorem outlines_snoc {l : List Ext} {k : Nat} (h : k < l.length) : outlines (l.take (k + 1)) = outlines (l.take k) + if (l.getD k none).any = true then 1 else 0 := by
  rw [take_snocE h]
  unfold outlines
  rw [List.filter_append, List.length_append]
  congr 1
  by_cases ha : (l.getD k none).any = true
  · rw [if_pos ha, List.filter_cons_of_pos ha]; rfl
  · rw [if_neg ha, List.filter_cons_of_neg ha]; rfl

/-- Height, depth, error: 0 and 0 without an outline. -/
def highP (h : He.Head) (l : List Ext) (g : Int) : Int × Int × Int :=
  if isHead h = false then (0, 0, 1)
  else if g < 0 ∨ h.glyphs ≤ g ∨ (0 < l.length ∧ (l.length : Int) ≤ g) then (0, 0, 10)
  else if l.length = 0 then (h.asc, 0 - h.desc, 0)
  else if (l.getD g.toNat none).any = false then (0, 0, 0)
  else ((l.getD g.toNat none).y1, 0 - (l.getD g.toNat none).y0, 0)
theorem highP_eq {h : He.Head} {l : List Ext} {g : Int} (hall : l.all isExt = true) : highP h l g = high h l g := by
  unfold highP high
  by_cases c1 : isHead h = false
  · rw [if_pos c1, if_pos c1]
  · rw [if_neg c1, if_neg c1]
    by_cases c2 : g < 0 ∨ h.glyphs ≤ g ∨ (0 < l.length ∧ (l.length : Int) ≤ g)
    · rw [if_pos c2, if_pos c2]
    · rw [if_neg c2, if_neg c2]
      by_cases c3 : l.length = 0
      · rw [if_pos c3, if_pos c3]
      · rw [if_neg c3, if_neg c3]
        have hlt : g.toNat < l.length := by omega
        have hm : l.getD g.toNat none ∈ l := by simp [List.getD, List.getElem?_eq_getElem hlt]
        have hx := List.all_eq_true.1 hall _ hm
        generalize l.getD g.toNat none = x at *
        by_cases c4 : x.any = false
        · rw [if_pos c4, isExt_none hx c4]; rfl
        · rw [if_neg c4]
end Gl

/-
  Facts that the walks rest on: CmKinds, BnBase, BnValue, BnCaught. No conditions beyond those stated.
-/
import Derived.Test.YtppihpjcdieeoaaGreatDoorGround
import Derived.Test.YtppihpjcdieeoaaGreatDoorPart01
import Derived.Maps.Keyed
import Derived.Carry
import Derived.Laws.EntriesVeiled
import Derived.Test.YtppihpjcdieeoaaGreatDoorPlain
import Derived.Laws.BitsAllLaws
/-
  The contract of cmap.formats: a map of five formats; what a look-up in it tells. No conditions beyond those stated.
-/
namespace Go.Proofs.YtppihpjcdieeoaaGreatDoor
open Go.RowKit Go.Maps Go.ChangeMaps

def kind0 : Value := .agg #[.func (.func 47) #[] #[], .func (.func 48) #[] #[], .int .i64 1, .int .i64 0]
def kind4 : Value := .agg #[.func (.func 49) #[] #[], .func (.func 50) #[] #[], .int .i64 3, .int .i64 1]
def kind6 : Value := .agg #[.func (.func 47) #[] #[], .func (.func 51) #[] #[], .int .i64 3, .int .i64 1]
def kindG (x : Nat) : Value := .agg #[.func (.func 52) #[] #[], .func (.func 100) #[] #[.pointer (some ⟨x, 0, none⟩)], .int .i64 3, .int .i64 10]
def noKind : Value := .agg #[.nilFunc, .nilFunc, .int .i64 0, .int .i64 0]
/-- The map's entries; x and y hold the numbers of the last two formats. -/
def ents (x y : Nat) : List MapEntry := [⟨.int .i64 0, kind0, 0⟩, ⟨.int .i64 4, kind4, 1⟩, ⟨.int .i64 6, kind6, 2⟩, ⟨.int .i64 12, kindG x, 3⟩, ⟨.int .i64 13, kindG y, 4⟩]
/-- Block b is the map. -/
def Kinds (W : World) (b : Nat) : Prop := ∃ x y, W.heap[b]? = some (.map (ents x y).toArray 5) ∧ W.cell? ⟨x, 0, none⟩ = some (.int .i64 12) ∧ W.cell? ⟨y, 0, none⟩ = some (.int .i64 13)
theorem Kinds.lo {W W' : World} {b : Nat} (h : Kinds W b) (l : Lo W W') : Kinds W' b := by
  obtain ⟨x, y, h1, h2, h3⟩ := h
  exact ⟨x, y, (l.block b (Array.getElem?_eq_some_iff.1 h1).1).trans h1, (l.cell (World.block_lt_of_cell? W _ h2)).trans h2, (l.cell (World.block_lt_of_cell? W _ h3)).trans h3⟩
/-- What stands at a format. -/
def kindOf (x y : Nat) (n : Int) : Value × Bool := if n = 0 then (kind0, true) else if n = 4 then (kind4, true) else if n = 6 then (kind6, true) else if n = 12 then (kindG x, true) else if n = 13 then (kindG y, true) else (noKind, false)
theorem wf64 {n : Int} (h1 : -9223372036854775808 ≤ n) (h2 : n ≤ 9223372036854775807) : (Lit.int .i64 n).wf = true := WalkArith.wf_i64 ⟨h1, h2⟩

theorem ents_keys (x y : Nat) : ∀ e ∈ ents x y, ∃ l, keyOf Tryz.prog 3 e.key = some l := by
  intro e he
  simp only [ents, List.mem_cons, List.not_mem_nil, or_false] at he
  rcases he with rfl | rfl | rfl | rfl | rfl
  all_goals exact ⟨_, keyOf_int_mk Tryz.underlying3 (wf64 (by omega) (by omega))⟩
theorem kinds_zero (W : World) : (zeroValue 59).run Tryz.prog W = .ok noKind W := by
  unfold noKind; exact Tryz.zeroValue59 W
theorem kinds_look1 {W : World} {b x y : Nat} (hb : W.heap[b]? = some (.map (ents x y).toArray 5)) {n : Int} (h1 : -9223372036854775808 ≤ n) (h2 : n ≤ 9223372036854775807) :
    (Instr.lookup 43 (.map (some b)) (.int .i64 n) true).run Tryz.prog W = .ok (.tuple #[(kindOf x y n).1, .bool (kindOf x y n).2]) W := by
  have K := int_keyed (P := Tryz.prog) (k := 3) (q := .i64) Tryz.underlying3
  have hkey := keyOf_int_mk (P := Tryz.prog) (k := 3) (q := .i64) Tryz.underlying3 (a := n) (wf64 h1 h2)
  have hcheck := fun em => K.check W em hkey
  rcases K.find W hkey (ents x y) (ents_keys x y) with ⟨f1, f2⟩ | ⟨j, e, f1, f2, f3⟩
  · have n0 := f2 ⟨.int .i64 0, kind0, 0⟩ (by simp [ents])
    have n4 := f2 ⟨.int .i64 4, kind4, 1⟩ (by simp [ents])
    have n6 := f2 ⟨.int .i64 6, kind6, 2⟩ (by simp [ents])
    have n12 := f2 ⟨.int .i64 12, kindG x, 3⟩ (by simp [ents])
    have n13 := f2 ⟨.int .i64 13, kindG y, 4⟩ (by simp [ents])
    have e : kindOf x y n = (noKind, false) := by
      unfold kindOf
      rw [if_neg (fun h => n0 (by rw [h])), if_neg (fun h => n4 (by rw [h])), if_neg (fun h => n6 (by rw [h])), if_neg (fun h => n12 (by rw [h])), if_neg (fun h => n13 (by rw [h]))]
    rw [e]
    simp [Instr.lookup, run_underlying Tryz.underlying43, MapKept.run_getObj_map hb, hcheck, f1, Result.andThen]
    rfl
  · have e : kindOf x y n = (e.val, true) := by
      unfold ents at f2
      rcases j with _ | _ | _ | _ | _ | j
      all_goals simp only [List.getElem?_cons_zero, List.getElem?_cons_succ, Option.some.injEq, List.getElem?_nil, reduceCtorEq] at f2
      all_goals
        subst f2
        dsimp only at f3
        obtain rfl : _ = n := by injection f3
        rfl
    rw [e]
    simp [Instr.lookup, run_underlying Tryz.underlying43, MapKept.run_getObj_map hb, hcheck, f1, Result.andThen]
/-- What a look-up tells, in that world and behind it. -/
theorem kinds_look {W : World} {b : Nat} (h : Kinds W b) {n : Int} (h1 : -9223372036854775808 ≤ n) (h2 : n ≤ 9223372036854775807) :
    ∃ x y, W.cell? ⟨x, 0, none⟩ = some (.int .i64 12) ∧ W.cell? ⟨y, 0, none⟩ = some (.int .i64 13) ∧ ∀ W', Lo W W' → (Instr.lookup 43 (.map (some b)) (.int .i64 n) true).run Tryz.prog W' = .ok (.tuple #[(kindOf x y n).1, .bool (kindOf x y n).2]) W' := by
  obtain ⟨x, y, hb, hx, hy⟩ := h
  exact ⟨x, y, hx, hy, fun W' l => kinds_look1 ((l.block b (Array.getElem?_eq_some_iff.1 hb).1).trans hb) h1 h2⟩
set_option maxRecDepth 100000 in
/-- A new entry behind those that are there. -/
theorem upd_new {W : World} {b c : Nat} {es : List MapEntry} {n : Int} {v : Value} (hb : W.heap[b]? = some (.map es.toArray c)) (h1 : -9223372036854775808 ≤ n) (h2 : n ≤ 9223372036854775807)
    (hes : ∀ e ∈ es, ∃ a : Int, e.key = .int .i64 a ∧ a ≠ n ∧ -9223372036854775808 ≤ a ∧ a ≤ 9223372036854775807) :
    (Instr.mapUpdate 43 (.map (some b)) (.int .i64 n) v).run Tryz.prog W = .ok () (setBlock W b (.map (es ++ [(⟨.int .i64 n, v, c⟩ : MapEntry)]).toArray (c + 1))) := by
  have K := int_keyed (P := Tryz.prog) (k := 3) (q := .i64) Tryz.underlying3
  have hkey := keyOf_int_mk (P := Tryz.prog) (k := 3) (q := .i64) Tryz.underlying3 (a := n) (wf64 h1 h2)
  have hcheck := K.check W false hkey
  rcases K.find W hkey es (fun e he => by
    obtain ⟨a, h, _, k1, k2⟩ := hes e he
    exact ⟨_, by rw [h]; exact keyOf_int_mk Tryz.underlying3 (wf64 k1 k2)⟩) with ⟨f1, f2⟩ | ⟨j, e, f1, f2, f3⟩
  · simp [Instr.mapUpdate, run_underlying Tryz.underlying43, MapKept.run_getObj_map hb, hcheck, f1, MapKept.run_setObj_map _ hb, Result.andThen, setBlock]
  · obtain ⟨a, h, hne, _⟩ := hes e (List.mem_of_getElem? f2)
    rw [h] at f3
    injection f3 with _ f3
    exact absurd f3 hne
theorem setBlock_at {W : World} {b : Nat} {o u : Obj} (h : W.heap[b]? = some u) : (setBlock W b o).heap[b]? = some o := by
  have := (Array.getElem?_eq_some_iff.1 h).1
  simp [setBlock, this]
theorem setBlock_other {W : World} {b c : Nat} (o : Obj) (h : c ≠ b) : (setBlock W b o).heap[c]? = W.heap[c]? := by
  simp [setBlock, Ne.symm h]
theorem setBlock_size (W : World) (b : Nat) (o : Obj) : (setBlock W b o).heap.size = W.heap.size := by simp [setBlock]
theorem setBlock_lo {w W : World} {b : Nat} (h : Lo w W) (o : Obj) (hb : w.heap.size ≤ b) : Lo w (setBlock W b o) := by
  refine Below.trans h ?_
  exact ⟨rfl, rfl, rfl, by rw [setBlock_size]; exact Nat.le_refl _, fun j hj => setBlock_other o (by omega)⟩

set_option maxHeartbeats 400000 in
theorem groupWriter_any (n : Int) (w : World) : Calls Tryz.prog 53 #[.int .i64 n] w fun e w' => e = .returned (.func (.func 100) #[] #[.pointer (some ⟨w.heap.size, 0, none⟩)]) ∧ w' = w.alloc (.cells #[.int .i64 n] 3) := by
  go_enter Tryz.func53, Tryz.ntmps53
  go_wp2_with fail
  go_ret
  exact ⟨rfl, rfl⟩

set_option maxRecDepth 100000 in
set_option maxHeartbeats 1600000 in
theorem formats_any (w : World) : Calls Tryz.prog 27 #[] w fun e w' => ∃ b, e = .returned (.map (some b)) ∧ w.heap.size ≤ b ∧ Kinds w' b ∧ Lo w w' := by
  have hmm := @run_makeMap Tryz.prog
  have h0 := (MapKept.heap_alloc w (.map #[] 0)).1
  obtain ⟨W0, e0⟩ : ∃ W0, W0 = w.alloc (.map #[] 0) := ⟨_, rfl⟩
  have l0 : Lo w W0 := e0 ▸ (Lo.refl w).alloc _
  rw [← e0] at h0
  have u0 := upd_new (n := 0) (v := kind0) (es := []) h0 (by omega) (by omega) (fun e he => by cases he)
  obtain ⟨W1, e1⟩ : ∃ W1, W1 = setBlock W0 w.heap.size (.map (([] : List MapEntry) ++ [(⟨.int .i64 0, kind0, 0⟩ : MapEntry)]).toArray (0 + 1)) := ⟨_, rfl⟩
  have h1 : W1.heap[w.heap.size]? = _ := e1 ▸ setBlock_at h0
  have l1 : Lo w W1 := e1 ▸ setBlock_lo l0 _ (Nat.le_refl _)
  rw [← e1] at u0
  have u1 := upd_new (n := 4) (v := kind4) h1 (by omega) (by omega) (fun e he => by simp at he; subst he; exact ⟨0, rfl, by omega, by omega, by omega⟩)
  obtain ⟨W2, e2⟩ : ∃ W2, W2 = setBlock W1 w.heap.size (.map (([] : List MapEntry) ++ [(⟨.int .i64 0, kind0, 0⟩ : MapEntry)] ++ [(⟨.int .i64 4, kind4, 0 + 1⟩ : MapEntry)]).toArray (0 + 1 + 1)) := ⟨_, rfl⟩
  have h2 : W2.heap[w.heap.size]? = _ := e2 ▸ setBlock_at h1
  have l2 : Lo w W2 := e2 ▸ setBlock_lo l1 _ (Nat.le_refl _)
  rw [← e2] at u1
  have u2 := upd_new (n := 6) (v := kind6) h2 (by omega) (by omega) (fun e he => by
    simp at he
    rcases he with rfl | rfl
    · exact ⟨0, rfl, by omega, by omega, by omega⟩
    · exact ⟨4, rfl, by omega, by omega, by omega⟩)
  obtain ⟨W3, e3⟩ : ∃ W3, W3 = setBlock W2 w.heap.size (.map (([] : List MapEntry) ++ [(⟨.int .i64 0, kind0, 0⟩ : MapEntry)] ++ [(⟨.int .i64 4, kind4, 0 + 1⟩ : MapEntry)] ++ [(⟨.int .i64 6, kind6, 0 + 1 + 1⟩ : MapEntry)]).toArray (0 + 1 + 1 + 1)) := ⟨_, rfl⟩
  have h3 : W3.heap[w.heap.size]? = _ := e3 ▸ setBlock_at h2
  have l3 : Lo w W3 := e3 ▸ setBlock_lo l2 _ (Nat.le_refl _)
  rw [← e3] at u2
  have g3 := (Array.getElem?_eq_some_iff.1 h3).1
  obtain ⟨W4, e4⟩ : ∃ W4, W4 = W3.alloc (.cells #[.int .i64 12] 3) := ⟨_, rfl⟩
  have h4 : W4.heap[w.heap.size]? = _ := e4 ▸ (Below.heap_alloc W3 _ _ g3).trans h3
  have x4 : W4.heap[W3.heap.size]? = some (.cells #[.int .i64 12] 3 (0, 0)) := e4 ▸ new_block W3 _
  have l4 : Lo w W4 := e4 ▸ l3.alloc _
  have u3 := upd_new (n := 12) (v := kindG W3.heap.size) h4 (by omega) (by omega) (fun e he => by
    simp at he
    rcases he with rfl | rfl | rfl
    · exact ⟨0, rfl, by omega, by omega, by omega⟩
    · exact ⟨4, rfl, by omega, by omega, by omega⟩
    · exact ⟨6, rfl, by omega, by omega, by omega⟩)
  obtain ⟨W5, e5⟩ : ∃ W5, W5 = setBlock W4 w.heap.size (.map (([] : List MapEntry) ++ [(⟨.int .i64 0, kind0, 0⟩ : MapEntry)] ++ [(⟨.int .i64 4, kind4, 0 + 1⟩ : MapEntry)] ++ [(⟨.int .i64 6, kind6, 0 + 1 + 1⟩ : MapEntry)] ++ [(⟨.int .i64 12, kindG W3.heap.size, 0 + 1 + 1 + 1⟩ : MapEntry)]).toArray (0 + 1 + 1 + 1 + 1)) := ⟨_, rfl⟩
  have h5 : W5.heap[w.heap.size]? = _ := e5 ▸ setBlock_at h4
  have x5 : W5.heap[W3.heap.size]? = some (.cells #[.int .i64 12] 3 (0, 0)) := e5 ▸ (setBlock_other _ (by omega)).trans x4
  have l5 : Lo w W5 := e5 ▸ setBlock_lo l4 _ (Nat.le_refl _)
  rw [← e5] at u3
  have g5 := (Array.getElem?_eq_some_iff.1 h5).1
  have g5x := (Array.getElem?_eq_some_iff.1 x5).1
  obtain ⟨W6, e6⟩ : ∃ W6, W6 = W5.alloc (.cells #[.int .i64 13] 3) := ⟨_, rfl⟩
  have h6 : W6.heap[w.heap.size]? = _ := e6 ▸ (Below.heap_alloc W5 _ _ g5).trans h5
  have x6 : W6.heap[W3.heap.size]? = some (.cells #[.int .i64 12] 3 (0, 0)) := e6 ▸ (Below.heap_alloc W5 _ _ g5x).trans x5
  have y6 : W6.heap[W5.heap.size]? = some (.cells #[.int .i64 13] 3 (0, 0)) := e6 ▸ new_block W5 _
  have l6 : Lo w W6 := e6 ▸ l5.alloc _
  have u4 := upd_new (n := 13) (v := kindG W5.heap.size) h6 (by omega) (by omega) (fun e he => by
    simp at he
    rcases he with rfl | rfl | rfl | rfl
    · exact ⟨0, rfl, by omega, by omega, by omega⟩
    · exact ⟨4, rfl, by omega, by omega, by omega⟩
    · exact ⟨6, rfl, by omega, by omega, by omega⟩
    · exact ⟨12, rfl, by omega, by omega, by omega⟩)
  obtain ⟨W7, e7⟩ : ∃ W7, W7 = setBlock W6 w.heap.size (.map (([] : List MapEntry) ++ [(⟨.int .i64 0, kind0, 0⟩ : MapEntry)] ++ [(⟨.int .i64 4, kind4, 0 + 1⟩ : MapEntry)] ++ [(⟨.int .i64 6, kind6, 0 + 1 + 1⟩ : MapEntry)] ++ [(⟨.int .i64 12, kindG W3.heap.size, 0 + 1 + 1 + 1⟩ : MapEntry)] ++ [(⟨.int .i64 13, kindG W5.heap.size, 0 + 1 + 1 + 1 + 1⟩ : MapEntry)]).toArray (0 + 1 + 1 + 1 + 1 + 1)) := ⟨_, rfl⟩
  have h7 : W7.heap[w.heap.size]? = _ := e7 ▸ setBlock_at h6
  have x7 : W7.heap[W3.heap.size]? = some (.cells #[.int .i64 12] 3 (0, 0)) := e7 ▸ (setBlock_other _ (by omega)).trans x6
  have y7 : W7.heap[W5.heap.size]? = some (.cells #[.int .i64 13] 3 (0, 0)) := e7 ▸ (setBlock_other _ (by omega)).trans y6
  have l7 : Lo w W7 := e7 ▸ setBlock_lo l6 _ (Nat.le_refl _)
  rw [← e7] at u4
  have HK : Hid (Kinds W7 w.heap.size ∧ Lo w W7) := Lib.hid ⟨⟨W3.heap.size, W5.heap.size, h7, block_cell (i := 0) x7 rfl, block_cell (i := 0) y7 rfl⟩, l7⟩
  have G1 := Lib.hid (groupWriter_any 12 W3)
  have G2 := Lib.hid (groupWriter_any 13 W5)
  rw [← e4] at G1
  rw [← e6] at G2
  clear h0 l0 e1 h1 l1 e2 h2 l2 e3 h3 l3 g3 e4 h4 x4 l4 e5 h5 x5 l5 g5 g5x e6 h6 x6 y6 l6 e7 h7 x7 y7 l7
  unfold kind0 at u0
  unfold kind4 at u1
  unfold kind6 at u2
  unfold kindG at u3 u4
  have hmf : ∀ (fn : Fn) (first cap : Array Value) (w : World), (Instr.makeFunc fn first cap).run Tryz.prog w = .ok (.func fn first cap) w := fun _ _ _ _ => rfl
  have hmk : (Instr.makeMap 43 none).run Tryz.prog w = .ok (.map (some w.heap.size)) W0 := by rw [e0]; exact run_makeMap _ _
  clear e0 hmm
  go_enter Tryz.func27, Tryz.ntmps27
  go_wp2_with fail
  refine (G1.out).mono ?_
  rintro e w1 ⟨rfl, rfl⟩
  clear G1
  go_wp2_with fail
  refine (G2.out).mono ?_
  rintro e w1 ⟨rfl, rfl⟩
  clear G2
  go_wp2_with fail
  go_ret
  exact ⟨_, rfl, Nat.le_refl _, HK.out.1, HK.out.2⟩
end Go.Proofs.YtppihpjcdieeoaaGreatDoor
/-
  Contracts of package bin's small functions: width, areSizes, total, bounds, fits. No conditions beyond those stated.
-/
namespace Bn
theorem size_cases {n : Int} (h : isSize n = true) : n = 1 ∨ n = 2 ∨ n = 3 ∨ n = 4 ∨ n = -1 ∨ n = -2 ∨ n = -3 ∨ n = -4 := by
  rw [isSize_iff] at h; omega
/-- The least number of a size, and the one behind its greatest. -/
def lo (size : Int) : Int := if size < 0 then -((256 ^ size.natAbs / 2 : Nat) : Int) else 0
def hi (size : Int) : Int := if size < 0 then ((256 ^ size.natAbs / 2 : Nat) : Int) else ((256 ^ size.natAbs : Nat) : Int)
theorem fits_lohi (v size : Int) : fits v size = (decide (lo size ≤ v) && decide (v < hi size)) := by
  unfold fits lo hi
  by_cases h : size < 0
  · simp [h]
  · simp [h]
theorem allSizes_snoc (l : List Int) (n : Int) : allSizes (l ++ [n]) = (allSizes l && isSize n) := by simp [allSizes]
theorem allSizes_false {l : List Int} {k : Nat} (hk : k < l.length) (h : isSize (l.getD k 0) = false) : allSizes l = false := by
  have hmem : l.getD k 0 ∈ l := by simp [List.getD, List.getElem?_eq_getElem hk]
  cases e : allSizes l with
  | false => rfl
  | true => rw [List.all_eq_true.1 e _ hmem] at h; cases h
theorem allSizes_at {l : List Int} {k : Nat} (h : allSizes l = true) (hk : k < l.length) : isSize (l.getD k 0) = true := by
  have hmem : l.getD k 0 ∈ l := by simp [List.getD, List.getElem?_eq_getElem hk]
  exact List.all_eq_true.1 h _ hmem
theorem take_snoc {l : List Int} {k : Nat} (hk : k < l.length) : l.take (k + 1) = l.take k ++ [l.getD k 0] := by
  rw [List.take_succ_eq_append_getElem hk]; simp [List.getD, List.getElem?_eq_getElem hk]
theorem many_snoc (l : List Int) (n : Int) : many (l ++ [n]) = many l + n.natAbs := by simp [many]
theorem many_le (l : List Int) (h : allSizes l = true) : many l ≤ 4 * l.length := by
  induction l with
  | nil => simp [many]
  | cons n r ih =>
    simp only [allSizes, List.all_cons, Bool.and_eq_true] at h
    have := isSize_wide h.1
    have := ih h.2
    rw [many_cons, List.length_cons]; omega
theorem many_take_le (l : List Int) (h : allSizes l = true) (k : Nat) : many (l.take k) ≤ 4 * k := by
  have h1 : allSizes (l.take k) = true := by
    unfold allSizes at *
    rw [List.all_eq_true] at *
    exact fun x hx => h x (List.mem_of_mem_take hx)
  have := many_le _ h1
  rw [List.length_take] at this
  omega
end Bn
namespace Go.Proofs.YtppihpjcdieeoaaGreatDoor
open Go.RowKit

/-- The error k, raised. -/
def raise (k : Int) : List PanicEntry := [{ v := .iface 24 (.int .i64 k), recovered := false }]

/-- A slice that reads as l, taken apart. -/
theorem Row.form {w : World} {v : Value} {l : List Int} (h : Row w v l) : ∃ p c, v = .slice p l.length c ∧ l.length ≤ 9223372036854775807 := by
  rcases h with ⟨p, c, rfl, _, rfl⟩ | ⟨b, off, cap, rfl, h2, h2b, h3, h4⟩
  · exact ⟨_, _, rfl, by simp⟩
  · exact ⟨_, _, rfl, h2⟩
theorem Row.at_ {w : World} {p : Option Addr} {n c : Nat} {l : List Int} (h : Row w (.slice p n c) l) {k : Nat} (hk : k < n) :
    ∃ b off, p = some ⟨b, off, none⟩ ∧ w.cell? ⟨b, off + k, none⟩ = some (.int .i64 (l.getD k 0)) := by
  rcases h with ⟨_, _, h1, _, rfl⟩ | ⟨b, off, cap, h1, h2, h2b, h3, h4⟩
  · injection h1 with _ h1 _; omega
  · injection h1 with hp hn _
    exact ⟨b, off, hp, h4 k (by omega)⟩

set_option maxHeartbeats 400000 in
theorem width_any (n : Int) (w : World) (h : Bn.isSize n = true) :
    Calls Tryz.prog 64 #[.int .i64 n] w fun e w' => e = .returned (.int .i64 n.natAbs) ∧ w = w' := by
  rw [Bn.isSize_iff] at h
  by_cases hn : n < 0
  · go_enter Tryz.func64, Tryz.ntmps64
    go_wp2
    go_ret
    exact ⟨ret_int (by omega), rfl⟩
  · go_enter Tryz.func64, Tryz.ntmps64
    go_wp2
    go_ret
    exact ⟨ret_int (by omega), rfl⟩

set_option maxHeartbeats 400000 in
theorem bounds_any (n : Int) (w : World) (h : Bn.isSize n = true) :
    Calls Tryz.prog 108 #[.int .i64 n] w fun e w' => e = .returned (.tuple #[.int .i64 (Bn.lo n), .int .i64 (Bn.hi n)]) ∧ w = w' := by
  rcases Bn.size_cases h with rfl | rfl | rfl | rfl | rfl | rfl | rfl | rfl
  all_goals
    go_enter Tryz.func108, Tryz.ntmps108
    go_wp2_with fail
    refine (width_any _ _ h).mono ?_
    rintro e w' ⟨rfl, rfl⟩
    go_wp2_with fail
    go_ret2
    exact ⟨rfl, rfl⟩

set_option maxHeartbeats 400000 in
theorem fits_any (v n : Int) (w : World) (h : Bn.isSize n = true) :
    Calls Tryz.prog 70 #[.int .i64 v, .int .i64 n] w fun e w' => e = .returned (.bool (Bn.fits v n)) ∧ w = w' := by
  rw [Bn.fits_lohi]
  have HB := Lib.hid (fun W => bounds_any n W h)
  clear h
  generalize Bn.lo n = x at *
  generalize Bn.hi n = y at *
  by_cases h1 : x ≤ v
  · by_cases h2 : v < y
    · go_enter Tryz.func70, Tryz.ntmps70
      go_wp2_with fail
      refine (HB.out _).mono ?_
      rintro e w' ⟨rfl, rfl⟩
      go_wp2_with fail
      go_ret
      exact ⟨ret_bool (by simp; omega), rfl⟩
    · go_enter Tryz.func70, Tryz.ntmps70
      go_wp2_with fail
      refine (HB.out _).mono ?_
      rintro e w' ⟨rfl, rfl⟩
      go_wp2_with fail
      go_ret
      exact ⟨ret_bool (by simp; omega), rfl⟩
  · go_enter Tryz.func70, Tryz.ntmps70
    go_wp2_with fail
    refine (HB.out _).mono ?_
    rintro e w' ⟨rfl, rfl⟩
    go_wp2_with fail
    go_ret
    exact ⟨ret_bool (by simp; omega), rfl⟩

set_option maxHeartbeats 400000 in
theorem areSizes_any (v : Value) (l : List Int) (w : World) (h : Row w v l) :
    Calls Tryz.prog 58 #[v] w fun e w' => e = .returned (.bool (Bn.allSizes l)) ∧ w = w' := by
  obtain ⟨p, c, rfl, hlen⟩ := h.form
  have HR := Lib.hid h
  generalize hn : l.length = n at *
  have HN := Lib.hid hn
  clear hn h
  go_enter Tryz.func58, Tryz.ntmps58
  go_wp2_with fail
  go_loop [4, 7] (fun _ i => ∃ k : Nat, k ≤ n ∧ i = .int .i64 k ∧ Hid (Bn.allSizes (l.take k) = true)) (fun _ i => n - (intOf i).toNat)
  case atStart => exact ⟨0, Nat.zero_le _, rfl, Lib.hid rfl⟩
  case round =>
    obtain ⟨k, hk, rfl, HI⟩ := hrel
    by_cases hlt : k < n
    · obtain ⟨b, off, rfl, hcell⟩ := HR.out.at_ hlt
      have HK : Hid (k < l.length) := Lib.hid (by rw [HN.out]; exact hlt)
      have HT := Lib.hid (Bn.take_snoc HK.out)
      generalize hz : l.getD k 0 = z at *
      have HZ := Lib.hid hz
      clear hz
      by_cases h1 : z = 0
      · have HF : Hid (Bn.allSizes l = false) := Lib.hid (Bn.allSizes_false HK.out (by rw [HZ.out, h1]; rfl))
        subst h1
        go_wp2_with fail
        go_ret
        exact ⟨ret_bool HF.out.symm, rfl⟩
      · have h1b : (z == 0) = false := by simpa using h1
        by_cases h2 : z < -4
        · have HF : Hid (Bn.allSizes l = false) := Lib.hid (Bn.allSizes_false HK.out (by rw [HZ.out, Bool.eq_false_iff]; intro hc; rw [Bn.isSize_iff] at hc; omega))
          clear h1
          go_wp2_with fail
          go_ret
          exact ⟨ret_bool HF.out.symm, rfl⟩
        · by_cases h3 : 4 < z
          · have HF : Hid (Bn.allSizes l = false) := Lib.hid (Bn.allSizes_false HK.out (by rw [HZ.out, Bool.eq_false_iff]; intro hc; rw [Bn.isSize_iff] at hc; omega))
            clear h1
            go_wp2_with fail
            go_ret
            exact ⟨ret_bool HF.out.symm, rfl⟩
          · have HS : Hid (Bn.isSize z = true) := Lib.hid (by rw [Bn.isSize_iff]; omega)
            clear h1
            go_wp2_with fail
            go_round
            case rel => exact ⟨k + 1, by omega, by go_num, Lib.hid (by rw [HT.out, Bn.allSizes_snoc, HI.out, HS.out]; rfl)⟩
            case measure => simp [intOf]; omega
    · go_wp2_with fail
      go_ret
      refine ⟨ret_bool ?_, rfl⟩
      have h1 : l.take k = l := List.take_of_length_le (by rw [HN.out]; omega)
      have := HI.out
      rw [h1] at this
      exact this.symm

set_option maxHeartbeats 400000 in
theorem total_any (v : Value) (l : List Int) (w : World) (h : Row w v l) (hs : Bn.allSizes l = true) (hsmall : l.length ≤ 1000000) :
    Calls Tryz.prog 62 #[v] w fun e w' => e = .returned (.int .i64 (Bn.many l : Nat)) ∧ w = w' := by
  obtain ⟨p, c, rfl, hlen⟩ := h.form
  have HR := Lib.hid h
  have HS := Lib.hid hs
  generalize hn : l.length = n at *
  have HN := Lib.hid hn
  clear hn h hs hlen
  go_enter Tryz.func62, Tryz.ntmps62
  go_wp2_with fail
  go_loop [3, 5, 8] (fun s _ i => ∃ k m : Nat, k ≤ n ∧ i = .int .i64 k ∧ s = .int .i64 m ∧ Hid (m = Bn.many (l.take k))) (fun _ _ i => n - (intOf i).toNat)
  case atStart => exact ⟨0, 0, Nat.zero_le _, rfl, rfl, Lib.hid rfl⟩
  case round =>
    obtain ⟨k, m, hk, rfl, rfl, HM⟩ := hrel
    have hm : m ≤ 4 * k := by rw [HM.out]; exact Bn.many_take_le l HS.out k
    by_cases hlt : k < n
    · obtain ⟨b, off, rfl, hcell⟩ := HR.out.at_ hlt
      have HK : Hid (k < l.length) := Lib.hid (by rw [HN.out]; exact hlt)
      have HT := Lib.hid (Bn.take_snoc HK.out)
      have HZ := Lib.hid (Bn.allSizes_at HS.out HK.out)
      have hw4 := (Bn.isSize_wide HZ.out).2
      generalize l.getD k 0 = z at *
      go_wp2_with fail
      refine (width_any z _ HZ.out).mono ?_
      rintro e w1 ⟨rfl, rfl⟩
      generalize hq : z.natAbs = q at *
      have HQ := Lib.hid hq
      clear hq
      go_wp2_with fail
      go_round
      case rel => exact ⟨k + 1, m + q, by omega, by go_num, by go_num, Lib.hid (by rw [HT.out, Bn.many_snoc, ← HM.out, HQ.out])⟩
      case measure => simp [intOf]; omega
    · go_wp2_with fail
      go_ret
      refine ⟨ret_int ?_, rfl⟩
      have h1 : l.take k = l := List.take_of_length_le (by rw [HN.out]; omega)
      rw [HM.out, h1]

end Go.Proofs.YtppihpjcdieeoaaGreatDoor
/-
  Contracts of package bin's value (a field's bytes as a number) and piece (some bytes, or an error raised). No conditions beyond those stated.
-/
namespace Bn
open Go
theorem or_nat (a b : Nat) (ha : a < 4611686018427387904) (hb : b < 4611686018427387904) : bits .or .i64 (a : Int) (b : Int) = ((a ||| b : Nat) : Int) := by
  have hx : a ||| b < 2 ^ 62 := Nat.or_lt_two_pow (n := 62) (by omega) (by omega)
  show IntKind.i64.wrap ((BitVec.ofInt 64 (a : Int) ||| BitVec.ofInt 64 (b : Int)).toNat : Int) = _
  rw [BitVec.toNat_or, ofInt_u64 a (by omega), ofInt_u64 b (by omega), IntKind.wrap_i64]
  omega
theorem or_byte (v : Nat) (c : UInt8) (hv : v < 1099511627776) : bits .or .i64 ((v : Int) * 256) (c.toNat : Int) = ((256 * v + c.toNat : Nat) : Int) := by
  have hc : c.toNat < 256 := UInt8.toNat_lt c
  rw [show (v : Int) * 256 = ((256 * v : Nat) : Int) by omega, or_nat _ _ (by omega) (by omega), nat_join 8 _ _ (by omega) (by omega)]
/-- Where a field's number does not fit as it stands, it is one below 0. -/
theorem one_of_fits (l : List UInt8) (size : Int) (hs : isSize size = true) (hl : l.length = size.natAbs) : one l size = if fits (be l) size = true then (be l : Int) else (be l : Int) - ((256 ^ size.natAbs : Nat) : Int) := by
  obtain ⟨w1, w2⟩ := isSize_wide hs
  have hh := pow_half size.natAbs w1
  have hb := be_lt l
  unfold fits one
  rw [hl] at hb ⊢
  generalize 256 ^ size.natAbs / 2 = hf at *
  generalize 256 ^ size.natAbs = P at *
  by_cases hn : size < 0
  · rw [if_pos hn]
    by_cases hc : hf ≤ be l
    · rw [if_pos ⟨hn, hc⟩, if_neg]; simp only [Bool.and_eq_true, decide_eq_true_eq]; omega
    · rw [if_neg (fun h => hc h.2), if_pos]; simp only [Bool.and_eq_true, decide_eq_true_eq]; omega
  · rw [if_neg hn, if_neg (fun h => hn h.1), if_pos]; simp only [Bool.and_eq_true, decide_eq_true_eq]; omega
theorem be_take (l : List UInt8) (k : Nat) (h : k < l.length) : be (l.take (k + 1)) = 256 * be (l.take k) + (l.getD k 0).toNat := by
  rw [Gk.take_snoc l k h, be_snoc]
theorem be_take_lt (l : List UInt8) (k : Nat) : be (l.take k) < 256 ^ k := by
  have := be_lt (l.take k)
  exact Nat.lt_of_lt_of_le this (Nat.pow_le_pow_right (by omega) (by simp; omega))
end Bn
namespace Go.Proofs.YtppihpjcdieeoaaGreatDoor
open Go.RowKit

set_option maxHeartbeats 800000 in
theorem value_some (l : List UInt8) (size P : Int) (n : Nat) (w : World) (hl : l.length = n) (hn : n ≤ 4) (hs : Bn.isSize size = true)
    (hp : (2 : Int) ^ (8 * n) = P) (hP : 0 ≤ P ∧ P ≤ 4294967296) :
    Calls Tryz.prog 63 #[.string ⟨l.toArray⟩, .int .i64 size] w fun e w' => e = .returned (.int .i64 (if Bn.fits (Bn.be l) size = true then (Bn.be l : Int) else (Bn.be l : Int) - P)) ∧ w = w' := by
  have HN : Hid (l.length = n) := Lib.hid hl
  have HPP := Lib.hid hp
  clear hp
  obtain ⟨hP0, hP1⟩ := hP
  generalize hy : (if Bn.fits (Bn.be l) size = true then (Bn.be l : Int) else (Bn.be l : Int) - P) = y
  have HY := Lib.hid hy
  clear hy
  go_enter Tryz.func63, Tryz.ntmps63
  go_wp2_with fail
  go_loop [5, 6, 9] (fun s _ i => ∃ k v : Nat, k ≤ n ∧ i = .int .i64 k ∧ s = .int .i64 v ∧ Hid (v = Bn.be (l.take k))) (fun _ _ i => n - (intOf i).toNat)
  case atStart => exact ⟨0, 0, Nat.zero_le _, rfl, rfl, Lib.hid rfl⟩
  case round =>
    obtain ⟨k, v, hk, rfl, rfl, HV⟩ := hrel
    have hv : v < 1099511627776 := by
      rw [HV.out]
      refine Nat.lt_of_lt_of_le (Bn.be_take_lt l k) (Nat.le_trans (Nat.pow_le_pow_right (by omega) (show k ≤ 5 by omega)) (by decide))
    by_cases hlt : k < n
    · have HK : Hid (k < l.length) := Lib.hid (by rw [HN.out]; exact hlt)
      have hc := ba_get l k
      have HB := Lib.hid (Bn.be_take l k HK.out)
      generalize l.getD k 0 = c at *
      have hor := Bn.or_byte v c hv
      have hc2 : c.toNat < 256 := UInt8.toNat_lt c
      go_wp2_with fail
      go_round
      case rel => exact ⟨k + 1, 256 * v + c.toNat, by omega, by go_num, rfl, Lib.hid (by rw [HB.out, HV.out])⟩
      case measure => simp [intOf]; omega
    · have HE : Hid (l.take k = l) := Lib.hid (List.take_of_length_le (by rw [HN.out]; omega))
      have HV2 : Hid (Bn.be l = v) := Lib.hid (by rw [HV.out, HE.out])
      have hy := HY.out
      rw [HV2.out] at hy
      clear HV HE HY
      by_cases hf : Bn.fits v size = true
      · rw [if_pos hf] at hy
        have HF := Lib.hid hf
        have HY := Lib.hid hy
        clear hf hy
        go_wp2_with fail
        refine (fits_any v size _ hs).mono ?_
        rw [HF.out]
        rintro e w1 ⟨rfl, rfl⟩
        go_wp2_with fail
        go_ret
        exact ⟨ret_int HY.out, rfl⟩
      · rw [if_neg hf] at hy
        have HF := Lib.hid (show Bn.fits v size = false by simpa using hf)
        have HY := Lib.hid hy
        clear hf hy
        go_wp2_with fail
        refine (fits_any v size _ hs).mono ?_
        rw [HF.out]
        rintro e w1 ⟨rfl, rfl⟩
        go_wp2_with fail
        go_ret
        refine ⟨ret_int ?_, rfl⟩
        rw [HPP.out, ← HY.out, wrap_id (n := P) (by omega) (by omega), wrap_id (by omega) (by omega)]

theorem value_any (l : List UInt8) (size : Int) (w : World) (hs : Bn.isSize size = true) (hl : l.length = size.natAbs) :
    Calls Tryz.prog 63 #[.string ⟨l.toArray⟩, .int .i64 size] w fun e w' => e = .returned (.int .i64 (Bn.one l size)) ∧ w = w' := by
  rw [Bn.one_of_fits l size hs hl]
  refine value_some l size _ size.natAbs w hl (Bn.isSize_wide hs).2 hs ?_ ?_
  · rcases Bn.size_cases hs with rfl | rfl | rfl | rfl | rfl | rfl | rfl | rfl <;> decide
  · rcases Bn.size_cases hs with rfl | rfl | rfl | rfl | rfl | rfl | rfl | rfl <;> decide

theorem ret_str {a b : ByteArray} (h : a = b) : Ending.returned (.string a) = .returned (.string b) := by rw [h]

set_option maxHeartbeats 400000 in
theorem piece_ret (l : List UInt8) (pos n : Nat) (w : World) (h : pos + n ≤ l.length) (hl : l.length ≤ 9223372036854775807) :
    Calls Tryz.prog 61 #[.string ⟨l.toArray⟩, .int .i64 pos, .int .i64 n] w fun e w' => e = .returned (.string ⟨((l.drop pos).take n).toArray⟩) ∧ w = w' := by
  go_enter Tryz.func61, Tryz.ntmps61
  go_wp2
  go_ret
  exact ⟨ret_str (by rw [Gk.extract_list, Nat.add_sub_cancel_left]), rfl⟩

set_option maxHeartbeats 400000 in
theorem piece_raise (l : List UInt8) (pos : Int) (n : Int) (w : World) (h0 : 0 ≤ pos) (h1 : pos ≤ 9223372036854775807) (h : (l.length : Int) - pos < n) (hl : l.length ≤ 9223372036854775807) :
    Calls Tryz.prog 61 #[.string ⟨l.toArray⟩, .int .i64 pos, .int .i64 n] w fun e w' => e = .panicked (raise 4) ∧ w = w' := by
  go_enter Tryz.func61, Tryz.ntmps61
  go_wp2
  exact ⟨rfl, rfl, rfl⟩
end Go.Proofs.YtppihpjcdieeoaaGreatDoor
/-
  The contracts of bin.caught, for rows and for texts, and of its deferred closures: what the work answers, or the error that it raises. No conditions.
-/
namespace Go.Proofs.YtppihpjcdieeoaaGreatDoor
open Go.RowKit

theorem ta_hit (v : Value) (W : World) : (Instr.typeAssert (.iface 24 v) 20 24 true).run Tryz.prog W = .ok (.tuple #[v, .bool true]) W := by
  simp [Instr.typeAssert, run_underlying Tryz.underlying24]
theorem ta_nil (W : World) : (Instr.typeAssert .nilIface 20 24 true).run Tryz.prog W = .ok (.tuple #[.int .i64 0, .bool false]) W := by
  have hz : (zeroValue 24).run Tryz.prog W = .ok (.int .i64 0) W := by kernel_rfl
  simp [Instr.typeAssert, run_underlying Tryz.underlying24, hz]

/-- The world in which the work of caught begins: one named result lies in memory. -/
def boxed (w : World) : World := w.alloc (.cells #[.int .i64 0] 24)
theorem boxed_lo (w : World) : Lo w (boxed w) := (Lo.refl w).alloc _
theorem boxed_size (w : World) : (boxed w).heap.size = w.heap.size + 1 := by simp [boxed]
theorem boxed_facts {w w1 : World} (h : Lo (boxed w) w1) : w1.frozen? ⟨w.heap.size, 0, none⟩ = false ∧ w1.cell? ⟨w.heap.size, 0, none⟩ = some (.int .i64 0) ∧ w.heap.size < w1.heap.size ∧ Lo w w1 := by
  have hs := boxed_size w
  refine ⟨?_, ?_, ?_, (boxed_lo w).trans h⟩
  · rw [h.frozen (by omega)]; simp [boxed, go_sem]
  · rw [h.cell (by omega)]; simp [boxed, go_sem]
  · have := h.size; omega

set_option maxHeartbeats 400000 in
theorem rcatch_panicking (q : Addr) (y k : Int) (older : List PanicEntry) (w : World) (hd : w.cell? q = some (.int .i64 y)) (hy : w.frozen? q = false) :
    CallsD Tryz.prog 106 #[.pointer (some q)] (.panicking ({ v := .iface 24 (.int .i64 k), recovered := false } :: older)) w fun e u' w' =>
      e = .returned (.tuple #[]) ∧ u' = .panicking ({ v := .iface 24 (.int .i64 k), recovered := true } :: older) ∧ w' = w.setCell q (.int .i64 k) := by
  have ta := ta_hit
  refine callsD_of_wpS Tryz.func106 rfl fun c₀ cs hu => ?_
  apply wpS_seq
  apply wpS_region
  simp [wpOpsS, go_sem, recoverD, hu, Tryz.ntmps106, Exit.thenS, ta]
  apply wpS_seq
  apply wpS_region
  simp [wpOpsS, go_sem, Exit.thenS]
  refine wpS_cond (t := true) (by simp [Act.eval]) ?_
  simp only [if_true]
  apply wpS_region
  simp [wpOpsS, go_sem, hd, hy, bodyPostS, results, Tryz.results106]

set_option maxHeartbeats 400000 in
theorem rcatch_idle (q : Addr) (w : World) :
    CallsD Tryz.prog 106 #[.pointer (some q)] .returning w fun e u' w' => e = .returned (.tuple #[]) ∧ u' = .returning ∧ w' = w := by
  have ta := ta_nil
  refine callsD_of_wpS Tryz.func106 rfl fun c₀ cs hu => ?_
  apply wpS_seq
  apply wpS_region
  simp [wpOpsS, go_sem, recoverD, hu, Tryz.ntmps106, Exit.thenS, ta]
  apply wpS_seq
  apply wpS_region
  simp [wpOpsS, go_sem, Exit.thenS]
  refine wpS_cond (t := false) (by simp [Act.eval]) ?_
  simp only [Bool.false_eq_true, if_false]
  refine wpS_of_wp (wp_skip ?_)
  cases c₀
  simp_all [bodyPostS, results, Tryz.results106]

set_option maxHeartbeats 400000 in
theorem rcaught_ret (g : Nat) (caps : Array Value) (w : World) (R : World → Value → Prop) (hent : ∀ W : World, (callFunc g caps).run Tryz.prog W = .ok (.enter g caps) W)
    (hwork : Calls Tryz.prog g caps (boxed w) fun e w' => ∃ v, e = .returned v ∧ R w' v ∧ Lo (boxed w) w') (hR : ∀ w' v u, R w' v → R (w'.setCell ⟨w.heap.size, 0, none⟩ u) v) :
    Calls Tryz.prog 59 #[.func (.func g) #[] caps] w fun e w' => ∃ v, e = .returned (.tuple #[v, .int .i64 0]) ∧ R w' v ∧ Lo w w' := by
  have hmf : ∀ (fn : Fn) (first cap : Array Value) (w : World), (Instr.makeFunc fn first cap).run Tryz.prog w = .ok (.func fn first cap) w := fun _ _ _ _ => rfl
  have HW := Lib.hid hwork
  clear hwork
  go_enter_defers Tryz.func59, Tryz.ntmps59
  go_wp2_with fail
  refine HW.out.mono ?_
  rintro e w1 ⟨v, rfl, hr, hlo⟩
  obtain ⟨hz, hc, hsz, hlw⟩ := boxed_facts hlo
  have HR := Lib.hid hr
  clear hlo HW hr
  go_wp2_with fail
  refine leaves_cons (f := 106) (args := #[.pointer (some ⟨w.heap.size, 0, none⟩)]) (by simp) (by simp [go_sem]) ?_
  refine (rcatch_idle ⟨w.heap.size, 0, none⟩ _).mono ?_
  rintro e u' w'' ⟨rfl, rfl, rfl⟩
  simp [Leaves, settle, results, Tryz.results59, go_sem, hc]
  exact ⟨hR _ _ _ HR.out, hlw.set (by simp) _⟩

set_option maxHeartbeats 400000 in
theorem rcaught_raised (g : Nat) (caps : Array Value) (k : Int) (w : World) (hent : ∀ W : World, (callFunc g caps).run Tryz.prog W = .ok (.enter g caps) W)
    (hwork : Calls Tryz.prog g caps (boxed w) fun e w' => e = .panicked (raise k) ∧ Lo (boxed w) w') :
    Calls Tryz.prog 59 #[.func (.func g) #[] caps] w fun e w' => e = .returned (.tuple #[.slice none 0 0, .int .i64 k]) ∧ Lo w w' := by
  have hmf : ∀ (fn : Fn) (first cap : Array Value) (w : World), (Instr.makeFunc fn first cap).run Tryz.prog w = .ok (.func fn first cap) w := fun _ _ _ _ => rfl
  have HW := Lib.hid hwork
  clear hwork
  go_enter_defers Tryz.func59, Tryz.ntmps59
  go_wp2_with fail
  refine HW.out.mono ?_
  rintro e w1 ⟨rfl, hlo⟩
  obtain ⟨hz, hc, hsz, hlw⟩ := boxed_facts hlo
  clear hlo HW
  go_wp2_with fail
  refine leaves_cons (f := 106) (args := #[.pointer (some ⟨w.heap.size, 0, none⟩)]) (by simp) (by simp [go_sem]) ?_
  refine (rcatch_panicking ⟨w.heap.size, 0, none⟩ 0 k [] _ hc hz).mono ?_
  rintro e u' w'' ⟨rfl, rfl, rfl⟩
  simp [Leaves, settle, results, Tryz.results59, go_sem, hc]
  exact hlw.set (by simp) _
end Go.Proofs.YtppihpjcdieeoaaGreatDoor

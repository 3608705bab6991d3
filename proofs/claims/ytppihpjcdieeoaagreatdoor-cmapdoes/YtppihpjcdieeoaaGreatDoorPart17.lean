/-
  Facts that the walks rest on: CmCmp, CmOrd, CmGet, ChBase2. No conditions beyond those stated.
-/
import Derived.Test.YtppihpjcdieeoaaGreatDoorPart12
import Derived.Test.YtppihpjcdieeoaaGreatDoorGround
import Derived.Shelf.SlSortCmp.QuietGrown
import Derived.Shelf.Abstract
import Derived.Test.YtppihpjcdieeoaaGreatDoorPart14
import Derived.Test.YtppihpjcdieeoaaGreatDoorPart16
import Derived.Test.YtppihpjcdieeoaaGreatDoorPart13
import Derived.Test.YtppihpjcdieeoaaGreatDoorPart04
/-
  The contract of what compares two records by their keys, the later one's first (the function that cmap.ordered hands to the sort, with cmap.Get's key). Condition: the key's box holds that key.
-/
namespace Go.Proofs.YtppihpjcdieeoaaGreatDoor
open Go.RowKit Go.Shelf Go.Lib Go.Sort

theorem grow_of_alloc (W : World) (o : Obj) : W.alloc o = grow (W.drewN 0) #[o] := alloc_eq_grow W o

set_option maxHeartbeats 400000 in
theorem isNaN_any (n : Int) (w : World) : Calls Tryz.prog 105 #[.int .i64 n] w fun e w' => e = .returned (.bool false) ∧ w = w' := by
  go_enter Tryz.func105, Tryz.ntmps105
  go_wp2_with fail
  go_ret
  exact ⟨ret_bool (by simp), rfl⟩

set_option maxHeartbeats 400000 in
theorem compare_any (a b : Int) (w : World) : Calls Tryz.prog 57 #[.int .i64 a, .int .i64 b] w fun e w' => e = .returned (.int .i64 (if a < b then -1 else if b < a then 1 else 0)) ∧ w = w' := by
  have HN := Lib.hid (fun n W => isNaN_any n W)
  by_cases h1 : a < b
  · rw [if_pos h1]
    go_enter Tryz.func57, Tryz.ntmps57
    go_wp2_with (go_at_call 105; refine (HN.out _ _).mono ?_; rintro e w1 ⟨rfl, rfl⟩)
    go_ret
    exact ⟨rfl, rfl⟩
  · rw [if_neg h1]
    by_cases h2 : b < a
    · rw [if_pos h2]
      go_enter Tryz.func57, Tryz.ntmps57
      go_wp2_with (go_at_call 105; refine (HN.out _ _).mono ?_; rintro e w1 ⟨rfl, rfl⟩)
      go_ret
      exact ⟨rfl, rfl⟩
    · rw [if_neg h2]
      go_enter Tryz.func57, Tryz.ntmps57
      go_wp2_with (go_at_call 105; refine (HN.out _ _).mono ?_; rintro e w1 ⟨rfl, rfl⟩)
      go_ret
      exact ⟨rfl, rfl⟩

set_option maxHeartbeats 400000 in
theorem key_any (r o : Int) (w : World) : Calls Tryz.prog 29 #[.agg #[.int .i64 r, .int .i64 o]] w fun e w' => e = .returned (.int .i64 r) ∧ ∃ q os', w' = grow (w.drewN q) os' := by
  go_enter Tryz.func29, Tryz.ntmps29
  go_wp2_with fail
  go_ret
  exact ⟨rfl, 0, _, grow_of_alloc w _⟩

set_option maxRecDepth 100000 in
set_option maxHeartbeats 1600000 in
theorem cmp_any (kb : Nat) (x y : Sy.Rec) (w : World) (hk : w.cell? ⟨kb, 0, none⟩ = some (.func (.func 29) #[] #[])) :
    Calls Tryz.prog 56 #[.agg (encCm x).toArray, .agg (encCm y).toArray, .pointer (some ⟨kb, 0, none⟩)] w fun e w' => e = .returned (.int .i64 (Sy.cf x y)) ∧ ∃ q os', w' = grow (w.drewN q) os' := by
  obtain ⟨x1, x2, x3⟩ := x
  obtain ⟨y1, y2, y3⟩ := y
  unfold encCm
  dsimp only
  have HX : Hid (Sy.cf (x1, x2, x3) (y1, y2, y3) = if y1 < x1 then -1 else if x1 < y1 then 1 else 0) := Lib.hid rfl
  generalize Sy.cf (x1, x2, x3) (y1, y2, y3) = c at *
  have mixed : Tryz.prog.follows .mixedOrders = true := by kernel_rfl
  have hb := World.block_lt_of_cell? w _ hk
  have eg : ∀ args w, (callFunc 29 args).run Tryz.prog w = .ok (.enter 29 args) w := enters_of Tryz.func29 (by kernel_rfl) rfl
  obtain ⟨W1, hW1⟩ : ∃ W1, W1 = (w.alloc (.cells #[.int .i64 x1, .int .i64 x2] 47)).alloc (.cells #[.int .i64 y1, .int .i64 y2] 47) := ⟨_, rfl⟩
  have l1 : Lo w W1 := hW1 ▸ ((Lo.refl w).alloc _).alloc _
  have bx : W1.heap[w.heap.size]? = some (.cells #[.int .i64 x1, .int .i64 x2] 47 (0, 0)) := hW1 ▸ (Below.heap_alloc _ _ _ (by simp)).trans (new_block w _)
  have by_ : W1.heap[w.heap.size + 1]? = some (.cells #[.int .i64 y1, .int .i64 y2] 47 (0, 0)) := hW1 ▸ (by have := new_block (w.alloc (.cells #[.int .i64 x1, .int .i64 x2] 47)) (.cells #[.int .i64 y1, .int .i64 y2] 47); rwa [World.size_alloc] at this)
  have gx := (Array.getElem?_eq_some_iff.1 bx).1
  have gy := (Array.getElem?_eq_some_iff.1 by_).1
  have q0 := fun (n : Nat) (os : Array Obj) => cell_grown (a := ⟨kb, 0, none⟩) (Nat.lt_of_lt_of_le hb l1.size) ((l1.cell hb).trans hk) n os
  have q1 : ∀ (n : Nat) (os : Array Obj), (grow (W1.drewN n) os).cell? ⟨w.heap.size, 0, none⟩ = some (.int .i64 x1) := fun n os => cell_grown (a := ⟨w.heap.size, 0, none⟩) gx (block_cell (i := 0) bx rfl) n os
  have q2 : ∀ (n : Nat) (os : Array Obj), (grow (W1.drewN n) os).cell? ⟨w.heap.size, 1, none⟩ = some (.int .i64 x2) := fun n os => cell_grown (a := ⟨w.heap.size, 1, none⟩) gx (block_cell (i := 1) bx rfl) n os
  have q3 : ∀ (n : Nat) (os : Array Obj), (grow (W1.drewN n) os).cell? ⟨w.heap.size + 1, 0, none⟩ = some (.int .i64 y1) := fun n os => cell_grown (a := ⟨w.heap.size + 1, 0, none⟩) gy (block_cell (i := 0) by_ rfl) n os
  have q4 : ∀ (n : Nat) (os : Array Obj), (grow (W1.drewN n) os).cell? ⟨w.heap.size + 1, 1, none⟩ = some (.int .i64 y2) := fun n os => cell_grown (a := ⟨w.heap.size + 1, 1, none⟩) gy (block_cell (i := 1) by_ rfl) n os
  have HG : Hid (∀ nq osq, ∃ q os', grow (W1.drewN nq) osq = grow (w.drewN q) os') := Lib.hid (fun nq osq => ⟨nq, #[.cells #[.int .i64 x1, .int .i64 x2] 47 (0, 0), .cells #[.int .i64 y1, .int .i64 y2] 47 (0, 0)] ++ osq, by
    have e1 : W1 = grow w (#[.cells #[.int .i64 x1, .int .i64 x2] 47 (0, 0)] ++ #[.cells #[.int .i64 y1, .int .i64 y2] 47 (0, 0)]) := by rw [hW1, alloc_eq_grow, alloc_eq_grow, grow_grow]
    rw [e1]
    show grow (grow (w.drewN nq) _) osq = _
    rw [grow_grow]
    rfl⟩)
  have HK := Lib.hid (fun (r o : Int) (n : Nat) (os : Array Obj) => key_any r o (grow (W1.drewN n) os))
  have HC := Lib.hid (fun (n : Nat) (os : Array Obj) => (compare_any y1 x1 (grow (W1.drewN n) os)).mono (R' := fun e w' => e = .returned (.int .i64 (if y1 < x1 then -1 else if x1 < y1 then 1 else 0)) ∧ ∃ q os', w' = grow ((grow (W1.drewN n) os).drewN q) os') (fun e w' h => ⟨h.1, 0, #[], by rw [← h.2, grow_empty]; rfl⟩))
  rw [← HX.out] at HC
  clear HX l1 bx by_ gx gy hb hk
  go_enter Tryz.func56, Tryz.ntmps56
  go_wp2_with fail
  rw [← hW1]
  clear hW1
  go_quiet_grown (first | (go_at_fn 29; refine Calls.grown_of (HK.out _ _ _ _)) | (go_at_call 29; refine Calls.grown_of (HK.out _ _ _ _)) | (go_at_call 57; refine Calls.grown_of (HC.out _ _)))
  go_wp2_with fail
  go_ret
  exact ⟨rfl, HG.out _ _⟩
end Go.Proofs.YtppihpjcdieeoaaGreatDoor
/-
  The contracts of slices.SortedStableFunc and cmap.ordered at records: the same records, by falling ranks, those of one rank in their order. No conditions beyond those stated.
-/
namespace Sy
open Go.Sort
theorem perm_whole {d d' : Array Rec} {n : Nat} (hn : d.size = n) (h : PermIn 0 n d d') : d'.toList.Perm d.toList := by
  have h1 := h.1
  have h2 := h.2.2
  rw [← hn] at h2
  have e1 : d'.extract 0 d.size = d' := by rw [← h1]; simp
  have e2 : d.extract 0 d.size = d := by simp
  rw [e1, e2] at h2
  exact h2
end Sy
namespace Go.Proofs.YtppihpjcdieeoaaGreatDoor
open Go.RowKit Go.Shelf Go.Lib Go.Sort

theorem getBangC {d : Array Sy.Rec} {i : Nat} {x : Sy.Rec} (h : d.toList[i]? = some x) : d[i]! = x ∧ i < d.size := by
  have hi : i < d.toList.length := (List.getElem?_eq_some_iff.1 h).1
  have hi' : i < d.size := by simpa using hi
  refine ⟨?_, hi'⟩
  rw [getElem!_pos d i hi']
  have := (List.getElem?_eq_some_iff.1 h).2
  simpa using this
theorem own_blockC {ty k : Nat} {w : World} {base g c n : Nat} {l : List Sy.Rec} (h : OwnK encCm ty k w base (.slice (some ⟨g, 0, none⟩) n c) l) : ∃ cur, w.heap[g]? = some (.cells cur ty (0, 0)) ∧ base ≤ g ∧ l.length = n ∧ n ≤ c := by
  rcases h.2 with ⟨h1, _⟩ | ⟨g', cap, cur, h1, hg, hh, hc, _⟩
  · cases h1
  · injection h1 with h1 h2 h3
    injection h1 with h1
    injection h1 with h1 _ _
    subst h1
    exact ⟨cur, hh, hg, h2.symm, by rw [h3, h2]; exact hc⟩
theorem own_holdsC {w : World} {base g c n : Nat} {l : List Sy.Rec} (h : OwnK encCm 47 2 w base (.slice (some ⟨g, 0, none⟩) n c) l) : HoldsK encCm 2 w g 0 l.toArray := by
  obtain ⟨cur, hh, _, rfl, _⟩ := own_blockC h
  intro j hj
  rw [size_flatK] at hj
  refine ⟨?_, block_frozen hh⟩
  have hj' : j < l.length * 2 := by simpa using hj
  have hd : j / 2 < l.length := by omega
  obtain ⟨x, hx⟩ : ∃ x, l[j / 2]? = some x := ⟨_, List.getElem?_eq_getElem hd⟩
  obtain ⟨b, off, hb, hc⟩ := RowK.at_ (OwnK.row encCm_len h) hx
  injection hb with hb
  injection hb with hb ho _
  subst hb
  subst ho
  have := hc (j % 2) (by omega)
  rw [show 0 + j / 2 * 2 + j % 2 = 0 + j by omega] at this
  rw [this, get_flatK _ _ _ _ hj]
  have hg := (getBangC (d := l.toArray) (i := j / 2) (x := x) (by simpa using hx)).1
  rw [hg]
  have : j % 2 = 0 ∨ j % 2 = 1 := by omega
  rcases this with h | h <;> rw [h] <;> rfl
theorem holds_rowC {w : World} {g c : Nat} {d : Array Sy.Rec} (h : HoldsK encCm 2 w g 0 d) (hg : g < w.heap.size) (h1 : d.size ≤ 9223372036854775807) (h2 : d.size ≤ c) : RRow w (.slice (some ⟨g, 0, none⟩) d.size c) d.toList := by
  refine .inr ⟨g, 0, c, by simp, by simpa using h1, by simpa using h2, hg, fun i x hx j hj => ?_⟩
  obtain ⟨hb, hi⟩ := getBangC hx
  rw [(h.cell hi hj).1, hb]
  obtain rfl | rfl : j = 0 ∨ j = 1 := by omega
  all_goals rfl
theorem swk_below {w W : World} {g : Nat} {d : Array Sy.Rec} {base : Nat} (h : SWK encCm 2 w g 0 d W) (hb : base ≤ g) (hg : g < w.heap.size) : Below base w W := by
  obtain ⟨n, os, rfl⟩ := h
  unfold sortWorldK
  refine ⟨rfl, rfl, rfl, ?_, fun j hj => ?_⟩
  · rw [size_grow, size_putRowK]; exact Nat.le_add_right _ _
  · have hlt : j < (putRowK encCm 2 (Sort.ahead w n) g 0 d).heap.size := by rw [size_putRowK]; show j < w.heap.size; omega
    show ((putRowK encCm 2 (Sort.ahead w n) g 0 d).heap ++ os)[j]? = _
    rw [Array.getElem?_append_left hlt]
    show ((Sort.ahead w n).heap.modify g _)[j]? = _
    rw [Array.getElem?_modify, if_neg (by omega)]
    rfl
theorem cell_sortC (W : World) (blk off n : Nat) (dk : Array Sy.Rec) (os : Array Obj) (a : Addr) (h1 : a.block ≠ blk) (h2 : a.block < W.heap.size) : (sortWorldK encCm 2 W blk off n dk os).cell? a = W.cell? a := by
  unfold sortWorldK
  rw [cell?_grow _ _ _ (by rw [size_putRowK]; exact h2), cell?_putRowK_other encCm 2 _ blk off dk a h1]
  rfl
/-- What the sort is told of the comparison. -/
theorem cmp_lays {w : World} {g kb n : Nat} (hk : w.cell? ⟨kb, 0, none⟩ = some (.func (.func 29) #[] #[])) (hne : kb ≠ g) : CmpLays Tryz.prog 56 #[.pointer (some ⟨kb, 0, none⟩)] encCm 2 Sy.cf g 0 n w := by
  intro m os dk _ x y
  exact cmp_any kb x y _ ((cell_sortC w g 0 m dk os ⟨kb, 0, none⟩ hne (World.block_lt_of_cell? w _ hk)).trans hk)

/-! No records: nothing to sort. -/
set_option maxRecDepth 100000 in
set_option maxHeartbeats 400000 in
theorem ins_none (f : Value) (w : World) : Calls Tryz.prog 146 #[.slice none 0 0, .int .i64 0, .int .i64 0, f] w fun e w' => e = .returned (.tuple #[]) ∧ w = w' := by
  go_enter Tryz.func146, Tryz.ntmps146
  go_wp2_with fail
  go_loopg [8] 0 (fun _ s8 wr => s8 = .int .i64 1 ∧ w = wr)
  case atStart => exact ⟨rfl, rfl⟩
  case round =>
    obtain ⟨rfl, rfl⟩ := hrel
    go_wp2_with fail
    go_end0
    exact ⟨rfl, rfl⟩
set_option maxRecDepth 100000 in
set_option maxHeartbeats 400000 in
theorem stable_none (f : Value) (w : World) : Calls Tryz.prog 136 #[.slice none 0 0, .int .i64 0, f] w fun e w' => e = .returned (.tuple #[]) ∧ w = w' := by
  have HI := Lib.hid (fun W => ins_none f W)
  go_enter Tryz.func136, Tryz.ntmps136
  go_wp2_with fail
  go_loopg [7, 8] 0 (fun _ s7 s8 wr => s7 = .int .i64 0 ∧ s8 = .int .i64 20 ∧ w = wr)
  case atStart => exact ⟨rfl, rfl, rfl⟩
  case round =>
    obtain ⟨rfl, rfl, rfl⟩ := hrel
    go_wp2_with fail
    refine (HI.out _).mono ?_
    rintro e w1 ⟨rfl, rfl⟩
    go_wp2_with fail
    go_loopg [6] 0 (fun _ s6 wr => s6 = .int .i64 20 ∧ w = wr)
    case atStart => exact ⟨rfl, rfl⟩
    case round =>
      obtain ⟨rfl, rfl⟩ := hrel
      go_wp2_with fail
      go_end0
      exact ⟨rfl, rfl⟩
set_option maxRecDepth 100000 in
set_option maxHeartbeats 400000 in
theorem sort_none (f : Value) (w : World) : Calls Tryz.prog 103 #[.slice none 0 0, f] w fun e w' => e = .returned (.tuple #[]) ∧ w = w' := by
  have HI := Lib.hid (fun W => stable_none f W)
  go_enter Tryz.func103, Tryz.ntmps103
  go_wp2_with fail
  refine (HI.out _).mono ?_
  rintro e w1 ⟨rfl, rfl⟩
  go_wp2_with fail
  go_end0
  exact ⟨rfl, rfl⟩

/-- A row of records of the call's own is sorted. -/
theorem sortOwn_any (kb base : Nat) (w : World) (q : Option Addr) (c : Nat) (l : List Sy.Rec) (hk : w.cell? ⟨kb, 0, none⟩ = some (.func (.func 29) #[] #[])) (hkb : kb < base) (hown : OwnK encCm 47 2 w base (.slice q l.length c) l) (h64 : l.length ≤ 64)
    (ht : ∀ (i : Nat) (x : Sy.Rec), l[i]? = some x → x.2.2 = i) :
    Calls Tryz.prog 103 #[.slice q l.length c, .func (.func 56) #[] #[.pointer (some ⟨kb, 0, none⟩)]] w fun e w' =>
      e = .returned (.tuple #[]) ∧ ∃ l', l'.length = l.length ∧ l'.Perm l ∧ Sy.Ord l' ∧ RRow w' (.slice q l.length c) l' ∧ Below base w w' := by
  rcases hown.2 with ⟨h1, hz⟩ | ⟨g, cap, cur, h1, hg, hh, hcap, hmax, _⟩
  · injection h1 with h1 h2 h3
    subst h1 h3
    have hl : l = [] := List.length_eq_zero_iff.1 hz
    subst hl
    exact (sort_none _ w).mono fun e w' ⟨he, hw⟩ => ⟨he, [], rfl, List.Perm.refl _, fun i j x y _ hx => by simp at hx, RowK.nil _ _ _, by rw [← hw]; exact Below.refl _ _⟩
  · injection h1 with h1 h2 h3
    subst h1 h3
    have hgs : g < w.heap.size := (Array.getElem?_eq_some_iff.1 hh).1
    have hH := own_holdsC hown
    have R : _root_.Go.Proofs.RowK encCm 2 w g 0 l.toArray := ⟨encCm_len, encCm_one, hH, hgs⟩
    have S : SWK encCm 2 w g 0 l.toArray w := SWK.start hH
    refine (sortStable_any 56 #[.pointer (some ⟨kb, 0, none⟩)] g 0 c l.length l.toArray w (enters_of Tryz.func56 (by kernel_rfl) rfl) (cmp_lays hk (by omega)) R (by simp) h64 l.toArray w (by simp) S ?_).mono ?_
    · intro t htl
      obtain ⟨x, hx⟩ : ∃ x, l[t]? = some x := ⟨_, List.getElem?_eq_getElem htl⟩
      rw [(getBangC (d := l.toArray) (i := t) (x := x) (by simpa using hx)).1]
      exact ht t x hx
    · rintro e w' ⟨rfl, d', S', z', P', Q'⟩
      have hp := Sy.perm_whole (by simp) P'
      refine ⟨rfl, d'.toList, by simpa using z', by simpa using hp, fun i j x y hij hx hy => ?_, ?_, swk_below S' hg hgs⟩
      · obtain ⟨h1, h2⟩ := getBangC hx
        obtain ⟨h3, h4⟩ := getBangC hy
        have := Q' i j (Nat.zero_le _) hij (by omega)
        rwa [h1, h3] at this
      · have hw : g < w'.heap.size := Nat.lt_of_lt_of_le hgs S'.le
        have := holds_rowC (S'.holds hgs hH (by simpa using z')) hw (by omega) (by rw [z']; exact hcap)
        rwa [z'] at this

set_option maxHeartbeats 800000 in
theorem sortedStable_any (xs : List Sy.Rec) (h64 : xs.length ≤ 64) (ht : ∀ (i : Nat) (x : Sy.Rec), xs[i]? = some x → x.2.2 = i) (p : Option Addr) (cap B1 kb : Nat) (w : World) (hr : RRow w (.slice p xs.length cap) xs) (h1 : w.cell? ⟨B1, 0, none⟩ = some (.slice p xs.length cap)) (hk : w.cell? ⟨kb, 0, none⟩ = some (.func (.func 29) #[] #[])) :
    Calls Tryz.prog 54 #[.func (.func 104) #[] #[.pointer (some ⟨B1, 0, none⟩)], .func (.func 56) #[] #[.pointer (some ⟨kb, 0, none⟩)]] w fun e w' =>
      ∃ q c l', e = .returned (.slice q xs.length c) ∧ l'.length = xs.length ∧ l'.Perm xs ∧ Sy.Ord l' ∧ RRow w' (.slice q xs.length c) l' ∧ Lo w w' := by
  have HC := Lib.hid (collect_any xs (by omega) p cap B1 w hr h1)
  have HS := Lib.hid (fun (q : Option Addr) (c : Nat) (W : World) (hl : Lo w W) (ho : OwnK encCm 47 2 W w.heap.size (.slice q xs.length c) xs) => sortOwn_any kb w.heap.size W q c xs ((hl.cell (World.block_lt_of_cell? w _ hk)).trans hk) (World.block_lt_of_cell? w _ hk) ho h64 ht)
  clear hr h1 hk ht
  go_enter Tryz.func54, Tryz.ntmps54
  go_wp2_with fail
  refine (HC.out).mono ?_
  rintro e w1 ⟨q, c, rfl, ho, lo⟩
  have HO := Lib.hid ho
  have HL := Lib.hid lo
  clear ho lo HC
  go_wp2_with fail
  refine (HS.out q c _ HL.out HO.out).mono ?_
  rintro e w2 ⟨rfl, h⟩
  have H := Lib.hid h
  clear h HS
  go_wp2_with fail
  go_ret
  obtain ⟨l', g1, g2, g3, g4, g5⟩ := H.out
  exact ⟨q, c, l', rfl, g1, g2, g3, g4, Below.trans HL.out g5⟩

set_option maxHeartbeats 800000 in
theorem ordered_any (xs : List Sy.Rec) (h64 : xs.length ≤ 64) (ht : ∀ (i : Nat) (x : Sy.Rec), xs[i]? = some x → x.2.2 = i) (p : Option Addr) (cap : Nat) (w : World) (hr : RRow w (.slice p xs.length cap) xs) :
    Calls Tryz.prog 28 #[.slice p xs.length cap, .func (.func 29) #[] #[]] w fun e w' =>
      ∃ q c l', e = .returned (.slice q xs.length c) ∧ l'.length = xs.length ∧ l'.Perm xs ∧ Sy.Ord l' ∧ RRow w' (.slice q xs.length c) l' ∧ Lo w w' := by
  have l1 : Lo w (w.alloc (.cells #[.func (.func 29) #[] #[]] 48)) := (Lo.refl w).alloc _
  have k1 : (w.alloc (.cells #[.func (.func 29) #[] #[]] 48)).cell? ⟨w.heap.size, 0, none⟩ = some (.func (.func 29) #[] #[]) := block_cell (i := 0) (new_block w _) rfl
  have r1 := RowK.lo hr l1
  clear hr
  have hmf : ∀ (fn : Fn) (first cap : Array Value) (w : World), (Instr.makeFunc fn first cap).run Tryz.prog w = .ok (.func fn first cap) w := fun _ _ _ _ => rfl
  have HS := Lib.hid (fun (B1 : Nat) (W : World) hr h1 hk => sortedStable_any xs h64 ht p cap B1 w.heap.size W hr h1 hk)
  have HV := Lib.hid (fun (W : World) => callsIn_wide.1 (values_make 9 p xs.length cap W))
  obtain ⟨W1, hW1⟩ : ∃ W1, W1 = w.alloc (.cells #[.func (.func 29) #[] #[]] 48) := ⟨_, rfl⟩
  rw [← hW1] at l1 k1 r1
  have l2 : Lo W1 (W1.alloc (.cells #[.slice p xs.length cap] 40)) := (Lo.refl W1).alloc _
  have HS2 := Lib.hid (HS.out W1.heap.size (W1.alloc (.cells #[.slice p xs.length cap] 40)) (RowK.lo r1 l2) (block_cell (i := 0) (new_block W1 _) rfl) ((l2.cell (World.block_lt_of_cell? W1 _ k1)).trans k1))
  have HL := Lib.hid (Lo.trans l1 l2)
  clear l1 k1 r1 l2 HS ht
  generalize xs.length = n at *
  go_enter Tryz.func28, Tryz.ntmps28
  go_wp2_with fail
  rw [← hW1]
  clear hW1
  refine (HV.out _).mono ?_
  rintro e w1 ⟨rfl, rfl⟩
  go_wp2_with fail
  refine (HS2.out).mono ?_
  rintro e w2 ⟨q, c, l', rfl, g1, g2, g3, g4, g5⟩
  have H := Lib.hid (And.intro g1 (And.intro g2 (And.intro g3 (And.intro g4 (Lo.trans HL.out g5)))))
  clear g1 g2 g3 g4 g5 HS2
  go_wp2_with fail
  go_ret
  exact ⟨q, c, l', rfl, H.out.1, H.out.2.1, H.out.2.2.1, H.out.2.2.2.1, H.out.2.2.2.2⟩
end Go.Proofs.YtppihpjcdieeoaaGreatDoor
/-
  The contract of cmap.Get: the best record's spans. Condition: the row of ranked ids lies as it was laid.
-/
namespace Go.Proofs.YtppihpjcdieeoaaGreatDoor
open Go.RowKit Go.Shelf

theorem crecs_any (s : List UInt8) (w : World) (hs : s.length ≤ 9223372036854775807) (ht : RTab w) : Calls Tryz.prog 26 #[.string ⟨s.toArray⟩] w (GotRecs (Cm.recs s) w) := by
  rcases Nat.lt_or_ge s.length 4 with h | h
  · have := crecs_more s w h
    rwa [show Cm.recs s = ([], 4) by unfold Cm.recs; rw [if_pos h]]
  · exact crecs_rest s w hs ht h

set_option maxRecDepth 100000 in
set_option maxHeartbeats 1600000 in
theorem cmget_err (s : List UInt8) (k : Int) (w : World) (hs : s.length ≤ 9223372036854775807) (ht : RTab w) (he : Cm.recs s = ([], k)) (hk : k ≠ 0) : Calls Tryz.prog 8 #[.string ⟨s.toArray⟩] w (GotSp ([], k) w) := by
  have HC := Lib.hid (crecs_any s w hs ht)
  rw [he] at HC
  unfold GotRecs at HC
  have hk2 : (k != 0) = true := by simpa using hk
  clear he ht hk
  go_enter Tryz.func8, Tryz.ntmps8
  go_wp2_with fail
  refine (HC.out).mono ?_
  rintro e w2 ⟨p2, c2, rfl, _, lo⟩
  have HL := Lib.hid lo
  clear lo HC
  go_wp2_with fail
  go_ret2
  exact GotSp.nil rfl HL.out

set_option maxRecDepth 100000 in
set_option maxHeartbeats 3200000 in
theorem cmget_ok (s : List UInt8) (n : Nat) (w : World) (hs : s.length ≤ 9223372036854775807) (ht : RTab w) (hn : n ≤ 64) (he : Cm.recs s = (Cm.recsTo s n, 0)) (ans : List Ch.Span × Int)
    (ha : (Cm.pick s n).1 = 0 → ans = ([], 6)) (hb : (Cm.pick s n).1 ≠ 0 → ans = Cm.read (s.drop (Cm.pick s n).2.toNat)) : Calls Tryz.prog 8 #[.string ⟨s.toArray⟩] w (GotSp ans w) := by
  have HC := Lib.hid (crecs_any s w hs ht)
  rw [he] at HC
  unfold GotRecs at HC
  have hl := Cm.recsTo_len s n
  have HF := Lib.hid (fun W => formats_any W)
  have HO := Lib.hid (fun (p : Option Addr) (c : Nat) (W : World) (hr : RRow W (.slice p (Cm.recsTo s n).length c) (Cm.recsTo s n)) => ordered_any (Cm.recsTo s n) (by omega) (fun i x hx => Cm.recsTo_place hx) p c W hr)
  have HM : Hid (∀ (l' : List Sy.Rec), l'.Perm (Cm.recsTo s n) → ∀ x, x ∈ l' → 0 ≤ x.2.1 ∧ x.2.1 ≤ 4294967295) := Lib.hid (fun l' hp x hx => by
    obtain ⟨i, _, rfl⟩ := Cm.recsTo_mem (hp.mem_iff.1 hx)
    exact ⟨Cm.offAt_bound s i, Gp.long_le s _⟩)
  have HFst : Hid (∀ (l' : List Sy.Rec) (k : Nat) (x : Sy.Rec), l'.Perm (Cm.recsTo s n) → Sy.Ord l' → l'[k]? = some x → Cm.use s x.1 x.2.1 = true → (∀ (i : Nat) (y : Sy.Rec), i < k → l'[i]? = some y → Cm.use s y.1 y.2.1 = false) → ans = Cm.read (s.drop x.2.1.toNat)) := Lib.hid (fun l' k x hp ho hx hu hbf => by
    obtain ⟨h1, h2⟩ := Cm.pick_first hp ho hx hu hbf
    rw [hb h1, h2])
  have HNone : Hid (∀ (l' : List Sy.Rec), l'.Perm (Cm.recsTo s n) → (∀ (i : Nat) (y : Sy.Rec), l'[i]? = some y → Cm.use s y.1 y.2.1 = false) → ans = ([], 6)) := Lib.hid (fun l' hp h => ha (Cm.pick_never hp h))
  have HUs := Lib.hid (fun (r o : Int) (m : Nat) (W : World) (h0 : 0 ≤ o) (h1 : o ≤ 4294967295) (hk : Kinds W m) => use_any r o s m W hs h0 h1 hk)
  have HRd := Lib.hid (fun (q : Nat) (W : World) => cread_any (s.drop q) W (by rw [List.length_drop]; omega))
  have HUse : Hid (∀ (r o : Int), 0 ≤ o → Cm.use s r o = true → o + 2 ≤ s.length) := Lib.hid (fun r o _ h => by
    unfold Cm.use at h
    simp only [Bool.and_eq_true, decide_eq_true_eq] at h
    exact h.1.2)
  unfold GotSp at HRd
  clear he ht ha hb
  dsimp only at HC
  rw [hl] at HC HO
  generalize Cm.recsTo s n = L at *
  have HLn := Lib.hid hl
  clear hl
  go_enter Tryz.func8, Tryz.ntmps8
  go_wp2_with fail
  refine (HC.out).mono ?_
  rintro e w2 ⟨p2, c2, rfl, hr, lo⟩
  have HL := Lib.hid lo
  have HR := Lib.hid hr
  clear lo HC hr
  go_wp2_with fail
  refine (HF.out _).mono ?_
  rintro e w3 ⟨m, rfl, _, hk, lo⟩
  have HL3 := Lib.hid (HL.out.trans lo)
  have HK := Lib.hid hk
  have HO3 := Lib.hid (HO.out p2 c2 w3 (RowK.lo HR.out lo))
  clear lo hk HF HL HR HO
  go_wp2_with fail
  refine (HO3.out).mono ?_
  rintro e w4 ⟨q, c, l', rfl, g1, g2, g3, g4, g5⟩
  have HL4 := Lib.hid (HL3.out.trans g5)
  have HK4 := Lib.hid (HK.out.lo g5)
  have HP := Lib.hid g2
  have HOr := Lib.hid g3
  have HR4 := Lib.hid g4
  have HN4 := Lib.hid g1
  clear g1 g2 g3 g4 g5 HO3 HK HL3
  go_wp2_with fail
  go_loopw [21] (fun s21 W => ∃ k : Nat, s21 = .int .i64 k ∧ k ≤ n ∧ Hid (∀ (i : Nat) (y : Sy.Rec), i < k → l'[i]? = some y → Cm.use s y.1 y.2.1 = false) ∧ Hid (Lo w4 W)) (fun s21 _ => n - (intOf s21).toNat)
  case atStart => exact ⟨0, rfl, Nat.zero_le _, Lib.hid (fun i y h => by omega), Lib.hid (Lo.refl _)⟩
  case round =>
    obtain ⟨k, rfl, hkn, HB, HLw⟩ := hrel
    by_cases hlt : k < n
    · obtain ⟨x, hx⟩ : ∃ x, l'[k]? = some x := ⟨_, List.getElem?_eq_getElem (by rw [HN4.out]; exact hlt)⟩
      obtain ⟨b, off, rfl, d0, d1⟩ := RRow.at2 (RowK.lo HR4.out HLw.out) hx
      obtain ⟨m0, m1⟩ := HM.out l' HP.out x (List.mem_of_getElem? hx)
      have HX := Lib.hid hx
      clear hx
      obtain ⟨r, o, t⟩ := x
      dsimp only at d0 d1 m0 m1
      obtain ⟨z, rfl⟩ : ∃ z : Nat, o = (z : Int) := ⟨o.toNat, by omega⟩
      have HUx := Lib.hid (HUs.out r (z : Int) m (wr.alloc (.cells #[.int .i64 r, .int .i64 (z : Int)] 47)) m0 m1 (HK4.out.lo (HLw.out.alloc _)))
      have HBk := new_block wr (.cells #[.int .i64 r, .int .i64 (z : Int)] 47)
      cases hu : Cm.use s r (z : Int) with
      | true =>
        rw [hu] at HUx
        have hlen := HUse.out r (z : Int) m0 hu
        have HA := Lib.hid (HFst.out l' k _ HP.out HOr.out HX.out hu HB.out)
        dsimp only at HA
        rw [Int.toNat_natCast] at HA
        have HRx := Lib.hid (HRd.out z)
        have hx1 := Gk.extract_from s z
        have hz1 : (z : Int) ≤ (s.length : Int) := by omega
        rw [← HA.out] at HRx
        clear HB HUs HRd HUse HFst HNone HX hu HA m1
        go_wp2_with fail
        refine (HUx.out).mono ?_
        rintro e w5 ⟨rfl, lo⟩
        obtain ⟨⟨y0, y1⟩, -⟩ := two_at ((lo.block _ (by simp)).trans HBk)
        have HL5 := Lib.hid ((HL4.out.trans HLw.out).trans (((Lo.refl wr).alloc (.cells #[.int .i64 r, .int .i64 (z : Int)] 47)).trans lo))
        clear lo HUx HBk
        go_wp2_with fail
        refine (HRx.out _).mono ?_
        rintro e w6 ⟨p6, c6, rfl, hr6, lo6⟩
        have HR6 := Lib.hid hr6
        have HL6 := Lib.hid (HL5.out.trans lo6)
        clear hr6 lo6 HRx
        go_wp2_with fail
        go_ret2
        exact ⟨p6, c6, rfl, HR6.out, HL6.out⟩
      | false =>
        rw [hu] at HUx
        have HB2 : Hid (∀ (i : Nat) (y : Sy.Rec), i < k + 1 → l'[i]? = some y → Cm.use s y.1 y.2.1 = false) := Lib.hid (fun i y hi hy => by
          by_cases e : i < k
          · exact HB.out i y e hy
          · obtain rfl : i = k := by omega
            rw [HX.out] at hy; cases hy; exact hu)
        clear HB HUs HRd HUse HFst HNone HX hu
        go_wp2_with fail
        refine (HUx.out).mono ?_
        rintro e w5 ⟨rfl, lo⟩
        have HL5 := Lib.hid (HLw.out.trans (((Lo.refl wr).alloc (.cells #[.int .i64 r, .int .i64 (z : Int)] 47)).trans lo))
        clear lo HUx HBk
        go_wp2_with fail
        go_roundw
        case rel => exact ⟨k + 1, by go_num, by omega, HB2, HL5⟩
        case measure => simp [intOf]; omega
    · obtain rfl : k = n := by omega
      have HA := Lib.hid (HNone.out l' HP.out (fun i y hy => HB.out i y (by have := (List.getElem?_eq_some_iff.1 hy).1; rw [HN4.out] at this; exact this) hy))
      clear HUs HRd HUse HFst HNone HB
      go_wp2_with fail
      go_ret2
      rw [HA.out]
      exact GotSp.nil rfl (HL4.out.trans HLw.out)

theorem cmget_any (s : List UInt8) (w : World) (hs : s.length ≤ 9223372036854775807) (ht : RTab w) : Calls Tryz.prog 8 #[.string ⟨s.toArray⟩] w (GotSp (Cm.get s) w) := by
  have h0 := Gp.word_le s 2
  by_cases c1 : s.length < 4
  · rw [Cm.get_more c1]
    exact cmget_err s 4 w hs ht (by unfold Cm.recs; rw [if_pos c1]) (by decide)
  · by_cases c2 : He.fld s 0 2 ≠ 0
    · rw [Cm.get_form (by omega) c2]
      exact cmget_err s 5 w hs ht (by unfold Cm.recs; rw [if_neg c1, if_pos c2]) (by decide)
    · by_cases c3 : 64 < He.fld s 2 2
      · rw [Cm.get_long (by omega) (by omega) c3]
        exact cmget_err s 7 w hs ht (by unfold Cm.recs; rw [if_neg c1, if_neg c2, if_pos c3]) (by decide)
      · by_cases c4 : (s.length : Int) < 4 + 8 * He.fld s 2 2
        · rw [Cm.get_short (by omega) (by omega) (by omega) c4]
          exact cmget_err s 4 w hs ht (by unfold Cm.recs; rw [if_neg c1, if_neg c2, if_neg c3, if_pos c4]) (by decide)
        · exact cmget_ok s (He.fld s 2 2).toNat w hs ht (by omega) (by unfold Cm.recs; rw [if_neg c1, if_neg c2, if_neg c3, if_neg c4]) (Cm.get s)
            (fun h => Cm.get_none (by omega) (by omega) (by omega) (by omega) h) (fun h => Cm.get_some (by omega) (by omega) (by omega) (by omega) h)
end Go.Proofs.YtppihpjcdieeoaaGreatDoor
/-
  Contracts of the methods isUsed, start and leavesSmall of a span (layer 8, chart). No conditions beyond those stated.
-/
namespace Go.Proofs.YtppihpjcdieeoaaGreatDoor
open Go.RowKit

set_option maxHeartbeats 400000 in
theorem isUsed_any {x : Ch.Span} (h : Ch.okSpan x = true) (w : World) : Calls Tryz.prog 116 #[aggS x] w fun e w' => e = .returned (.bool (Ch.isUsed x)) ∧ Lo w w' := by
  obtain ⟨a1, a2, a3, a4, a5, a6, a7, a8⟩ := (Ch.okSpan_iff x).1 h
  have HG := Lib.hid (fun W => glyph_ok h x.to W (by omega) a3)
  unfold Ch.isUsed
  clear a1 a2 a3 a4 a5 a6 a7 a8 h
  obtain ⟨fr, tt, gl, st⟩ := x
  generalize Ch.glyphOf _ _ = g at *
  unfold aggS at *
  dsimp only at *
  go_enter Tryz.func116, Tryz.ntmps116
  go_wp2_with fail
  refine (HG.out _).mono ?_
  rintro e w1 ⟨rfl, lo⟩
  go_wp2_with fail
  go_ret
  exact ⟨rfl, ((Lo.refl w).alloc _).trans lo⟩
set_option maxHeartbeats 400000 in
theorem start_any {x : Ch.Span} (h : Ch.okSpan x = true) (w : World) : Calls Tryz.prog 129 #[aggS x] w fun e w' => e = .returned (.int .i64 (Ch.start x)) ∧ Lo w w' := by
  obtain ⟨a1, a2, a3, a4, a5, a6, a7, a8⟩ := (Ch.okSpan_iff x).1 h
  clear h
  obtain ⟨fr, tt, gl, st⟩ := x
  unfold Ch.start aggS
  dsimp only at *
  by_cases hg : gl = 0
  · rw [if_pos hg]
    subst hg
    clear a8
    go_enter Tryz.func129, Tryz.ntmps129
    go_wp2_with fail
    go_ret
    exact ⟨ret_int (by first | rfl | omega | (rw [IntKind.wrap_i64]; omega)), (Lo.refl w).alloc _⟩
  · rw [if_neg hg]
    clear a8
    go_enter Tryz.func129, Tryz.ntmps129
    go_wp2_with fail
    go_ret
    exact ⟨rfl, (Lo.refl w).alloc _⟩

set_option maxHeartbeats 400000 in
theorem leaves_any {x : Ch.Span} (h : Ch.okSpan x = true) (w : World) : Calls Tryz.prog 85 #[aggS x] w fun e w' => e = .returned (.bool (Ch.leaves x)) ∧ Lo w w' := by
  obtain ⟨a1, a2, a3, a4, a5, a6, a7, a8⟩ := (Ch.okSpan_iff x).1 h
  have HG := Lib.hid (fun W => glyph_ok h x.to W (by omega) a3)
  unfold Ch.leaves
  clear a1 a2 a3 a4 a5 a6 a7 a8 h
  obtain ⟨fr, tt, gl, st⟩ := x
  generalize Ch.glyphOf _ _ = g at *
  unfold aggS at *
  dsimp only at *
  by_cases h : 256 ≤ tt
  · rw [decide_eq_true h, Bool.true_or]
    go_enter Tryz.func85, Tryz.ntmps85
    go_wp2_with fail
    go_ret
    exact ⟨rfl, (Lo.refl w).alloc _⟩
  · rw [decide_eq_false h, Bool.false_or]
    go_enter Tryz.func85, Tryz.ntmps85
    go_wp2_with fail
    refine (HG.out _).mono ?_
    rintro e w1 ⟨rfl, lo⟩
    go_wp2_with fail
    go_ret
    exact ⟨rfl, ((Lo.refl w).alloc _).trans lo⟩
end Go.Proofs.YtppihpjcdieeoaaGreatDoor

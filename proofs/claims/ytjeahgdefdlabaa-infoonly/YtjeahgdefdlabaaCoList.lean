/-
  The contract of cover.listed: the glyphs of a table's ranges, one by one. No conditions beyond those stated.
-/
import Derived.Test.YtjeahgdefdlabaaCoTab
namespace Go.Proofs.Ytjeahgdefdlabaa
open Go.RowKit Go.Shelf
attribute [local go_sem] Oper.semAt_some wide_fn wide_depth

/-- Cells that are laid anew. -/
theorem cells_new (w : World) (cs : List Value) (ty : Nat) : ∀ j u, cs[j]? = some u → (w.alloc (.cells cs.toArray ty)).cell? ((⟨w.heap.size, 0, none⟩ : Addr).add j) = some u := by
  intro j u hj
  have h : (w.alloc (.cells cs.toArray ty)).cell? ⟨w.heap.size, j, none⟩ = some u := block_cell (i := j) (new_block w _) (by rw [List.getElem?_toArray]; exact hj)
  unfold Addr.add
  split
  · rename_i e; subst e; exact h
  · simpa using h
/-- A range's box. -/
def RunAt (W : World) (B : Nat) (x : Co.R3) : Prop := W.heap[B]? = some (.cells #[.int .i64 x.1.1, .int .i64 x.1.2.1] 82 (0, 0))
theorem run_own (B : Nat) (x : Co.R3) {X Y : World} {row : Option Nat} (h : RunAt X B x) (hg : X.grownBy Y row) (hr : ∀ r, row = some r → ∃ o : Obj, X.heap[r]? = some o ∧ o.isCells = false) : RunAt Y B x := by
  refine (hg.block B (Array.getElem?_eq_some_iff.1 h).1 (fun e => ?_)).trans h
  obtain ⟨o, ho, hf⟩ := hr B e.symm
  rw [show X.heap[B]? = _ from h] at ho
  cases ho
  simp [Obj.isCells] at hf
def ints (l : List Int) : List Value := l.map (Value.int .i64)
theorem ints_append (a b : List Int) : ints (a ++ b) = ints a ++ ints b := List.map_append
theorem own_ints {w : World} {base : Nat} {v : Value} {l : List Int} (h : w.ownsRow base 3 1 v l.length (ints l)) : ∃ p c, v = .slice p l.length c := Own.form (w := w) (base := base) h

theorem row_ne {w : World} {base e size : Nat} {v : Value} {k : Nat} {xs : List Value} (h : w.ownsRow base e size v k xs) {T ty2 : Nat} {cs : Array Value} (hT : w.heap[T]? = some (.cells cs ty2 (0, 0))) (hne : ty2 ≠ e) : v.ownBlock ≠ some T := by
  rcases h.2 with ⟨rfl, _⟩ | ⟨g, cap, cur, rfl, _, hgb, _⟩
  · simp [Value.ownBlock]
  · intro e'
    obtain rfl : g = T := by simpa [Value.ownBlock] using e'
    rw [hgb] at hT
    simp only [Option.some.injEq, Obj.cells.injEq] at hT
    exact hne hT.2.1.symm
theorem one_int (z : Int) : ∀ u ∈ [Value.int .i64 z], u.oneCell' = true := by
  intro u hu
  simp only [List.mem_singleton] at hu
  subst hu; rfl
theorem ints_push (l : List Int) (z : Int) : ints l ++ [Value.int .i64 z] = ints (l ++ [z]) := (ints_append l [z]).symm
/-- The box holds a slice of the call's own: nothing else is owned. -/
theorem owned_eq {B t : Nat} {W : World} {v : Value} (h : Boxed W B t v) {b : Nat} (hb : Owned B W b) : v.ownBlock = some b := by
  obtain ⟨u, hu, hb⟩ := hb
  rw [h.cell] at hu
  cases hu
  exact hb
theorem good_of {B t base e size k : Nat} {W : World} {v : Value} {xs : List Value} (h : Boxed W B t v) (hr : W.ownsRow base e size v k xs) : Good B W :=
  ⟨h.lt, fun b hb => (hr.lt b (owned_eq h hb)).2⟩

/-- Glyphs and whether they are right, told. -/
def GotList (a : List Int × Bool) (w : World) (e : Ending) (w' : World) : Prop := ∃ p c, e = .returned (.tuple #[.slice p a.1.length c, .bool a.2]) ∧ Row w' (.slice p a.1.length c) a.1 ∧ Lo w w'

set_option maxRecDepth 100000 in
set_option maxHeartbeats 3200000 in
/-- cover.listed. -/
theorem listed_any (fs : List Int) (hs : Co.Small fs) (n : Nat) (hn : n ≤ 65535) (v : Value) (w : World) (h : Row w v fs) (hl : fs.length = 3 * n) :
    Calls Try.prog 41 #[v] w fun e w' => GotList (Co.lst (Co.tri fs n)) w e w' := by
  have HI := Lib.hid h
  obtain ⟨p, c, rfl, _⟩ := h.form
  have HLn := Lib.hid hl
  have HDone : Hid (Co.fine (Co.els fs hs n) → Co.lst (Co.tri fs n) = (Co.out (Co.els fs hs n), true)) := Lib.hid (fun h => by rw [← Co.els_tri fs hs]; exact Co.fine_done h)
  have HBad : Hid (∀ k, k ≤ n → (∀ r, Co.lst (Co.raw (Co.els fs hs k) ++ r) = ([], false)) → Co.lst (Co.tri fs n) = ([], false)) := Lib.hid (fun k hk h => by
    obtain ⟨r, hr⟩ := Co.tri_split fs hk
    rw [hr, ← Co.els_tri fs hs]; exact h r)
  generalize fs.length = N at *
  generalize Co.lst (Co.tri fs n) = ans at *
  clear h hl
  refine (callsIn_wide (n := 9)).1 ?_
  refine callsIn_of_wp_marks Try.func41 rfl trivial ?_ rfl
  simp only [Try.ntmps41, List.size_toArray, List.length_cons, List.length_nil, Nat.reduceAdd, Nat.reduceSub, Array.replicate_succ, Array.replicate_zero, List.push_toArray, List.append_toArray, List.nil_append, List.cons_append]
  gi_wp2_with (gi_at_call 54; refine (tabled_make _ _ _ _ _).mono ?_; rintro e w' ⟨rfl, rfl⟩)
  have bA := ((Boxed.new w 37 (.slice none 0 0)).alloc (.cells #[.bool false] 4)).alloc (.cells #[.slice p N c] 37)
  have bO := (Boxed.new (w.alloc (.cells #[.slice none 0 0] 37)) 4 (.bool false)).alloc (.cells #[.slice p N c] 37)
  have bL := Boxed.new ((w.alloc (.cells #[.slice none 0 0] 37)).alloc (.cells #[.bool false] 4)) 37 (.slice p N c)
  simp only [World.size_alloc] at bO bL
  have hB0 : Lo w (((w.alloc (.cells #[.slice none 0 0] 37)).alloc (.cells #[.bool false] 4)).alloc (.cells #[.slice p N c] 37)) := (((Lo.refl w).alloc _).alloc _).alloc _
  have hsz : (((w.alloc (.cells #[.slice none 0 0] 37)).alloc (.cells #[.bool false] 4)).alloc (.cells #[.slice p N c] 37)).heap.size = w.heap.size + 3 := by simp
  obtain ⟨W0, hW0⟩ : ∃ W0, ((w.alloc (.cells #[.slice none 0 0] 37)).alloc (.cells #[.bool false] 4)).alloc (.cells #[.slice p N c] 37) = W0 := ⟨_, rfl⟩
  rw [hW0] at bA bO bL hB0 hsz ⊢
  clear hW0
  have hst := tabled_stops w.heap.size (w.heap.size + 2) w.heap.size fs hs n N hn HLn.out p c (w.heap.size + 1 + 1) W0 (by omega) bA (fun W' hW' => Row.lo HI.out (Below.trans hB0 hW')) bL (by omega) 8
  have hIo : OwnFrom W0.heap.size (fun (pre : List Co.R3) W => ((∃ v, Boxed W w.heap.size 37 v ∧ W.ownsRow w.heap.size 3 1 v (Co.out pre).length (ints (Co.out pre)) ∧ True) ∧ Boxed W (w.heap.size + 1) 4 (.bool false)) ∧ ((Co.fine pre ∧ (Co.out pre).length ≤ 131071) ∧ Below w.heap.size w W)) :=
    OwnFrom.and (OwnFrom.and (Go.Own.from (holdsRow_own w.heap.size w.heap.size 37 3 1 (fun (pre : List Co.R3) => (Co.out pre).length) (fun pre => ints (Co.out pre)) (fun _ _ => True)) _) (Go.Own.from (boxed_own _ _ _) _)) (OwnFrom.and (ownFrom_pure _ _) (ownFrom_below (Nat.le_refl _) (by omega)))
  have hIx : ∀ c : Code, OwnFrom W0.heap.size (fun (pre : List Co.R3) W => (c = .ret ∧ ∀ r, Co.lst (Co.raw pre ++ r) = ([], false)) ∧ (Boxed W w.heap.size 37 (.slice none 0 0) ∧ Boxed W (w.heap.size + 1) 4 (.bool false)) ∧ Below w.heap.size w W) := fun c =>
    OwnFrom.and (ownFrom_pure _ _) (OwnFrom.and (OwnFrom.and (Go.Own.from (boxed_own _ _ _) _) (Go.Own.from (boxed_own _ _ _) _)) (ownFrom_below (Nat.le_refl _) (by omega)))
  refine wpIn_rangeFunc_ownH rfl (by omega) (gf := 60) (lb := #[.pointer (some ⟨w.heap.size + 1 + 1, 0, none⟩)]) rfl trivial (enters_of Try.func60 (by kernel_rfl) rfl)
    hst kpS_t (kpS_b (by omega) (by omega)) (Below.refl _ _) (fun _ => rfl) _ (fun c pre W => (c = .ret ∧ ∀ r, Co.lst (Co.raw pre ++ r) = ([], false)) ∧ (Boxed W w.heap.size 37 (.slice none 0 0) ∧ Boxed W (w.heap.size + 1) 4 (.bool false)) ∧ Below w.heap.size w W) hIo hIx
    ⟨⟨⟨_, bA, World.ownsRow_nil _ _ _ _, trivial⟩, bO⟩, ⟨Co.fine_nil.1, by rw [Co.fine_nil.2]; simp⟩, hB0⟩
    (fun x a' W => ∃ Bx, (w.heap.size + 2 ≤ Bx ∧ RunAt W Bx x) ∧ a' = { tmps := #[.slice p N c, undef, .pointer (some ⟨w.heap.size, 0, none⟩), .pointer (some ⟨w.heap.size + 1, 0, none⟩), .int .i64 x.1.2.2, .pointer (some ⟨Bx, 0, none⟩), undef,
        .slice p N c, .func (.func 60) #[] #[.pointer (some ⟨w.heap.size + 1 + 1, 0, none⟩)], .int .i64 x.1.2.2, .agg #[.int .i64 x.1.1, .int .i64 x.1.2.1],
        undef, undef, undef, undef, undef, undef, undef, undef, undef, undef, undef, undef, undef, undef, undef, undef, undef, undef, undef, undef, undef, undef, undef, undef], defers := [] })
    (fun x a' _ X Y row hs hg hr => by obtain ⟨Bx, h2, h3⟩ := hs; exact ⟨Bx, ⟨h2.1, run_own Bx x h2.2 hg (fun r e => (hr r e).2)⟩, h3⟩)
    ?assign ?body ?done ?stop
  case assign =>
    rintro l' pre x W K hI hK
    have hws : w.heap.size ≤ W.heap.size := hI.2.2.size
    have hws2 : w.heap.size + 2 ≤ W.heap.size := by have := hI.1.2.lt; omega
    have hI' := hIo.alloc (.cells #[.int .i64 x.1.1, .int .i64 x.1.2.1] 82) hI
    have hK' := Lib.hid (fun a' => hK a' (W.alloc (.cells #[.int .i64 x.1.1, .int .i64 x.1.2.1] 82)) ((KeepsOthers.alloc _ _).from _) (KpS.alloc hws _) hI')
    clear hK
    unfold encR
    gi_wp2
    exact hK'.out _ ⟨W.heap.size, ⟨hws2, new_block W _⟩, rfl⟩
  case body =>
    rintro l' pre x a' W hl ⟨r, hr⟩ ⟨⟨⟨v, hv, hrow, -⟩, bO⟩, ⟨hfine, hln⟩, hBe⟩ ⟨Bx, ⟨hBx, bX⟩, rfl⟩ hlt
    obtain ⟨pv, cv, rfl⟩ := own_ints hrow
    have HBadX := Lib.hid (fun h => Co.fine_bad (x := x) hfine h)
    have HFineX := Lib.hid (fun h => Co.fine_more (x := x) hfine h)
    obtain ⟨⟨x0, x1, x2⟩, ⟨a1, a2⟩, ⟨b1, b2⟩, f1, f2⟩ := x
    unfold RunAt at bX
    dsimp only at *
    obtain ⟨A1, A2, B1, B2, F2⟩ : 0 ≤ x0 ∧ x0 ≤ 65535 ∧ 0 ≤ x1 ∧ x1 ≤ 65535 ∧ x2 ≤ 65535 := ⟨a1, a2, b1, b2, f2⟩
    have cX0 : W.cell? ⟨Bx, 0, none⟩ = some (.int .i64 x0) := block_cell bX rfl
    have cX1 : W.cell? ⟨Bx, 1, none⟩ = some (.int .i64 x1) := block_cell bX rfl
    have cA := hv.cell
    have fA := hv.frozen
    have cO := bO.cell
    have fO := bO.frozen
    have h1' : 1 ≤ 9 - 1 - 1 := by omega
    have HE1 := Lib.hid (((hv.set (.slice none 0 0)).other (B' := w.heap.size + 1) (by omega) (.bool false)))
    have HE2 := Lib.hid ((bO.other (B' := w.heap.size) (by omega) (.slice none 0 0)).set (.bool false))
    have HE3 : Hid (Below w.heap.size w ((W.setCell ⟨w.heap.size, 0, none⟩ (.slice none 0 0)).setCell ⟨w.heap.size + 1, 0, none⟩ (.bool false))) := Lib.hid ((hBe.setCell (p := ⟨w.heap.size, 0, none⟩) (Nat.le_refl _) _).setCell (p := ⟨w.heap.size + 1, 0, none⟩) (by simp) _)
    by_cases hx : x1 < x0
    · have HB := Lib.hid (HBadX.out (.inl hx))
      clear hrow HBadX HFineX
      gi_wp2
      exact ⟨((KeepsOthers.setCell _ _ _).trans (KeepsOthers.setCell _ _ _)).from _, ⟨rfl, HB.out⟩, ⟨HE1.out, HE2.out⟩, HE3.out⟩
    · by_cases hf : x2 = ((Co.out pre).length : Int)
      · clear HE1 HE2 HE3 HBadX
        have HF := Lib.hid (HFineX.out (by omega))
        clear HFineX
        have HG : Hid (Good w.heap.size W) := Lib.hid (good_of hv hrow)
        have HNo : Hid (¬ Owned w.heap.size W Bx) := Lib.hid (fun hb => row_ne hrow bX (by decide) (owned_eq hv hb))
        have HX := Lib.hid (fun W' (h : KpS w.heap.size (w.heap.size + 2) w.heap.size W W') => (h.keep HG.out bX rfl hBx HNo.out).1)
        have HV := Lib.hid hv
        have HR := Lib.hid hrow
        have HO := Lib.hid bO
        have HBe := Lib.hid hBe
        have HLB : Hid (w.heap.size ≤ w.heap.size + 1 ∧ w.heap.size + 2 ≤ W0.heap.size) := Lib.hid (by omega)
        generalize Co.out pre = o at *
        have hq : (x2 != (o.length : Int)) = false := by simpa using hf
        have HFF := Lib.hid hf
        obtain ⟨M, hM⟩ : ∃ M, (x1 - x0 + 1).toNat = M := ⟨_, rfl⟩
        rw [hM] at HF
        have HMi : Hid (x1 - x0 + 1 = (M : Int)) := Lib.hid (by omega)
        clear hv hrow bO bX hBe hf
        gi_wp2
        clear cA fA cO fO cX0 cX1 hq
        gi_loopw [6] (fun g wr => ∃ (j L : Nat) (z : Int) (pv : Option Addr) (cv : Nat), j ≤ M ∧ g = .int .i64 z ∧ Hid (z = x0 + (j : Int)) ∧ Hid (L = o.length + j) ∧ Hid (Boxed wr w.heap.size 37 (.slice pv L cv)) ∧ Hid (wr.ownsRow w.heap.size 3 1 (.slice pv L cv) L (ints (o ++ Co.upto x0 j))) ∧ Hid (Boxed wr (w.heap.size + 1) 4 (.bool false)) ∧
          Hid (KeepsFrom W0.heap.size W wr) ∧ Hid (KpS w.heap.size (w.heap.size + 2) w.heap.size W wr) ∧ Hid (Below w.heap.size w wr)) (fun g _ => (x1 + 1 - intOf g).toNat)
        case atStart => exact ⟨0, o.length, x0, pv, cv, Nat.zero_le _, rfl, Lib.hid (by simp), Lib.hid rfl, HV, Lib.hid (by rw [show Co.upto x0 0 = [] from rfl, List.append_nil]; exact HR.out), HO, Lib.hid (KeepsFrom.refl _ _), Lib.hid (KpS.refl _ _ _ _), HBe⟩
        case round =>
          obtain ⟨j, L, z, pj, cj, hj, rfl, HZ, HL, HVj, HRj, HOj, HKf, HKp, HBj⟩ := hrel
          have bXr := HX.out _ HKp.out
          have cX1 : wr.cell? ⟨Bx, 1, none⟩ = some (.int .i64 x1) := block_cell bXr rfl
          clear bXr
          by_cases hjlt : j < M
          · have hz1 : z ≤ x1 := by have := HZ.out; have := HMi.out; omega
            have hz0 : 0 ≤ z := by have := HZ.out; omega
            have hL : L ≤ 200000 := by have := HL.out; have := HMi.out; omega
            have cA := HVj.out.cell
            obtain ⟨i0, hi0, hq0, hq1, hq2⟩ := info_parts int_info
            have HOk : Hid (∀ (tmp : Obj) w2 u, (wr.alloc tmp).grownBy w2 (Value.slice pj L cj).ownBlock → Boxed (w2.setCell ⟨w.heap.size, 0, none⟩ u) (w.heap.size + 1) 4 (.bool false)) :=
              Lib.hid (fun tmp w2 u hg => ((HOj.out.alloc tmp).kept hg (HOj.out.not_row (by decide) HRj.out)).other (by omega) u)
            gi_wp2_with (gi_at_builtin; refine wpListIn_append_own_at _ rfl _ _ 37 rfl w.heap.size 3 i0 (.int .i64 0) 1 8 Try.underlying37 hi0 hq0 hq1 hq2 rfl (by decide) _ _ _ rfl (HRj.out.alloc _) ⟨wr.heap.size, 0, none⟩ 1 1 [.int .i64 z] rfl rfl (cells_new wr [.int .i64 z] 3) (one_int z) (by unfold maxLen; omega) (by omega) (by have := HBj.out.size; simp; omega) ?_; intro v' w2 hown' hgrow _ hat; obtain ⟨g', cap', rfl⟩ := ownsRow_succ hown'; obtain ⟨hv1, hv2, hr2, hk2, hb2⟩ := HVj.out.appended (by decide) HRj.out HBj.out.size (by omega) hown' hgrow; have hKp := Lib.hid (KpS.grown (n₁ := w.heap.size + 2) HVj.out (by decide) HRj.out HBj.out.size (by omega) (by omega) hown' hgrow hat); have HE5 := Lib.hid (HOk.out _ w2 (.slice (some ⟨g', 0, none⟩) (L + 1) cap') hgrow); have hc1 := hv1.cell; have hf1 := hv1.frozen)
            rw [ints_push] at hr2
            have HV2 := Lib.hid hv2
            have HR2 := Lib.hid hr2
            have HK2 := Lib.hid (HKf.out.trans (hk2.from W0.heap.size))
            have HB2 := Lib.hid (Below.trans HBj.out hb2)
            clear hv1 hv2 hr2 hk2 hb2 hown' hgrow hat hc1 hf1
            go_roundw
            case rel => exact ⟨j + 1, L + 1, z + 1, _, _, by omega, rfl, Lib.hid (by have := HZ.out; omega), Lib.hid (by have := HL.out; omega), HV2, Lib.hid (by rw [Co.upto_succ, ← HZ.out, ← List.append_assoc]; exact HR2.out), HE5, HK2, Lib.hid (HKp.out.trans hKp.out), HB2⟩
            case measure => simp [intOf]; omega
          · obtain rfl : j = M := by omega
            have hz1 : ¬ z ≤ x1 := by have := HZ.out; have := HMi.out; omega
            gi_wp2
            obtain ⟨k1, k2⟩ := HF.out
            have HLL : L = (o ++ Co.upto x0 j).length := by rw [List.length_append, Co.upto_len]; exact HL.out
            refine ⟨hsz ▸ HKf.out, HKp.out, ⟨⟨_, HVj.out, by rw [k2, ← HLL]; exact HRj.out⟩, HOj.out⟩, ⟨k1, ?_⟩, HBj.out⟩
            rw [k2, ← HLL]
            have e1 := HL.out
            have e2 := HMi.out
            have e3 : x2 = (o.length : Int) := HFF.out
            omega
      · have HB := Lib.hid (HBadX.out (.inr hf))
        have hq : (x2 != ((Co.out pre).length : Int)) = true := by simpa using hf
        clear hrow HBadX HFineX hf
        gi_wp2
        exact ⟨((KeepsOthers.setCell _ _ _).trans (KeepsOthers.setCell _ _ _)).from _, ⟨rfl, HB.out⟩, ⟨HE1.out, HE2.out⟩, HE3.out⟩
  case done =>
    rintro D ys W hD rfl ⟨⟨⟨v, hv, hrow, -⟩, bO⟩, ⟨hfine, hln⟩, hBe⟩ hK
    have HSP := Lib.hid (HDone.out hfine)
    obtain ⟨pv, cv, rfl⟩ := own_ints hrow
    generalize Co.out (Co.els fs hs n) = o at *
    have cA := hv.cell
    have cO := bO.cell
    have fA := hv.frozen
    have fO := bO.frozen
    have HB4 := Lib.hid ((hv.set (.slice pv o.length cv)).other (B' := w.heap.size + 1) (by omega) (.bool true))
    have HB5 := Lib.hid ((bO.other (B' := w.heap.size) (by omega) (.slice pv o.length cv)).set (.bool true))
    have HR1 : Hid (((W.setCell ⟨w.heap.size, 0, none⟩ (.slice pv o.length cv)).setCell ⟨w.heap.size + 1, 0, none⟩ (.bool true)).ownsRow w.heap.size 3 1 (.slice pv o.length cv) o.length (ints o)) :=
      Lib.hid ((hrow.kept (grownBy_setCell' W w.heap.size _) (.inr (hv.not_row (by decide) hrow).symm)).kept (grownBy_setCell' _ (w.heap.size + 1) _) (.inr ((bO.other (B' := w.heap.size) (by omega) (.slice pv o.length cv)).not_row (by decide) (hrow.kept (grownBy_setCell' W w.heap.size _) (.inr (hv.not_row (by decide) hrow).symm))).symm))
    have HBe : Hid (Below w.heap.size w ((W.setCell ⟨w.heap.size, 0, none⟩ (.slice pv o.length cv)).setCell ⟨w.heap.size + 1, 0, none⟩ (.bool true))) := Lib.hid ((hBe.setCell (p := ⟨w.heap.size, 0, none⟩) (Nat.le_refl _) _).setCell (p := ⟨w.heap.size + 1, 0, none⟩) (by simp) _)
    have hK' := (KeepsOthers.setCell (W.setCell ⟨w.heap.size, 0, none⟩ (.slice pv o.length cv)) ⟨w.heap.size + 1, 0, none⟩ (.bool true)).same D _ ((KeepsOthers.setCell W ⟨w.heap.size, 0, none⟩ (.slice pv o.length cv)).same D _ hK rfl) rfl
    clear hrow bO hv
    gi_wp2
    refine ⟨by simp, .inl ⟨_, _, rfl, run_takeDeferred hK', ?_⟩⟩
    have e4 := cell_kept HB4.out.cell (grownBy_putObj' _ D (.deferred none)) (fun r e => by cases e; exact ⟨_, hK', rfl⟩)
    have e5 := cell_kept HB5.out.cell (grownBy_putObj' _ D (.deferred none)) (fun r e => by cases e; exact ⟨_, hK', rfl⟩)
    refine ⟨.tuple #[.slice pv o.length cv, .bool true], ?_, ?_⟩
    · simp [results, Try.f41, go_sem, e4, e5]
    · rw [HSP.out]
      exact ⟨_, _, rfl, Own.row (base := w.heap.size) (ownsRow_putObj HR1.out (.deferred none) hK' rfl), HBe.out.trans (belowK_b (w := w) (Nat.le_refl _) _ D _ _ (by omega) hK' rfl rfl)⟩
  case stop =>
    rintro D c' pre W hD ⟨k, hk, rfl⟩ ⟨⟨rfl, hbad⟩, ⟨b4, b5⟩, hBe⟩ hK
    have HSP := Lib.hid (HBad.out k hk hbad)
    gi_wp2
    refine ⟨by simp, .inl ⟨_, _, rfl, run_takeDeferred hK, ?_⟩⟩
    have e4 := cell_kept b4.cell (grownBy_putObj' _ D (.deferred none)) (fun r e => by cases e; exact ⟨_, hK, rfl⟩)
    have e5 := cell_kept b5.cell (grownBy_putObj' _ D (.deferred none)) (fun r e => by cases e; exact ⟨_, hK, rfl⟩)
    refine ⟨.tuple #[.slice none 0 0, .bool false], ?_, ?_⟩
    · simp [results, Try.f41, go_sem, e4, e5]
    · rw [HSP.out]
      exact ⟨none, 0, rfl, .inl ⟨_, _, rfl, fun _ => rfl, rfl⟩, hBe.trans (belowK_b (w := w) (Nat.le_refl _) _ D _ _ (by omega) hK rfl rfl)⟩
end Go.Proofs.Ytjeahgdefdlabaa

/-
  Contracts of package chart's small functions: spans in memory, the methods of a span, Is. No conditions beyond those stated.
-/
import Derived.Test.YtnlifmedkkboaaaGround
import Derived.Test.YtnlifmedkkboaaaChFacts
namespace Go.Proofs.Ytnlifmedkkboaaa
open Go.RowKit

/-- A span's cells. -/
def encS (x : Ch.Span) : List Value := [.int .i64 x.fr, .int .i64 x.to, .int .i64 x.gl, .int .i64 x.st]
def aggS (x : Ch.Span) : Value := .agg #[.int .i64 x.fr, .int .i64 x.to, .int .i64 x.gl, .int .i64 x.st]
theorem encS_len (x : Ch.Span) : (encS x).length = 4 := rfl
theorem encS_one (x : Ch.Span) : ∀ u ∈ encS x, u.oneCell' = true := by
  intro u hu
  simp only [encS, List.mem_cons, List.not_mem_nil, or_false] at hu
  rcases hu with rfl | rfl | rfl | rfl <;> rfl
abbrev SRow (w : World) (v : Value) (l : List Ch.Span) : Prop := RowK encS 4 w v l
theorem SRow.at4 {w : World} {p : Option Addr} {n c : Nat} {l : List Ch.Span} (h : SRow w (.slice p n c) l) {i : Nat} {x : Ch.Span} (hx : l[i]? = some x) :
    ∃ b off, p = some ⟨b, off, none⟩ ∧ w.cell? ⟨b, off + i * 4, none⟩ = some (.int .i64 x.fr) ∧ w.cell? ⟨b, off + i * 4 + 1, none⟩ = some (.int .i64 x.to) ∧ w.cell? ⟨b, off + i * 4 + 2, none⟩ = some (.int .i64 x.gl) ∧ w.cell? ⟨b, off + i * 4 + 3, none⟩ = some (.int .i64 x.st) := by
  obtain ⟨b, off, h1, h2⟩ := RowK.at_ h hx
  exact ⟨b, off, h1, h2 0 (by omega), h2 1 (by omega), h2 2 (by omega), h2 3 (by omega)⟩
theorem api_info : (Try.prog.info? 36).map (fun i => (i.zero, i.size, i.bytes)) = some (some (.agg #[.int .i64 0, .int .i64 0, .int .i64 0, .int .i64 0]), 4, 32) := by kernel_rfl
theorem span_info : (Try.prog.info? 58).map (fun i => (i.zero, i.size, i.bytes)) = some (some (.agg #[.int .i64 0, .int .i64 0, .int .i64 0, .int .i64 0]), 4, 32) := by kernel_rfl
/-- A slice of one span that is laid anew. -/
theorem srow1 (w : World) (B : Nat) (hB : B = w.heap.size) (x : Ch.Span) (ty : Nat) : SRow (w.alloc (.cells #[.int .i64 x.fr, .int .i64 x.to, .int .i64 x.gl, .int .i64 x.st] ty)) (.slice (some ⟨B, 0, none⟩) 1 1) [x] :=
  hB ▸ .inr ⟨w.heap.size, 0, 1, rfl, by simp, by simp, by simp, fun i z hz j hj => by
    have hi : i < 1 := (List.getElem?_eq_some_iff.1 hz).1
    obtain rfl : i = 0 := by omega
    simp at hz
    subst hz
    obtain rfl | rfl | rfl | rfl : j = 0 ∨ j = 1 ∨ j = 2 ∨ j = 3 := by omega
    all_goals simp [go_sem, encS]⟩
theorem srow2 (w : World) (x y : Ch.Span) (ty : Nat) : SRow (w.alloc (.cells #[.int .i64 x.fr, .int .i64 x.to, .int .i64 x.gl, .int .i64 x.st, .int .i64 y.fr, .int .i64 y.to, .int .i64 y.gl, .int .i64 y.st] ty)) (.slice (some ⟨w.heap.size, 0, none⟩) 2 2) [x, y] :=
  .inr ⟨w.heap.size, 0, 2, rfl, by simp, by simp, by simp, fun i z hz j hj => by
    have hi : i < 2 := (List.getElem?_eq_some_iff.1 hz).1
    obtain rfl | rfl : i = 0 ∨ i = 1 := by omega
    all_goals
      simp at hz
      subst hz
      obtain rfl | rfl | rfl | rfl : j = 0 ∨ j = 1 ∨ j = 2 ∨ j = 3 := by omega
      all_goals simp [go_sem, encS]⟩
theorem srow3 (w : World) (x y t : Ch.Span) (ty : Nat) : SRow (w.alloc (.cells #[.int .i64 x.fr, .int .i64 x.to, .int .i64 x.gl, .int .i64 x.st, .int .i64 y.fr, .int .i64 y.to, .int .i64 y.gl, .int .i64 y.st, .int .i64 t.fr, .int .i64 t.to, .int .i64 t.gl, .int .i64 t.st] ty)) (.slice (some ⟨w.heap.size, 0, none⟩) 3 3) [x, y, t] :=
  .inr ⟨w.heap.size, 0, 3, rfl, by simp, by simp, by simp, fun i z hz j hj => by
    have hi : i < 3 := (List.getElem?_eq_some_iff.1 hz).1
    obtain rfl | rfl | rfl : i = 0 ∨ i = 1 ∨ i = 2 := by omega
    all_goals
      simp at hz
      subst hz
      obtain rfl | rfl | rfl | rfl : j = 0 ∨ j = 1 ∨ j = 2 ∨ j = 3 := by omega
      all_goals simp [go_sem, encS]⟩

set_option maxHeartbeats 800000 in
theorem glyph_any (x : Ch.Span) (c : Int) (w : World) (h1 : 0 ≤ x.fr) (h2 : x.fr ≤ 1114111) (h3 : 0 ≤ x.st) (h4 : x.st ≤ 1) (h5 : 0 ≤ x.gl) (h6 : x.gl ≤ 65535) (h7 : 0 ≤ c) (h8 : c ≤ 1114111) :
    Calls Try.prog 34 #[aggS x, .int .i64 c] w fun e w' => e = .returned (.int .i64 (Ch.glyphOf x c)) ∧ Lo w w' := by
  obtain ⟨fr, tt, gl, st⟩ := x
  unfold aggS Ch.glyphOf
  dsimp only at *
  rcases (show st = 0 ∨ st = 1 by omega) with rfl | rfl
  · go_enter Try.func34, Try.ntmps34
    go_wp2_with fail
    go_ret
    refine ⟨ret_int ?_, (Lo.refl w).alloc _⟩
    first | omega | (simp [IntKind.wrap_i64]; omega) | (unfold wrap64; omega)
  · go_enter Try.func34, Try.ntmps34
    go_wp2_with fail
    go_ret
    refine ⟨ret_int ?_, (Lo.refl w).alloc _⟩
    first | omega | (simp [IntKind.wrap_i64]; omega) | (unfold wrap64; omega)

theorem glyph_ok {x : Ch.Span} (h : Ch.okSpan x = true) (c : Int) (w : World) (h7 : 0 ≤ c) (h8 : c ≤ 1114111) :
    Calls Try.prog 34 #[aggS x, .int .i64 c] w fun e w' => e = .returned (.int .i64 (Ch.glyphOf x c)) ∧ Lo w w' := by
  obtain ⟨a1, a2, a3, a4, a5, a6, a7, a8⟩ := (Ch.okSpan_iff x).1 h
  exact glyph_any x c w a1 (by omega) a4 a5 a6 a7 h7 h8

set_option maxHeartbeats 3200000 in
theorem valid_any (x : Ch.Span) (w : World) : Calls Try.prog 35 #[aggS x] w fun e w' => e = .returned (.bool (Ch.okSpan x)) ∧ Lo w w' := by
  by_cases h1 : x.fr < 0 ∨ x.to < x.fr ∨ 1114111 < x.to ∨ x.st < 0 ∨ 1 < x.st
  · have HE : Hid (Ch.okSpan x = false) := Lib.hid (by
      rw [Bool.eq_false_iff, ne_eq, Ch.okSpan_iff]
      omega)
    obtain ⟨fr, tt, gl, st⟩ := x
    generalize Ch.okSpan _ = y at *
    unfold aggS
    dsimp only at *
    by_cases c1 : fr < 0
    · go_enter Try.func35, Try.ntmps35
      go_wp2_with fail
      go_ret
      exact ⟨ret_bool (by rw [HE.out]), (Lo.refl w).alloc _⟩
    · by_cases c2 : tt < fr
      · go_enter Try.func35, Try.ntmps35
        go_wp2_with fail
        go_ret
        exact ⟨ret_bool (by rw [HE.out]), (Lo.refl w).alloc _⟩
      · by_cases c3 : 1114111 < tt
        · go_enter Try.func35, Try.ntmps35
          go_wp2_with fail
          go_ret
          exact ⟨ret_bool (by rw [HE.out]), (Lo.refl w).alloc _⟩
        · by_cases c4 : st < 0
          · go_enter Try.func35, Try.ntmps35
            go_wp2_with fail
            go_ret
            exact ⟨ret_bool (by rw [HE.out]), (Lo.refl w).alloc _⟩
          · have c5 : 1 < st := by omega
            go_enter Try.func35, Try.ntmps35
            go_wp2_with fail
            go_ret
            exact ⟨ret_bool (by rw [HE.out]), (Lo.refl w).alloc _⟩
  · by_cases h2 : 0 ≤ x.gl ∧ x.gl ≤ 65535
    · have HG := Lib.hid (fun W => glyph_any x x.to W (by omega) (by omega) (by omega) (by omega) h2.1 h2.2 (by omega) (by omega))
      have HE : Hid (Ch.okSpan x = decide (Ch.glyphOf x x.to ≤ 65535)) := Lib.hid (by
        rw [Bool.eq_iff_iff, Ch.okSpan_iff, decide_eq_true_eq]
        unfold Ch.glyphOf
        constructor
        · intro h; exact h.2.2.2.2.2.2.2
        · intro h; exact ⟨by omega, by omega, by omega, by omega, by omega, by omega, by omega, h⟩)
      obtain ⟨fr, tt, gl, st⟩ := x
      generalize Ch.okSpan _ = y at *
      generalize Ch.glyphOf _ _ = g at *
      unfold aggS at *
      dsimp only at *
      obtain ⟨h2, h3⟩ := h2
      have c1 : ¬ fr < 0 := by omega
      have c2 : ¬ tt < fr := by omega
      have c3 : ¬ 1114111 < tt := by omega
      have c4 : ¬ st < 0 := by omega
      have c5 : ¬ 1 < st := by omega
      clear h1
      go_enter Try.func35, Try.ntmps35
      go_wp2_with fail
      refine (HG.out _).mono ?_
      rintro e w1 ⟨rfl, lo⟩
      go_wp2_with fail
      go_ret
      exact ⟨ret_bool (by rw [HE.out]), ((Lo.refl w).alloc _).trans lo⟩
    · have HE : Hid (Ch.okSpan x = false) := Lib.hid (by
        rw [Bool.eq_false_iff, ne_eq, Ch.okSpan_iff]
        omega)
      obtain ⟨fr, tt, gl, st⟩ := x
      generalize Ch.okSpan _ = y at *
      unfold aggS
      dsimp only at *
      have c1 : ¬ fr < 0 := by omega
      have c2 : ¬ tt < fr := by omega
      have c3 : ¬ 1114111 < tt := by omega
      have c4 : ¬ st < 0 := by omega
      have c5 : ¬ 1 < st := by omega
      clear h1
      by_cases c6 : 0 ≤ gl
      · have c7 : ¬ gl ≤ 65535 := by omega
        clear h2
        go_enter Try.func35, Try.ntmps35
        go_wp2_with fail
        go_ret
        exact ⟨ret_bool (by rw [HE.out]), (Lo.refl w).alloc _⟩
      · clear h2
        go_enter Try.func35, Try.ntmps35
        go_wp2_with fail
        go_ret
        exact ⟨ret_bool (by rw [HE.out]), (Lo.refl w).alloc _⟩

set_option maxHeartbeats 400000 in
theorem reaches_any (x : Ch.Span) (c : Int) (w : World) : Calls Try.prog 33 #[aggS x, .int .i64 c] w fun e w' => e = .returned (.bool (decide (c ≤ x.to))) ∧ Lo w w' := by
  obtain ⟨fr, tt, gl, st⟩ := x
  unfold aggS
  dsimp only
  go_enter Try.func33, Try.ntmps33
  go_wp2_with fail
  go_ret
  exact ⟨rfl, (Lo.refl w).alloc _⟩

end Go.Proofs.Ytnlifmedkkboaaa

/-
  Plain facts on format 4 (layer 9, segment): one segment up to 65535, of offset 0 (SegmentWraps). No conditions beyond those stated.
-/
import Derived.Test.YtfnpindohoflaaaSgPut
namespace Sg
open Bn He Ch

theorem near_look {fr to delta : Int} (h0 : 0 ≤ fr) (h1 : fr ≤ 65535) (h2 : to ≤ 65535) (h3 : 0 ≤ delta) (h4 : delta ≤ 65535) (c : Int) : look (near fr to delta) c = if fr ≤ c ∧ c ≤ to then (c + delta) % 65536 else 0 := by
  by_cases hft : fr ≤ to
  · have hg : plane (fr + delta) = (fr + delta) % 65536 := by
      unfold plane
      by_cases h : 65536 ≤ fr + delta
      · rw [if_pos h]; omega
      · rw [if_neg h]; omega
    have gb : 0 ≤ plane (fr + delta) ∧ plane (fr + delta) ≤ 65535 := plane_bound (by omega) (by omega)
    unfold near
    generalize plane (fr + delta) = g at *
    by_cases h : g + to - fr ≤ 65535
    · rw [if_pos h, look, look]
      simp only [glyphOf]
      by_cases hc : fr ≤ c ∧ c ≤ to
      · rw [if_pos hc, if_pos hc]; omega
      · rw [if_neg hc, if_neg hc]
    · rw [if_neg h, look, look, look]
      simp only [glyphOf]
      by_cases hc : fr ≤ c ∧ c ≤ to
      · rw [if_pos hc]
        by_cases h1 : fr ≤ c ∧ c ≤ fr + 65535 - g
        · rw [if_pos h1]; omega
        · rw [if_neg h1, if_pos (by omega)]; omega
      · rw [if_neg hc, if_neg (by omega), if_neg (by omega)]
  · have hc : ¬ (fr ≤ c ∧ c ≤ to) := by omega
    rw [if_neg hc]
    obtain ⟨g0, g1⟩ := plane_bound (n := fr + delta) (by omega) (by omega)
    unfold near
    rw [if_pos (by omega), look, look, if_neg (by simpa using hc)]
/-- The words of one segment. -/
def wraps (fr delta : Int) : List Int := [4, 24, 0, 2, 2, 0, 0, 65535, 0, fr, delta, 0]
theorem get_wraps {fr delta : Int} (h0 : 0 ≤ fr) (h1 : fr ≤ 65535) (h3 : 0 ≤ delta) (h4 : delta ≤ 65535) : get (flat 2 (wraps fr delta)) = (near fr 65535 delta, 0) := by
  have hrd : ∀ j v, j < 12 → (wraps fr delta).getD j 0 = v → 0 ≤ v → v ≤ 65535 → word (flat 2 (wraps fr delta)) (2 * j) = v := by
    intro j v a b c d
    have := flat_at (size := 2) (by decide) (xs := wraps fr delta) (i := j) (by simpa [wraps] using a) (by rw [b]; exact fits2 c d) []
    rw [b, List.append_nil] at this
    exact this
  have hl : (flat 2 (wraps fr delta)).length = 24 := by rw [flat_len]; rfl
  have f0 : word (flat 2 (wraps fr delta)) 0 = 4 := hrd 0 4 (by omega) rfl (by omega) (by omega)
  have f2 : word (flat 2 (wraps fr delta)) 2 = 24 := hrd 1 24 (by omega) rfl (by omega) (by omega)
  have f6 : word (flat 2 (wraps fr delta)) 6 = 2 := hrd 3 2 (by omega) rfl (by omega) (by omega)
  have f14 : word (flat 2 (wraps fr delta)) 14 = 65535 := hrd 7 65535 (by omega) rfl (by omega) (by omega)
  have f18 : word (flat 2 (wraps fr delta)) 18 = fr := hrd 9 fr (by omega) rfl h0 h1
  have f20 : word (flat 2 (wraps fr delta)) 20 = delta := hrd 10 delta (by omega) rfl h3 h4
  have f22 : word (flat 2 (wraps fr delta)) 22 = 0 := hrd 11 0 (by omega) rfl (by omega) (by omega)
  have hm : many (flat 2 (wraps fr delta)) = 1 := by unfold many; rw [f6]; rfl
  have ht : (flat 2 (wraps fr delta)).take 24 = flat 2 (wraps fr delta) := List.take_of_length_le (by omega)
  unfold get
  rw [hm, f0, f2, f6, hl, if_neg (by omega), if_neg (by simp), if_neg (by omega), if_neg (by omega)]
  show body ((flat 2 (wraps fr delta)).take 24) 1 = _
  rw [ht]
  generalize flat 2 (wraps fr delta) = s at *
  have e1 : sTo s 0 = 65535 := f14
  have e2 : sFr s 1 0 = fr := f18
  have e3 : sDe s 1 0 = delta := f20
  have e4 : sOf s 1 0 = 0 := f22
  have hs : seg s 1 0 = (near fr 65535 delta, 0) := by unfold seg; rw [e4, if_pos rfl, e1, e2, e3]
  have hb : bad s 1 0 = false := by unfold bad last; rw [e1, e2, e4]; simp; omega
  have hla : last s 1 = 65535 := by unfold last; rw [if_neg (by omega)]; exact f14
  unfold body
  have hr : List.range 1 = [0] := rfl
  rw [hr]
  simp only [List.any_cons, List.any_nil, hb, Bool.or_false, hla, Sf.scan, hs, List.flatMap_cons, List.flatMap_nil, List.append_nil]
  rfl
theorem near_len (fr to delta : Int) : (near fr to delta).length ≤ 2 := by
  unfold near
  by_cases h : plane (fr + delta) + to - fr ≤ 65535
  · rw [if_pos h]; simp
  · rw [if_neg h]; simp
end Sg

/-
  Plain facts on font files (layer 4, sfnt), further: short tables are never too many bytes; where a record tells that its table begins. No conditions beyond those stated.
-/
import Derived.Test.YtchhjfocanjniaaGreatSfFacts2
namespace Sf
open Bn

theorem put_short {v : Int} {l : List Tab} (h : ∀ i, i < l.length → (datAt l i).length ≤ 2000) : (put v l).2 = 0 ∨ (put v l).2 = 1 := by
  unfold put
  by_cases c1 : isVer v = false ∨ right l = false
  · rw [if_pos c1]; exact .inr rfl
  · rw [if_neg c1]
    have hr : right l = true := by
      cases e : right l with
      | true => rfl
      | false => exact absurd (.inr e) c1
    have h64 := right_len hr
    have hw := wide_le l 2000 h _ (Nat.le_refl _)
    have h6 : l.length * (2000 + 3) ≤ 64 * 2003 := Nat.mul_le_mul_right _ h64
    rw [if_neg (by unfold total; omega)]
    exact .inl rfl
theorem bin_at (s : List UInt8) (k : Nat) (h : 24 + 16 * k ≤ s.length) : Bn.get s ((20 + 16 * k : Nat) : Int) [4] = ([(recAt s k : Int)], 0) := by
  unfold Bn.get
  rw [if_neg (by simp [allSizes, isSize]; omega), if_neg (by simp [many]; omega), Int.toNat_natCast]
  show ([one ((s.drop (20 + 16 * k)).take 4) 4], (0 : Int)) = _
  unfold one recAt num
  rw [if_neg (by rintro ⟨h, _⟩; omega)]
theorem file_byte {v : Int} {l : List Tab} (hr : right l = true) {k p : Nat} (hk : k < l.length) (hp : p < (datAt l k).length) : (file v l).getD (off l k + p) 0 = (datAt l k).getD p 0 := by
  have h := file_dat (v := v) hr hk
  have h1 : (((file v l).drop (off l k)).take (datAt l k).length).getD p 0 = (file v l).getD (off l k + p) 0 := by
    simp [List.getD, List.getElem?_take_of_lt hp]
  rw [← h1, h]
end Sf

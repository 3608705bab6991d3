/-
  Plain facts on sums of bytes (layer 3, bin): Sum and Pad. No conditions.
-/
import Derived.Test.YtjeahgdefdlabaaBnMath
namespace Bn

/-- With noughts behind, up to a multiple. -/
def up (l : List UInt8) (n : Nat) : List UInt8 := l ++ List.replicate ((n - l.length % n) % n) 0
/-- Numbers of four bytes, one by one. -/
def chunks : Nat → List UInt8 → Nat
  | v, a :: b :: c :: d :: r => chunks ((v + be [a, b, c, d]) % 4294967296) r
  | v, _ => v
def sum (l : List UInt8) : Nat := chunks 0 (up l 4)
def pad (l : List UInt8) (n : Int) : List UInt8 × Int := if n < 1 ∨ 64 < n then ([], 1) else (up l n.toNat, 0)

theorem up_len (l : List UInt8) (n : Nat) : (up l n).length = l.length + (n - l.length % n) % n := by simp [up]
theorem up_mod (l : List UInt8) (n : Nat) (h : 0 < n) : (up l n).length % n = 0 := by
  rw [up_len]
  have hm := Nat.mod_lt l.length h
  have hd := Nat.div_add_mod l.length n
  by_cases h0 : l.length % n = 0
  · rw [h0, Nat.sub_zero, Nat.mod_self, Nat.add_zero, h0]
  · rw [Nat.mod_eq_of_lt (a := n - l.length % n) (by omega)]
    have : l.length + (n - l.length % n) = n * (l.length / n + 1) := by rw [Nat.mul_add, Nat.mul_one]; omega
    rw [this, Nat.mul_mod_right]
theorem up_done (l : List UInt8) (n : Nat) (h : l.length % n = 0) : up l n = l := by
  unfold up
  rw [h, Nat.sub_zero, Nat.mod_self]
  simp
theorem up_step (l : List UInt8) (n : Nat) (h0 : 0 < n) (h : l.length % n ≠ 0) : up (l ++ [0]) n = up l n := by
  have hm := Nat.mod_lt l.length h0
  have hd := Nat.div_add_mod l.length n
  unfold up
  rw [List.append_assoc, List.length_append, List.length_singleton]
  congr 1
  by_cases he : l.length % n + 1 = n
  · have e1 : (l.length + 1) % n = 0 := by
      have : l.length + 1 = n * (l.length / n + 1) := by rw [Nat.mul_add, Nat.mul_one]; omega
      rw [this, Nat.mul_mod_right]
    rw [e1, Nat.sub_zero, Nat.mod_self, Nat.mod_eq_of_lt (a := n - l.length % n) (by omega), show n - l.length % n = 1 by omega]
    rfl
  · have e1 : (l.length + 1) % n = l.length % n + 1 := by
      have : l.length + 1 = (l.length % n + 1) + n * (l.length / n) := by omega
      rw [this, Nat.add_mul_mod_self_left, Nat.mod_eq_of_lt (by omega)]
    rw [e1, Nat.mod_eq_of_lt (a := n - (l.length % n + 1)) (by omega), Nat.mod_eq_of_lt (a := n - l.length % n) (by omega), show n - l.length % n = (n - (l.length % n + 1)) + 1 by omega]
    rfl

theorem chunks_append : ∀ (A : List UInt8) (v : Nat) (B : List UInt8), A.length % 4 = 0 → chunks v (A ++ B) = chunks (chunks v A) B
  | [], v, B, _ => rfl
  | [_], _, _, h => by simp at h
  | [_, _], _, _, h => by simp at h
  | [_, _, _], _, _, h => by simp at h
  | a :: b :: c :: d :: r, v, B, h => by
    show chunks ((v + be [a, b, c, d]) % 4294967296) (r ++ B) = chunks (chunks ((v + be [a, b, c, d]) % 4294967296) r) B
    exact chunks_append r _ B (by simp at h; omega)
theorem chunks_lt : ∀ (l : List UInt8) (v : Nat), v < 4294967296 → chunks v l < 4294967296
  | [], v, h => h
  | [_], v, h => h
  | [_, _], v, h => h
  | [_, _, _], v, h => h
  | a :: b :: c :: d :: r, v, _ => chunks_lt r _ (Nat.mod_lt _ (by omega))
theorem chunks_from : ∀ (l : List UInt8) (v : Nat), v < 4294967296 → chunks v l = (v + chunks 0 l) % 4294967296
  | [], v, h => by show v = (v + 0) % 4294967296; omega
  | [_], v, h => by show v = (v + 0) % 4294967296; omega
  | [_, _], v, h => by show v = (v + 0) % 4294967296; omega
  | [_, _, _], v, h => by show v = (v + 0) % 4294967296; omega
  | a :: b :: c :: d :: r, v, h => by
    show chunks ((v + be [a, b, c, d]) % 4294967296) r = (v + chunks ((0 + be [a, b, c, d]) % 4294967296) r) % 4294967296
    rw [chunks_from r _ (Nat.mod_lt _ (by omega)), chunks_from r ((0 + be [a, b, c, d]) % 4294967296) (Nat.mod_lt _ (by omega))]
    have := be_four a b c d
    omega
theorem sum_lt (l : List UInt8) : sum l < 4294967296 := chunks_lt _ _ (by omega)

theorem up_append (A B : List UInt8) (n : Nat) (h : A.length % n = 0) : up (A ++ B) n = A ++ up B n := by
  unfold up
  rw [List.append_assoc, List.length_append]
  have : (A.length + B.length) % n = B.length % n := by
    have hd := Nat.div_add_mod A.length n
    rw [h, Nat.add_zero] at hd
    rw [← hd, Nat.add_comm, Nat.add_mul_mod_self_left]
  rw [this]
theorem up_up (l : List UInt8) : up (up l 4) 4 = up l 4 := up_done _ _ (up_mod l 4 (by omega))
theorem up_two (l : List UInt8) : up (up l 2) 4 = up l 4 := by
  unfold up
  rw [List.append_assoc, List.replicate_append_replicate]
  congr 2
  rw [List.length_append, List.length_replicate]
  omega
theorem up_one (l : List UInt8) : up l 1 = l := up_done _ _ (Nat.mod_one _)

/-- Pad turns no sum. -/
theorem sum_pad4 (l : List UInt8) : sum (up l 4) = sum l := by unfold sum; rw [up_up]
theorem sum_pad2 (l : List UInt8) : sum (up l 2) = sum l := by unfold sum; rw [up_two]
theorem sum_zeros (l : List UInt8) : sum (0 :: 0 :: 0 :: 0 :: l) = sum l := by
  unfold sum
  have := up_append [0, 0, 0, 0] l 4 rfl
  rw [show (0 :: 0 :: 0 :: 0 :: l : List UInt8) = [0, 0, 0, 0] ++ l from rfl, this]
  rfl
theorem sum_both (l t : List UInt8) : sum (up l 4 ++ t) = (sum l + sum t) % 4294967296 := by
  have h := up_mod l 4 (by omega)
  unfold sum
  rw [up_append _ t 4 h, chunks_append _ _ _ h, chunks_from (up t 4) _ (chunks_lt _ _ (by omega))]
end Bn

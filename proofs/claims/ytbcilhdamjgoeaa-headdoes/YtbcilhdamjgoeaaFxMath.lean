/-
  Plain arithmetic of lengths (package fixed), with nothing of the program: what Is, Sum, Times, MulDiv and Half come to, and facts on them. No conditions.
-/
import Derived.WalkKit
namespace Go.Proofs.Ytbcilhdamjgoeaa
namespace Fx

/-- A number is a length. -/
def len (n : Int) : Bool := decide (-1073741823 ≤ n) && decide (n ≤ 1073741823)
theorem len_iff (n : Int) : len n = true ↔ -1073741823 ≤ n ∧ n ≤ 1073741823 := by simp [len]
theorem len_yes {n : Int} (h1 : -1073741823 ≤ n) (h2 : n ≤ 1073741823) : len n = true := (len_iff n).2 ⟨h1, h2⟩
theorem len_no {n : Int} (h : len n = false) : n < -1073741823 ∨ 1073741823 < n := by
  simp [len] at h; omega
theorem len_not {n : Int} (h : n < -1073741823 ∨ 1073741823 < n) : len n = false := by
  cases e : len n with
  | false => rfl
  | true => have := (len_iff n).1 e; omega

/-- All are lengths. -/
def is (l : List Int) : Bool := l.all len
theorem is_nil : is [] = true := rfl
theorem is_cons (a : Int) (l : List Int) : is (a :: l) = (len a && is l) := rfl
theorem is_take {l : List Int} {k : Nat} (h : is l = true) : is (l.take k) = true := by
  simp only [is, List.all_eq_true] at *
  exact fun x hx => h x (List.mem_of_mem_take hx)

/-- Halves away from 0, as the code reckons them. -/
def size (n : Int) : Int := if n < 0 then -n else n
def near (n c : Int) : Int :=
  if 2 * size (n.tmod c) < size c then n.tdiv c else if decide (n < 0) = decide (c < 0) then n.tdiv c + 1 else n.tdiv c - 1

theorem size_nonneg (n : Int) : 0 ≤ size n := by unfold size; split <;> omega
theorem size_natAbs (n : Int) : size n = n.natAbs := by unfold size; split <;> omega
theorem tdiv_bd (n c : Int) (h1 : -1152921504606846976 ≤ n) (h2 : n ≤ 1152921504606846976) : -1152921504606846976 ≤ n.tdiv c ∧ n.tdiv c ≤ 1152921504606846976 := by
  have h' : (n.tdiv c).natAbs ≤ n.natAbs := by rw [Int.natAbs_tdiv n c]; exact Nat.div_le_self n.natAbs c.natAbs
  omega
theorem tmod_bd (n c : Int) (h : ¬ c = 0) : (n.tmod c).natAbs < c.natAbs := by
  rw [Int.natAbs_tmod]
  exact Nat.mod_lt _ (by omega)

/-- Sums from the left. -/
def sumFrom (s : Int) : List Int → Option Int
  | [] => some s
  | n :: r => if len (s + n) = true then sumFrom (s + n) r else none

/-- An answer: the number, and the error's number. -/
def told (q : Int) : Int × Int := if len q = true then (q, 0) else (0, 2)
def sumOf : Option Int → Int × Int
  | some s => (s, 0)
  | none => (0, 2)
def sum (l : List Int) : Int × Int := if is l = true then sumOf (sumFrom 0 l) else (0, 1)
def times (a n : Int) : Int × Int :=
  if len a = true then (if a = 0 then (0, 0) else if len n = true then told (a * n) else (0, 2)) else (0, 1)
def mulDiv (a b c : Int) : Int × Int :=
  if is [a, b, c] = true ∧ c ≠ 0 then told (near (a * b) c) else (0, 1)
def half (a : Int) : Int × Int := if len a = true then (a / 2, 0) else (0, 1)

end Fx
end Go.Proofs.Ytbcilhdamjgoeaa

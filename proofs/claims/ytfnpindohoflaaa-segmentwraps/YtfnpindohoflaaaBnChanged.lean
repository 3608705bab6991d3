/-
  Plain facts on sums of bytes (layers 3 and 4): one byte that is another one turns the sum; a sum is that of two parts, put together. No conditions.
-/
import Derived.Test.YtfnpindohoflaaaBnSums
namespace Bn

theorem be_inj {a b : List UInt8} (hl : a.length = b.length) (h : be a = be b) : a = b := by
  have h1 := tail_be a
  have h2 := tail_be b
  rw [hl, h] at h1
  rw [← h1, h2]

theorem mod_cancel {u a b r : Nat} (ha : a < 4294967296) (hb : b < 4294967296) (h : (u + (a + r) % 4294967296) % 4294967296 = (u + (b + r) % 4294967296) % 4294967296) : a = b := by omega

/-- A row of numbers of four bytes in which one byte is another one. -/
theorem chunks_ne : ∀ (l : List UInt8) (v i : Nat) (c : UInt8), l.length % 4 = 0 → i < l.length → l.getD i 0 ≠ c → v < 4294967296 → chunks v (l.set i c) ≠ chunks v l
  | [], _, i, _, _, hi, _, _ => by simp at hi
  | [_], _, _, _, h, _, _, _ => by simp at h
  | [_, _], _, _, _, h, _, _, _ => by simp at h
  | [_, _, _], _, _, _, h, _, _, _ => by simp at h
  | x :: y :: z :: t :: r, v, i, c, h, hi, hne, hv => by
    have hr : r.length % 4 = 0 := by simp at h; omega
    have key : ∀ p q : List UInt8, p.length = 4 → q.length = 4 → p ≠ q → chunks ((v + be p) % 4294967296) r ≠ chunks ((v + be q) % 4294967296) r := by
      intro p q hp hq hpq he
      rw [chunks_from r _ (Nat.mod_lt _ (by omega)), chunks_from r ((v + be q) % 4294967296) (Nat.mod_lt _ (by omega))] at he
      have b1 := be_lt p
      have b2 := be_lt q
      rw [hp] at b1
      rw [hq] at b2
      exact hpq (be_inj (by rw [hp, hq]) (by omega))
    match i, hi, hne with
    | 0, _, hne => exact key [c, y, z, t] [x, y, z, t] rfl rfl (by intro he; injection he with h1 _; exact hne (by simpa using h1.symm))
    | 1, _, hne => exact key [x, c, z, t] [x, y, z, t] rfl rfl (by intro he; injection he with _ he; injection he with h1 _; exact hne (by simpa using h1.symm))
    | 2, _, hne => exact key [x, y, c, t] [x, y, z, t] rfl rfl (by intro he; injection he with _ he; injection he with _ he; injection he with h1 _; exact hne (by simpa using h1.symm))
    | 3, _, hne => exact key [x, y, z, c] [x, y, z, t] rfl rfl (by intro he; injection he with _ he; injection he with _ he; injection he with _ he; injection he with h1 _; exact hne (by simpa using h1.symm))
    | j + 4, hi, hne =>
      show chunks ((v + be [x, y, z, t]) % 4294967296) (r.set j c) ≠ chunks ((v + be [x, y, z, t]) % 4294967296) r
      exact chunks_ne r _ j c hr (by simp at hi; omega) (by simpa using hne) (Nat.mod_lt _ (by omega))

theorem up_set (l : List UInt8) (n i : Nat) (c : UInt8) (h : i < l.length) : up (l.set i c) n = (up l n).set i c := by
  unfold up
  rw [List.length_set, List.set_append_left _ _ h]

/-- One byte that is another one turns the sum. -/
theorem sum_ne (l : List UInt8) (i : Nat) (c : UInt8) (h : i < l.length) (hne : l.getD i 0 ≠ c) : sum (l.set i c) ≠ sum l := by
  unfold sum
  rw [up_set l 4 i c h]
  refine chunks_ne _ _ _ _ (up_mod l 4 (by omega)) (by rw [up_len]; omega) ?_ (by omega)
  unfold up
  rw [List.getD, List.getElem?_append_left h]
  exact hne

theorem be_zeros : be [0, 0, 0, 0] = 0 := rfl
/-- Four bytes, at a multiple of four, that count as noughts. -/
theorem sum_without (a m b : List UInt8) (ha : a.length % 4 = 0) (hm : m.length = 4) : (sum (a ++ [0, 0, 0, 0] ++ b) + sum m) % 4294967296 = sum (a ++ m ++ b) := by
  have e : ∀ x : List UInt8, x.length = 4 → sum (a ++ x ++ b) = (chunks 0 a + (be x + chunks 0 (up b 4)) % 4294967296) % 4294967296 := by
    intro x hx
    unfold sum
    rw [up_append (a ++ x) b 4 (by rw [List.length_append, hx]; omega), chunks_append (a ++ x) 0 _ (by rw [List.length_append, hx]; omega), chunks_append a 0 x ha]
    match x, hx with
    | [p, q, r, s], _ =>
      show chunks ((chunks 0 a + be [p, q, r, s]) % 4294967296) (up b 4) = _
      rw [chunks_from (up b 4) _ (Nat.mod_lt _ (by omega))]
      omega
  have hs : sum m = be m := by
    unfold sum
    rw [up_done m 4 (by omega)]
    match m, hm with
    | [p, q, r, s], _ =>
      show (0 + be [p, q, r, s]) % 4294967296 = be [p, q, r, s]
      have := be_four p q r s
      omega
  rw [e [0, 0, 0, 0] rfl, e m hm, hs, be_zeros]
  omega
end Bn

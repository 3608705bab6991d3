/-
  Facts that the walks rest on: SyMath, CmPick, CmSwap, GkStep. No conditions beyond those stated.
-/
import Derived.Sort.LotA
import Derived.Test.YtppihpjcdieeoaaGreatDoorPart01
import Derived.Test.YtppihpjcdieeoaaGreatDoorGround
import Derived.Shelf.SlSortCmp.KitK
import Derived.Deep.LoopGhost
import Derived.Deep.RegionHeld3
/-
  Records by falling ranks, those of one rank in the order of their places: what Go's stable sort does on rows of them, step by step (blocks exchanged, one element moved up or down, two sorted neighbours merged), with nothing of the program. No conditions beyond those stated.
-/
namespace Sy
open Go.Sort

/-- A record: its rank, its offset, the place where it stood at first. -/
abbrev Rec := Int × Int × Nat
/-- What the comparison tells, the later one first. -/
def cf (x y : Rec) : Int := if y.1 < x.1 then -1 else if x.1 < y.1 then 1 else 0
def lt (x y : Rec) : Bool := decide (cf x y < 0)
/-- .. and with the places, an order of all. -/
def tl (x y : Rec) : Bool := decide (y.1 < x.1) || (decide (x.1 = y.1) && decide (x.2.2 < y.2.2))
theorem lt_iff (x y : Rec) : lt x y = true ↔ y.1 < x.1 := by
  unfold lt cf
  rw [decide_eq_true_eq]
  split
  · constructor <;> intro <;> omega
  · split <;> constructor <;> intro <;> omega
theorem tl_iff (x y : Rec) : tl x y = true ↔ y.1 < x.1 ∨ (x.1 = y.1 ∧ x.2.2 < y.2.2) := by
  unfold tl
  simp only [Bool.or_eq_true, Bool.and_eq_true, decide_eq_true_eq]
theorem tl_no (x y : Rec) : tl x y = false ↔ ¬ (y.1 < x.1 ∨ (x.1 = y.1 ∧ x.2.2 < y.2.2)) := by
  rw [← tl_iff, Bool.not_eq_true]
theorem tl_swo : SWO tl where
  irrefl x := by rw [tl_no]; omega
  trans x y z h k := by rw [tl_iff] at *; omega
  ntrans x y z h k := by rw [tl_no] at *; omega
/-- Where the first one's place is behind the other's, places tell nothing. -/
theorem lt_tl {x y : Rec} (h : y.2.2 < x.2.2) : lt x y = tl x y := by
  rw [Bool.eq_iff_iff, lt_iff, tl_iff]; omega

/-! One place exchanged with another -/
theorem swp_at (d : Array Rec) {i j : Nat} (hi : i < d.size) (hj : j < d.size) (k : Nat) : (swp d i j)[k]! = if k = j then d[i]! else if k = i then d[j]! else d[k]! := swp_get d hi hj k

/-- k places from b + i on, exchanged with those from a + i on. -/
def swapR (a b : Nat) : Nat → Nat → Array Rec → Array Rec
  | _, 0, d => d
  | i, k + 1, d => swapR a b (i + 1) k (swp d (a + i) (b + i))
theorem swapR_size (a b : Nat) : ∀ (k i : Nat) (d : Array Rec), (swapR a b i k d).size = d.size
  | 0, _, _ => rfl
  | k + 1, i, d => by rw [swapR, swapR_size a b k (i + 1), swp_size]
theorem swapR_at (a b : Nat) : ∀ (k i : Nat) (d : Array Rec), a + i + k ≤ b → b + i + k ≤ d.size → ∀ t,
    (swapR a b i k d)[t]! = if a + i ≤ t ∧ t < a + i + k then d[t + (b - a)]! else if b + i ≤ t ∧ t < b + i + k then d[t - (b - a)]! else d[t]!
  | 0, i, d, _, _, t => by rw [swapR, if_neg (by omega), if_neg (by omega)]
  | k + 1, i, d, h1, h2, t => by
    rw [swapR, swapR_at a b k (i + 1) _ (by omega) (by rw [swp_size]; omega) t]
    have s := swp_at d (i := a + i) (j := b + i) (by omega) (by omega)
    rw [s, s, s]
    by_cases c1 : t = a + i
    · rw [if_neg (by omega), if_neg (by omega), if_neg (by omega), if_pos c1, if_pos (by omega)]; congr 1; omega
    · by_cases c2 : t = b + i
      · rw [if_neg (by omega), if_neg (by omega), if_pos c2, if_neg (by omega), if_pos (by omega)]; congr 1; omega
      · by_cases c3 : a + i ≤ t ∧ t < a + i + (k + 1)
        · rw [if_pos (by omega), if_neg (by omega), if_neg (by omega), if_pos c3]
        · rw [if_neg (by omega)]
          by_cases c4 : b + i ≤ t ∧ t < b + i + (k + 1)
          · rw [if_pos (by omega), if_neg (by omega), if_neg (by omega), if_neg c3, if_pos c4]
          · rw [if_neg (by omega), if_neg c2, if_neg c1, if_neg c3, if_neg c4]
theorem swapR_perm (a b lo hi : Nat) : ∀ (k i : Nat) (d : Array Rec), lo ≤ a + i → a + i + k ≤ b → b + i + k ≤ hi → hi ≤ d.size → PermIn lo hi d (swapR a b i k d)
  | 0, _, d, _, _, _, _ => permIn_refl d lo hi
  | k + 1, i, d, h0, h1, h2, h3 => by
    rw [swapR]
    exact permIn_trans _ _ _ lo hi (swp_permIn d lo hi (a + i) (b + i) (by omega) (by omega) (by omega) (by omega) h3) (swapR_perm a b lo hi k (i + 1) _ (by omega) (by omega) (by omega) (by rw [swp_size]; exact h3))

/-- The i places ahead of m, and the j from m on, the other way round: what stands at t then. -/
def rsp (m i j : Nat) (d : Array Rec) (t : Nat) : Rec := if m - i ≤ t ∧ t < m - i + j then d[t + i]! else if m - i + j ≤ t ∧ t < m + j then d[t - j]! else d[t]!
theorem rsp_left {m i j : Nat} {d : Array Rec} (hj : 0 < j) (hij : j < i) (him : i ≤ m) (hs : m + j ≤ d.size) (t : Nat) : rsp m (i - j) j (swapR (m - i) m 0 j d) t = rsp m i j d t := by
  unfold rsp
  have s := swapR_at (m - i) m j 0 d (by omega) (by omega)
  rw [s, s, s]
  by_cases c1 : m - i ≤ t ∧ t < m - i + j
  · rw [if_neg (show ¬ (m - (i - j) ≤ t ∧ t < m - (i - j) + j) by omega), if_neg (show ¬ (m - (i - j) + j ≤ t ∧ t < m + j) by omega), if_pos (by omega), if_pos c1]; congr 1; omega
  · by_cases c2 : m - i + j ≤ t ∧ t < m + j
    · rw [if_neg c1, if_pos c2]
      by_cases c3 : t < m - i + j + j
      · rw [if_pos (show m - (i - j) ≤ t ∧ t < m - (i - j) + j by omega), if_neg (by omega), if_pos (by omega)]; congr 1; omega
      · rw [if_neg (show ¬ (m - (i - j) ≤ t ∧ t < m - (i - j) + j) by omega), if_pos (show m - (i - j) + j ≤ t ∧ t < m + j by omega), if_neg (by omega), if_neg (by omega)]
    · rw [if_neg (show ¬ (m - (i - j) ≤ t ∧ t < m - (i - j) + j) by omega), if_neg (show ¬ (m - (i - j) + j ≤ t ∧ t < m + j) by omega), if_neg (by omega), if_neg (by omega), if_neg c1, if_neg c2]
theorem rsp_right {m i j : Nat} {d : Array Rec} (hi : 0 < i) (hij : i < j) (him : i ≤ m) (hs : m + j ≤ d.size) (t : Nat) : rsp m i (j - i) (swapR (m - i) (m + j - i) 0 i d) t = rsp m i j d t := by
  unfold rsp
  have s := swapR_at (m - i) (m + j - i) i 0 d (by omega) (by omega)
  rw [s, s, s]
  by_cases c1 : m - i ≤ t ∧ t < m - i + j
  · rw [if_pos c1]
    by_cases c2 : t < m - i + (j - i)
    · rw [if_pos (show m - i ≤ t ∧ t < m - i + (j - i) by omega), if_neg (by omega), if_neg (by omega)]
    · rw [if_neg (show ¬ (m - i ≤ t ∧ t < m - i + (j - i)) by omega), if_pos (show m - i + (j - i) ≤ t ∧ t < m + (j - i) by omega), if_pos (by omega)]; congr 1; omega
  · rw [if_neg c1]
    by_cases c2 : m - i + j ≤ t ∧ t < m + j
    · rw [if_pos c2, if_neg (show ¬ (m - i ≤ t ∧ t < m - i + (j - i)) by omega), if_neg (show ¬ (m - i + (j - i) ≤ t ∧ t < m + (j - i)) by omega), if_neg (by omega), if_pos (by omega)]; congr 1; omega
    · rw [if_neg c2, if_neg (show ¬ (m - i ≤ t ∧ t < m - i + (j - i)) by omega), if_neg (show ¬ (m - i + (j - i) ≤ t ∧ t < m + (j - i)) by omega), if_neg (by omega), if_neg (by omega)]
theorem rsp_even {m i : Nat} {d : Array Rec} (him : i ≤ m) (hs : m + i ≤ d.size) (t : Nat) : (swapR (m - i) m 0 i d)[t]! = rsp m i i d t := by
  unfold rsp
  rw [swapR_at (m - i) m i 0 d (by omega) (by omega) t]
  by_cases c1 : m - i ≤ t ∧ t < m - i + i
  · rw [if_pos (by omega), if_pos c1]; congr 1; omega
  · rw [if_neg (by omega), if_neg c1]
    by_cases c2 : m - i + i ≤ t ∧ t < m + i
    · rw [if_pos (by omega), if_pos c2]; congr 1; omega
    · rw [if_neg (by omega), if_neg c2]

theorem rsp_none {m i j : Nat} {d : Array Rec} (h : i = 0 ∨ j = 0) (t : Nat) : rsp m i j d t = d[t]! := by
  unfold rsp
  rcases h with rfl | rfl
  · by_cases c : m - 0 ≤ t ∧ t < m - 0 + j
    · rw [if_pos c]; rfl
    · rw [if_neg c, if_neg (by omega)]
  · rw [if_neg (by omega)]
    by_cases c : m - i + 0 ≤ t ∧ t < m + 0
    · rw [if_pos c]; rfl
    · rw [if_neg c]

/-- What stands at k goes n places up; and down. -/
def up : Nat → Nat → Array Rec → Array Rec
  | _, 0, d => d
  | k, n + 1, d => up (k + 1) n (swp d k (k + 1))
def down : Nat → Nat → Array Rec → Array Rec
  | _, 0, d => d
  | k, n + 1, d => down (k - 1) n (swp d k (k - 1))
theorem up_size : ∀ (n k : Nat) (d : Array Rec), (up k n d).size = d.size
  | 0, _, _ => rfl
  | n + 1, k, d => by rw [up, up_size n (k + 1), swp_size]
theorem down_size : ∀ (n k : Nat) (d : Array Rec), (down k n d).size = d.size
  | 0, _, _ => rfl
  | n + 1, k, d => by rw [down, down_size n (k - 1), swp_size]
theorem up_at : ∀ (n k : Nat) (d : Array Rec), k + n < d.size → ∀ t, (up k n d)[t]! = if k ≤ t ∧ t < k + n then d[t + 1]! else if t = k + n then d[k]! else d[t]!
  | 0, k, d, _, t => by
    rw [up, if_neg (by omega)]
    by_cases c : t = k + 0
    · rw [if_pos c, c]; rfl
    · rw [if_neg c]
  | n + 1, k, d, h, t => by
    rw [up, up_at n (k + 1) _ (by rw [swp_size]; omega) t]
    have s := swp_at d (i := k) (j := k + 1) (by omega) (by omega)
    rw [s, s, s]
    by_cases c1 : t = k
    · rw [if_neg (by omega), if_neg (by omega), if_neg (by omega), if_pos c1, if_pos (by omega), c1]
    · by_cases c2 : t = k + (n + 1)
      · rw [if_neg (by omega), if_pos (by omega), if_pos rfl, if_neg (by omega), if_pos c2]
      · by_cases c3 : k ≤ t ∧ t < k + (n + 1)
        · rw [if_pos (by omega), if_neg (by omega), if_neg (by omega), if_pos c3]
        · rw [if_neg (by omega), if_neg (by omega), if_neg (by omega), if_neg c1, if_neg c3, if_neg c2]
theorem down_at : ∀ (n k : Nat) (d : Array Rec), n ≤ k → k < d.size → ∀ t, (down k n d)[t]! = if k - n < t ∧ t ≤ k then d[t - 1]! else if t = k - n then d[k]! else d[t]!
  | 0, k, d, _, _, t => by
    rw [down, if_neg (by omega)]
    by_cases c : t = k - 0
    · rw [if_pos c, c]; rfl
    · rw [if_neg c]
  | n + 1, k, d, h, hk, t => by
    rw [down, down_at n (k - 1) _ (by omega) (by rw [swp_size]; omega) t]
    have s := swp_at d (i := k) (j := k - 1) (by omega) (by omega)
    rw [s, s, s]
    by_cases c1 : t = k
    · rw [if_neg (by omega), if_neg (by omega), if_neg (by omega), if_pos c1, if_pos (by omega), c1]
    · by_cases c2 : t = k - (n + 1)
      · rw [if_neg (by omega), if_pos (by omega), if_pos rfl, if_neg (by omega), if_pos c2]
      · by_cases c3 : k - (n + 1) < t ∧ t ≤ k
        · rw [if_pos (by omega), if_neg (by omega), if_neg (by omega), if_pos c3]
        · rw [if_neg (by omega), if_neg (by omega), if_neg (by omega), if_neg c1, if_neg c3, if_neg c2]
theorem up_perm (lo hi : Nat) : ∀ (n k : Nat) (d : Array Rec), lo ≤ k → k + n < hi → hi ≤ d.size → PermIn lo hi d (up k n d)
  | 0, _, d, _, _, _ => permIn_refl d lo hi
  | n + 1, k, d, h0, h1, h2 => by
    rw [up]
    exact permIn_trans _ _ _ lo hi (swp_permIn d lo hi k (k + 1) (by omega) (by omega) (by omega) (by omega) h2) (up_perm lo hi n (k + 1) _ (by omega) (by omega) (by rw [swp_size]; exact h2))
theorem down_perm (lo hi : Nat) : ∀ (n k : Nat) (d : Array Rec), lo + n ≤ k → k < hi → hi ≤ d.size → PermIn lo hi d (down k n d)
  | 0, _, d, _, _, _ => permIn_refl d lo hi
  | n + 1, k, d, h0, h1, h2 => by
    rw [down]
    exact permIn_trans _ _ _ lo hi (swp_permIn d lo hi k (k - 1) (by omega) (by omega) (by omega) (by omega) h2) (down_perm lo hi n (k - 1) _ (by omega) (by omega) (by rw [swp_size]; exact h2))

/-! Two sorted neighbours -/
/-- Each place ahead of m is less than each from m on. -/
def Ahead (a m b : Nat) (d : Array Rec) : Prop := ∀ p q, a ≤ p → p < m → m ≤ q → q < b → d[p]!.2.2 < d[q]!.2.2
theorem le_trans {x y z : Rec} (h : tl y x = false) (k : tl z y = false) : tl z x = false := tl_swo.ntrans z y x k h
theorem le_of {x y : Rec} (h : tl x y = true) : tl y x = false := tl_swo.asymmA h
theorem srt_le {a b : Nat} {d : Array Rec} (h : SortedIn tl a b d) {i j : Nat} (h1 : a ≤ i) (h2 : i ≤ j) (h3 : j < b) : tl d[j]! d[i]! = false := by
  rcases Nat.lt_or_ge i j with c | c
  · exact h i j h1 c h3
  · obtain rfl : i = j := by omega
    exact tl_swo.irrefl _

/-- One element ahead of a sorted row goes up to its place. -/
theorem up_sorted {a b i : Nat} {d : Array Rec} (hs : SortedIn tl (a + 1) b d) (ht : Ahead a (a + 1) b d) (hb : b ≤ d.size) (h1 : a + 1 ≤ i) (h2 : i ≤ b) (hl : i = a + 1 ∨ lt d[i - 1]! d[a]! = true) (hr : i = b ∨ lt d[i]! d[a]! = false) :
    SortedIn tl a b (up a (i - 1 - a) d) := by
  have cross : ∀ q, a + 1 ≤ q → q < b → lt d[q]! d[a]! = tl d[q]! d[a]! := fun q h k => lt_tl (ht a q (Nat.le_refl _) (by omega) h k)
  have hL : ∀ q, a + 1 ≤ q → q < i → tl d[a]! d[q]! = false := fun q hq hqi => by
    rcases hl with hl | hl
    · omega
    · rw [cross (i - 1) (by omega) (by omega)] at hl
      exact le_trans (srt_le hs hq (show q ≤ i - 1 by omega) (by omega)) (le_of hl)
  have hR : ∀ q, i ≤ q → q < b → tl d[q]! d[a]! = false := fun q hq hqb => by
    rcases hr with hr | hr
    · omega
    · rw [cross i (by omega) (by omega)] at hr
      exact le_trans hr (srt_le hs (by omega) hq hqb)
  intro p q hp hpq hq
  have g := up_at (i - 1 - a) a d (by omega)
  rw [g, g]
  by_cases c1 : q < i - 1
  · rw [if_pos (by omega), if_pos (by omega)]; exact hs _ _ (by omega) (by omega) (by omega)
  · rw [if_neg (by omega)]
    by_cases c2 : q = i - 1
    · rw [if_pos (by omega), if_pos (by omega)]; exact hL _ (by omega) (by omega)
    · rw [if_neg (by omega)]
      by_cases c3 : p < i - 1
      · rw [if_pos (by omega)]; exact srt_le hs (by omega) (by omega) hq
      · rw [if_neg (by omega)]
        by_cases c4 : p = i - 1
        · rw [if_pos (by omega)]; exact hR q (by omega) hq
        · rw [if_neg (by omega)]; exact hs p q (by omega) hpq hq

/-- One element behind a sorted row goes down to its place. -/
theorem down_sorted {a m i : Nat} {d : Array Rec} (hs : SortedIn tl a m d) (ht : Ahead a m (m + 1) d) (hb : m + 1 ≤ d.size) (h1 : a ≤ i) (h2 : i ≤ m) (hl : i = a ∨ lt d[m]! d[i - 1]! = false) (hr : i = m ∨ lt d[m]! d[i]! = true) :
    SortedIn tl a (m + 1) (down m (m - i) d) := by
  have cross : ∀ q, a ≤ q → q < m → lt d[m]! d[q]! = tl d[m]! d[q]! := fun q h k => lt_tl (ht q m h k (Nat.le_refl _) (by omega))
  have hL : ∀ q, a ≤ q → q < i → tl d[m]! d[q]! = false := fun q hq hqi => by
    rcases hl with hl | hl
    · omega
    · rw [cross (i - 1) (by omega) (by omega)] at hl
      exact le_trans (srt_le hs hq (show q ≤ i - 1 by omega) (by omega)) hl
  have hR : ∀ q, i ≤ q → q < m → tl d[q]! d[m]! = false := fun q hq hqm => by
    rcases hr with hr | hr
    · omega
    · rw [cross i (by omega) (by omega)] at hr
      exact le_trans (le_of hr) (srt_le hs (by omega) hq hqm)
  intro p q hp hpq hq
  have g := down_at (m - i) m d (by omega) (by omega)
  rw [g, g]
  by_cases c1 : i < p
  · rw [if_pos (by omega), if_pos (by omega)]; exact hs _ _ (by omega) (by omega) (by omega)
  · by_cases c2 : p = i
    · rw [if_pos (by omega), if_neg (by omega), if_pos (by omega)]; exact hR _ (by omega) (by omega)
    · rw [if_neg (show ¬ (m - (m - i) < p ∧ p ≤ m) by omega), if_neg (show ¬ p = m - (m - i) by omega)]
      by_cases c3 : i < q
      · rw [if_pos (by omega)]; exact srt_le hs hp (by omega) (by omega)
      · rw [if_neg (by omega)]
        by_cases c4 : q = i
        · rw [if_pos (by omega)]; exact hL p hp (by omega)
        · rw [if_neg (by omega)]; exact hs p q hp hpq (by omega)

/-- What a part tells of a part of it. -/
theorem srt_part {a b a' b' : Nat} {d : Array Rec} (h : SortedIn tl a b d) (ha : a ≤ a') (hb : b' ≤ b) : SortedIn tl a' b' d := fun p q h1 h2 h3 => h p q (by omega) h2 (by omega)
theorem srt_same {a b : Nat} {d d' : Array Rec} (h : SortedIn tl a b d) (he : ∀ t, a ≤ t → t < b → d'[t]! = d[t]!) : SortedIn tl a b d' := fun p q h1 h2 h3 => by
  rw [he p (by omega) (by omega), he q (by omega) h3]; exact h p q h1 h2 h3
theorem srt_one {a b : Nat} {d : Array Rec} (h : b ≤ a + 1) : SortedIn tl a b d := fun p q h1 h2 h3 => by omega

/-- The two halves, told for what was exchanged about the middle. -/
theorem halves {a m b mid st en : Nat} {d d1 : Array Rec} (hs1 : SortedIn tl a m d) (hs2 : SortedIn tl m b d) (ht : Ahead a m b d) (h1 : a ≤ st) (h2 : st ≤ m) (h3 : m ≤ en) (h4 : en ≤ b) (h5 : st + en = mid + m)
    (hd : ∀ t, d1[t]! = rsp m (m - st) (en - m) d t) :
    SortedIn tl a st d1 ∧ SortedIn tl st mid d1 ∧ Ahead a st mid d1 ∧ SortedIn tl mid en d1 ∧ SortedIn tl en b d1 ∧ Ahead mid en b d1 := by
  have e1 : ∀ t, t < st → d1[t]! = d[t]! := fun t h => by rw [hd, rsp, if_neg (by omega), if_neg (by omega)]
  have e2 : ∀ t, st ≤ t → t < mid → d1[t]! = d[t + (m - st)]! := fun t h k => by rw [hd, rsp, if_pos (by omega)]
  have e3 : ∀ t, mid ≤ t → t < en → d1[t]! = d[t - (en - m)]! := fun t h k => by rw [hd, rsp, if_neg (by omega), if_pos (by omega)]
  have e4 : ∀ t, en ≤ t → d1[t]! = d[t]! := fun t h => by rw [hd, rsp, if_neg (by omega), if_neg (by omega)]
  refine ⟨fun p q i j k => ?_, fun p q i j k => ?_, fun p q i j k l => ?_, fun p q i j k => ?_, fun p q i j k => ?_, fun p q i j k l => ?_⟩
  · rw [e1 p (by omega), e1 q (by omega)]; exact hs1 p q i j (by omega)
  · rw [e2 p (by omega) (by omega), e2 q (by omega) (by omega)]; exact hs2 _ _ (by omega) (by omega) (by omega)
  · rw [e1 p (by omega), e2 q (by omega) (by omega)]; exact ht _ _ (by omega) (by omega) (by omega) (by omega)
  · rw [e3 p (by omega) (by omega), e3 q (by omega) (by omega)]; exact hs1 _ _ (by omega) (by omega) (by omega)
  · rw [e4 p (by omega), e4 q (by omega)]; exact hs2 _ _ (by omega) (by omega) (by omega)
  · rw [e3 p (by omega) (by omega), e4 q (by omega)]; exact ht _ _ (by omega) (by omega) (by omega) (by omega)
/-- .. and nothing of the first half is behind anything of the second. -/
theorem halves_apart {a m b mid st en : Nat} {d d1 : Array Rec} (hs1 : SortedIn tl a m d) (hs2 : SortedIn tl m b d) (ht : Ahead a m b d) (h1 : a ≤ st) (h2 : st ≤ m) (h3 : m ≤ en) (h4 : en ≤ b) (h5 : st + en = mid + m)
    (hd : ∀ t, d1[t]! = rsp m (m - st) (en - m) d t) (hl : st = a ∨ en = b ∨ lt d[en]! d[st - 1]! = false) (hr : st = m ∨ en = m ∨ lt d[en - 1]! d[st]! = true) :
    ∀ p q, a ≤ p → p < mid → mid ≤ q → q < b → tl d1[q]! d1[p]! = false := by
  have e1 : ∀ t, t < st → d1[t]! = d[t]! := fun t h => by rw [hd, rsp, if_neg (by omega), if_neg (by omega)]
  have e2 : ∀ t, st ≤ t → t < mid → d1[t]! = d[t + (m - st)]! := fun t h k => by rw [hd, rsp, if_pos (by omega)]
  have e3 : ∀ t, mid ≤ t → t < en → d1[t]! = d[t - (en - m)]! := fun t h k => by rw [hd, rsp, if_neg (by omega), if_pos (by omega)]
  have e4 : ∀ t, en ≤ t → d1[t]! = d[t]! := fun t h => by rw [hd, rsp, if_neg (by omega), if_neg (by omega)]
  have cross : ∀ x y, a ≤ y → y < m → m ≤ x → x < b → lt d[x]! d[y]! = tl d[x]! d[y]! := fun x y i j k l => lt_tl (ht y x i j k l)
  intro p q i j k l
  by_cases c1 : p < st
  · rw [e1 p c1]
    by_cases c2 : q < en
    · rw [e3 q k c2]; exact srt_le hs1 i (by omega) (by omega)
    · rw [e4 q (by omega)]
      rcases hl with hl | hl | hl
      · omega
      · omega
      · rw [cross en (st - 1) (by omega) (by omega) (by omega) (by omega)] at hl
        exact le_trans (srt_le hs1 i (show p ≤ st - 1 by omega) (by omega)) (le_trans hl (srt_le hs2 (by omega) (show en ≤ q by omega) l))
  · rw [e2 p (by omega) j]
    by_cases c2 : q < en
    · rw [e3 q k c2]
      rcases hr with hr | hr | hr
      · omega
      · omega
      · rw [cross (en - 1) st (by omega) (by omega) (by omega) (by omega)] at hr
        exact le_trans (srt_le hs2 (by omega) (show p + (m - st) ≤ en - 1 by omega) (by omega)) (le_trans (le_of hr) (srt_le hs1 (by omega) (show st ≤ q - (en - m) by omega) (by omega)))
    · rw [e4 q (by omega)]; exact srt_le hs2 (by omega) (by omega) l
/-- Both halves sorted, the whole is. -/
theorem halves_whole {a b mid : Nat} {d1 d2 d3 : Array Rec} (h1 : a ≤ mid) (h2 : mid ≤ b) (hb : b ≤ d1.size) (hx : ∀ p q, a ≤ p → p < mid → mid ≤ q → q < b → tl d1[q]! d1[p]! = false)
    (p2 : PermIn a mid d1 d2) (s2 : SortedIn tl a mid d2) (p3 : PermIn mid b d2 d3) (s3 : SortedIn tl mid b d3) : PermIn a b d1 d3 ∧ SortedIn tl a b d3 := by
  have z2 : d2.size = d1.size := p2.1
  have z3 : d3.size = d2.size := p3.1
  have lo : ∀ t, t < mid → d3[t]! = d2[t]! := fun t h => p3.2.1 t (.inl h)
  have x2 : ∀ p, a ≤ p → p < mid → ∀ q, mid ≤ q → q < b → tl d2[q]! d2[p]! = false := fun p hp hpm q hq hqb => by
    rw [p2.2.1 q (.inr hq)]
    exact permIn_all d1 d2 a mid (fun x => tl d1[q]! x = false) (by omega) p2 (fun t i j => hx t q i j hq hqb) p hp hpm
  refine ⟨permIn_trans _ _ _ a b (permIn_mono d1 d2 a mid a b (Nat.le_refl _) h2 (by omega) p2) (permIn_mono d2 d3 mid b a b h1 (Nat.le_refl _) (by omega) p3), fun p q i j k => ?_⟩
  by_cases c : q < mid
  · rw [lo p (by omega), lo q c]; exact s2 p q i j c
  · by_cases c2 : p < mid
    · rw [lo p c2]
      exact permIn_all d2 d3 mid b (fun x => tl x d2[p]! = false) (by omega) p3 (fun t i' j' => x2 p i c2 t i' j') q (by omega) k
    · exact s3 p q (by omega) j k

/-! The insertion sort of a block whose places ascend -/
theorem insInner_perm (a b : Nat) : ∀ (j : Nat) (d : Array Rec), a ≤ j → j < b → b ≤ d.size → PermIn a b d (insInner tl a j d)
  | 0, d, _, _, _ => by unfold insInner; exact permIn_refl d a b
  | j + 1, d, h1, h2, h3 => by
    unfold insInner
    split
    · rename_i hc
      simp only [Bool.and_eq_true, decide_eq_true_eq] at hc
      exact permIn_trans _ _ _ a b (swp_permIn d a b (j + 1) j h1 h2 (by omega) (by omega) h3) (insInner_perm a b j _ (by omega) (by omega) (by rw [swp_size]; exact h3))
    · exact permIn_refl d a b
theorem insInner_eq (a : Nat) : ∀ (j : Nat) (d : Array Rec), j < d.size → (∀ p, a ≤ p → p < j → d[p]!.2.2 < d[j]!.2.2) → insInner lt a j d = insInner tl a j d
  | 0, d, _, _ => by unfold insInner; rfl
  | j + 1, d, hj, h => by
    unfold insInner
    by_cases c : j + 1 > a
    · rw [lt_tl (h j (by omega) (by omega))]
      split
      · refine insInner_eq a j _ (by rw [swp_size]; omega) fun p hp hpj => ?_
        have s := swp_at d (i := j + 1) (j := j) hj (by omega)
        rw [s, s, if_neg (by omega), if_neg (by omega), if_pos rfl]
        exact h p hp (by omega)
      · rfl
    · rw [decide_eq_false c, Bool.false_and, Bool.false_and]; rfl
theorem insOuter_eq (a b : Nat) : ∀ (n i : Nat) (d : Array Rec), b - i = n → a < i → b ≤ d.size → (∀ p q, a ≤ p → p < q → i ≤ q → q < b → d[p]!.2.2 < d[q]!.2.2) → insOuter lt a b i d = insOuter tl a b i d
  | 0, i, d, hn, _, _, _ => by rw [insOuter, insOuter.eq_def tl, if_neg (by omega), if_neg (by omega)]
  | n + 1, i, d, hn, hi, hb, h => by
    rw [insOuter, insOuter.eq_def tl, if_pos (by omega), if_pos (by omega), insInner_eq a i d (by omega) fun p hp hpi => h p i hp hpi (Nat.le_refl _) (by omega)]
    have hP := insInner_perm a (i + 1) i d (by omega) (by omega) (by omega)
    refine insOuter_eq a b n (i + 1) _ (by omega) (by omega) (by rw [hP.1]; exact hb) fun p q h1 h2 h3 h4 => ?_
    rw [hP.2.1 q (.inr h3)]
    by_cases c : p < i + 1
    · exact permIn_all d _ a (i + 1) (fun x => x.2.2 < d[q]!.2.2) (by omega) hP (fun t k l => h t q k (by omega) (by omega) h4) p h1 c
    · rw [hP.2.1 p (.inr (by omega))]; exact h p q h1 h2 (by omega) h4
theorem ins_sorted {a b : Nat} {d : Array Rec} (hab : a ≤ b) (hb : b ≤ d.size) (h : ∀ p q, a ≤ p → p < q → q < b → d[p]!.2.2 < d[q]!.2.2) :
    PermIn a b d (insertionSort lt d a b) ∧ SortedIn tl a b (insertionSort lt d a b) := by
  have e : insertionSort lt d a b = insertionSort tl d a b := by
    unfold insertionSort
    exact insOuter_eq a b (b - (a + 1)) (a + 1) d rfl (by omega) hb fun p q h1 h2 _ h4 => h p q h1 h2 h4
  rw [e]
  exact insertionSort_holds tl_swo d a b hab hb
end Sy
/-
  Of a table's records the first usable one in a row sorted by ranks is the one that is taken (layer 11), with nothing of the program. No conditions beyond those stated.
-/
namespace Sy
/-- Of two in the row the later one is never ahead. -/
def Ord (l : List Rec) : Prop := ∀ (i j : Nat) (x y : Rec), i < j → l[i]? = some x → l[j]? = some y → tl y x = false
end Sy
namespace Cm
open Bn He Ch
/-- The first k records, each with its place. -/
def recsTo (s : List UInt8) (k : Nat) : List Sy.Rec := (List.range k).map fun i => ((good s i : Int), offAt s i, i)
theorem recsTo_step (s : List UInt8) (k : Nat) : recsTo s (k + 1) = recsTo s k ++ [((good s k : Int), offAt s k, k)] := by
  unfold recsTo
  rw [List.range_succ, List.map_append]; rfl
theorem recsTo_len (s : List UInt8) (k : Nat) : (recsTo s k).length = k := by unfold recsTo; simp
theorem recsTo_place {s : List UInt8} {k i : Nat} {x : Sy.Rec} (h : (recsTo s k)[i]? = some x) : x.2.2 = i := by
  unfold recsTo at h
  rw [List.getElem?_map] at h
  obtain ⟨j, hj, rfl⟩ := Option.map_eq_some_iff.1 h
  exact (by simpa using (List.getElem?_eq_some_iff.1 hj).2.symm)
theorem recsTo_mem {s : List UInt8} {k : Nat} {x : Sy.Rec} (h : x ∈ recsTo s k) : ∃ i, i < k ∧ x = ((good s i : Int), offAt s i, i) := by
  unfold recsTo at h
  obtain ⟨i, hi, rfl⟩ := List.mem_map.1 h
  exact ⟨i, List.mem_range.1 hi, rfl⟩
/-- A record of this rank that stands here is one that can be taken. -/
def use (s : List UInt8) (r o : Int) : Bool := decide (r ≠ 0) && decide (o + 2 ≤ s.length) && fmt (fld s o.toNat 2)
theorem can_use (s : List UInt8) (i b : Nat) : can s i b = true ↔ b < good s i ∧ use s (good s i) (offAt s i) = true := by
  unfold can use
  simp only [Bool.and_eq_true, decide_eq_true_eq]
  constructor
  · rintro ⟨⟨h1, h2⟩, h3⟩
    exact ⟨h1, ⟨by omega, h2⟩, h3⟩
  · rintro ⟨h1, ⟨_, h2⟩, h3⟩
    exact ⟨⟨h1, h2⟩, h3⟩
theorem pick_spec (s : List UInt8) : ∀ n, (∃ j, j < n ∧ use s (good s j) (offAt s j) = true ∧ pick s n = (good s j, offAt s j) ∧ ∀ i, i < n → use s (good s i) (offAt s i) = true → good s i < good s j ∨ (good s i = good s j ∧ j ≤ i)) ∨
    (pick s n = (0, 0) ∧ ∀ i, i < n → use s (good s i) (offAt s i) = false)
  | 0 => .inr ⟨rfl, fun i h => by omega⟩
  | n + 1 => by
    rw [pick_step]
    by_cases c : can s n (pick s n).1 = true
    · rw [if_pos c]
      obtain ⟨c1, c2⟩ := (can_use s n _).1 c
      refine .inl ⟨n, by omega, c2, rfl, fun i hi hu => ?_⟩
      rcases pick_spec s n with ⟨j, hj, hu', hp, hm⟩ | ⟨hp, hm⟩
      · rw [hp] at c1
        by_cases e : i = n
        · subst e; exact .inr ⟨rfl, Nat.le_refl _⟩
        · rcases hm i (by omega) hu with h | h
          · left; dsimp only at c1; omega
          · left; dsimp only at c1; omega
      · by_cases e : i = n
        · subst e; exact .inr ⟨rfl, Nat.le_refl _⟩
        · rw [hm i (by omega)] at hu; cases hu
    · rw [if_neg c]
      have c3 : use s (good s n) (offAt s n) = true → good s n ≤ (pick s n).1 := fun hu => by
        rcases Nat.lt_or_ge (pick s n).1 (good s n) with h | h
        · exact absurd ((can_use s n _).2 ⟨h, hu⟩) c
        · exact h
      rcases pick_spec s n with ⟨j, hj, hu', hp, hm⟩ | ⟨hp, hm⟩
      · refine .inl ⟨j, by omega, hu', hp, fun i hi hu => ?_⟩
        by_cases e : i = n
        · subst e
          have := c3 hu
          rw [hp] at this
          dsimp only at this
          omega
        · exact hm i (by omega) hu
      · refine .inr ⟨hp, fun i hi => ?_⟩
        by_cases e : i = n
        · subst e
          cases hu : use s (good s i) (offAt s i) with
          | false => rfl
          | true =>
            have h1 := c3 hu
            rw [hp] at h1
            dsimp only at h1
            unfold use at hu
            simp only [Bool.and_eq_true, decide_eq_true_eq] at hu
            omega
        · exact hm i (by omega)
/-- The first one in the sorted row that can be taken is taken. -/
theorem pick_first {s : List UInt8} {n k : Nat} {l : List Sy.Rec} {x : Sy.Rec} (hp : l.Perm (recsTo s n)) (ho : Sy.Ord l) (hx : l[k]? = some x) (hu : use s x.1 x.2.1 = true) (hb : ∀ (i : Nat) (y : Sy.Rec), i < k → l[i]? = some y → use s y.1 y.2.1 = false) :
    (pick s n).1 ≠ 0 ∧ (pick s n).2 = x.2.1 := by
  obtain ⟨j, hj, rfl⟩ := recsTo_mem (hp.mem_iff.1 (List.mem_of_getElem? hx))
  dsimp only at hu
  have hg : good s j ≠ 0 := by
    unfold use at hu
    simp only [Bool.and_eq_true, decide_eq_true_eq] at hu
    omega
  rcases pick_spec s n with ⟨m, hm, hum, hpm, hmm⟩ | ⟨_, hm⟩
  · have h0 : ((good s m : Int), offAt s m, m) ∈ recsTo s n := List.mem_map.2 ⟨m, List.mem_range.2 hm, rfl⟩
    obtain ⟨k0, hk0⟩ := List.getElem?_of_mem (hp.mem_iff.2 h0)
    have hjm := hmm j hj hu
    have e : j = m := by
      rcases Nat.lt_trichotomy k0 k with h | h | h
      · rw [hb k0 _ h hk0] at hum; cases hum
      · subst h
        rw [hx] at hk0
        injection hk0 with hk0
        injection hk0 with _ hk0
        injection hk0
      · have := ho k k0 _ _ h hx hk0
        rw [Sy.tl_no] at this
        dsimp only at this
        omega
    subst e
    rw [hpm]
    exact ⟨hg, rfl⟩
  · rw [hm j hj] at hu; cases hu
theorem pick_never {s : List UInt8} {n : Nat} {l : List Sy.Rec} (hp : l.Perm (recsTo s n)) (hb : ∀ (i : Nat) (y : Sy.Rec), l[i]? = some y → use s y.1 y.2.1 = false) : (pick s n).1 = 0 := by
  rcases pick_spec s n with ⟨m, hm, hum, _, _⟩ | ⟨h, _⟩
  · obtain ⟨k0, hk0⟩ := List.getElem?_of_mem (hp.mem_iff.2 (List.mem_map.2 ⟨m, List.mem_range.2 hm, rfl⟩))
    have := hb k0 _ hk0
    dsimp only at this
    rw [this] at hum; cases hum
  · rw [h]
end Cm
/-
  The contract of the library's exchange of two runs of records (slices.swapRangeCmpFunc at cmap.record). No conditions beyond those stated.
-/
namespace Go.Proofs.YtppihpjcdieeoaaGreatDoor
open Go.RowKit Go.Shelf Go.Lib Go.Sort

/-- A record's cells. -/
def encCm (x : Sy.Rec) : List Value := [.int .i64 x.1, .int .i64 x.2.1]
theorem encCm_len (x : Sy.Rec) : (encCm x).length = 2 := rfl
theorem encCm_one (x : Sy.Rec) : ∀ v ∈ encCm x, v.oneCell' = true := by
  intro v hv
  simp only [encCm, List.mem_cons, List.not_mem_nil, or_false] at hv
  rcases hv with rfl | rfl <;> rfl

/-- The two cells of a record in a row that is sorted; none is frozen. -/
theorem swk_at {blk off : Nat} {d0 dk : Array Sy.Rec} {w0 W : World} (h : SWK encCm 2 w0 blk off dk W) (R : _root_.Go.Proofs.RowK encCm 2 w0 blk off d0) (hs : dk.size = d0.size) {i : Nat} (hi : i < dk.size) :
    (W.cell? ⟨blk, off + i * 2, none⟩ = some (.int .i64 dk[i]!.1) ∧ W.cell? ⟨blk, off + i * 2 + 1, none⟩ = some (.int .i64 dk[i]!.2.1)) ∧ W.frozen? ⟨blk, off + i * 2, none⟩ = false ∧ W.frozen? ⟨blk, off + i * 2 + 1, none⟩ = false := by
  have H := h.holds R.hblk R.hH hs
  have hc := fun c (hc : c < 2) => H.cell (enc := encCm) (k := 2) hi hc
  have h0 := hc 0 (by omega)
  have h1 := hc 1 (by omega)
  exact ⟨⟨h0.1, h1.1⟩, h0.2, h1.2⟩
theorem swk_swap {blk off : Nat} {d0 dk : Array Sy.Rec} {w0 W : World} (h : SWK encCm 2 w0 blk off dk W) (R : _root_.Go.Proofs.RowK encCm 2 w0 blk off d0) (i j : Nat) (hi : i < dk.size) (hj : j < dk.size) :
    SWK encCm 2 w0 blk off (swp dk i j) ((((W.drew.setCell ⟨blk, off + i * 2, none⟩ (.int .i64 dk[j]!.1)).setCell ⟨blk, off + i * 2 + 1, none⟩ (.int .i64 dk[j]!.2.1)).setCell ⟨blk, off + j * 2, none⟩ (.int .i64 dk[i]!.1)).setCell ⟨blk, off + j * 2 + 1, none⟩ (.int .i64 dk[i]!.2.1)) :=
  h.swapped R i j hi hj

set_option maxHeartbeats 800000 in
set_option maxRecDepth 100000 in
theorem swapRange_any (g : Nat) (cb : Array Value) (blk off cap N a b n : Nat) (d0 d : Array Sy.Rec) (w0 w : World)
    (R : _root_.Go.Proofs.RowK encCm 2 w0 blk off d0) (hs : d0.size = N) (hN : d.size = N) (S : SWK encCm 2 w0 blk off d w) (h1 : a + n ≤ b) (h2 : b + n ≤ N) (hsz : N < 4611686018427387904) :
    Calls Tryz.prog 155 #[.slice (some ⟨blk, off, none⟩) N cap, .int .i64 a, .int .i64 b, .int .i64 n, .func (.func g) #[] cb] w fun e w' => e = .returned (.tuple #[]) ∧ SWK encCm 2 w0 blk off (Sy.swapR a b 0 n d) w' := by
  have mixed : Tryz.prog.follows .mixedOrders = true := by kernel_rfl
  have S0 : Aside (SWK encCm 2 w0 blk off d w) := S
  clear S
  go_enter Tryz.func155, Tryz.ntmps155
  go_wp2_with fail
  go_loopg [10] (n) (fun kx s10 wr => ∃ (i : Nat) (dk : Array Sy.Rec), s10 = .int .i64 i ∧ i + kx = n ∧ dk.size = N ∧ Aside (SWK encCm 2 w0 blk off dk wr) ∧ Sy.swapR a b i kx dk = Sy.swapR a b 0 n d)
  case atStart => exact ⟨0, d, rfl, by omega, hN, S0, rfl⟩
  case round =>
    clear S0
    obtain ⟨i, dk, rfl, hik, hds, S1, heq⟩ := hrel
    by_cases hlt : i < n
    · obtain ⟨ky, rfl⟩ : ∃ ky, gk = ky + 1 := ⟨gk - 1, by omega⟩
      go_wp2_with fail
      have ea : ((a : Int) + (i : Int)).toNat = a + i := by omega
      have pa : (0 : Int) ≤ (a : Int) + (i : Int) := by omega
      have ba : (a : Int) + (i : Int) < (N : Int) := by omega
      have ra : IntKind.i64.wrap ((a : Int) + (i : Int)) = (a : Int) + (i : Int) := by rw [IntKind.wrap_i64]; omega
      have eb : ((b : Int) + (i : Int)).toNat = b + i := by omega
      have pb : (0 : Int) ≤ (b : Int) + (i : Int) := by omega
      have bb : (b : Int) + (i : Int) < (N : Int) := by omega
      have rb : IntKind.i64.wrap ((b : Int) + (i : Int)) = (b : Int) + (i : Int) := by rw [IntKind.wrap_i64]; omega
      have S2 : Aside (SWK encCm 2 w0 blk off (swp dk (a + i) (b + i)) _) := swk_swap S1.out R (a + i) (b + i) (by omega) (by omega)
      obtain ⟨⟨la, lb⟩, fa, fb⟩ := swk_at S1.out R (by omega) (i := a + i) (by omega)
      obtain ⟨⟨lc, ld⟩, fc, fd⟩ := swk_at S1.out R (by omega) (i := b + i) (by omega)
      generalize dk[a + i]! = cI at S2 la lb
      generalize dk[b + i]! = cJ at S2 lc ld
      obtain ⟨x1, x2, x3⟩ := cI
      obtain ⟨y1, y2, y3⟩ := cJ
      dsimp only at S2 la lb lc ld
      clear S1
      go_wp2_with fail
      go_big_region_o
      clear la lb lc ld fa fb fc fd
      go_wp2
      go_roundg ky
      case measure => omega
      case rel => exact ⟨i + 1, swp dk (a + i) (b + i), by go_num, by omega, by rw [size_swp]; exact hds, S2, heq⟩
    · obtain rfl : gk = 0 := by omega
      go_wp2
      go_end0
      refine ⟨rfl, ?_⟩
      rw [← heq]
      exact S1.out
end Go.Proofs.YtppihpjcdieeoaaGreatDoor
/-
  append of one struct at a step of a region that draws; a region of a class of worlds. Nothing of the program. No conditions beyond those stated.
-/
namespace Go.Proofs.YtppihpjcdieeoaaGreatDoor
open Go.RowKit
variable {α : Type}

theorem step_appK {enc : α → List Value} {w : World} {ops : Array Oper} {o : Oper} {a : Act} {K : Act → World → Prop} {Q : Exit → Act → World → Prop} {E : Prop} (hgd : o.guard = none) (s x : Operand) (t : TypeId)
    (ho : o.op = .call { callee := .builtin .append, args := #[s, x], argTypes := #[t, t] })
    (e : TypeId) (k bytes : Nat) (z : Value) (hu : Tryz.prog.underlying t = some (.slice e)) (hinfo : (Tryz.prog.info? e).map (fun i => (i.zero, i.size, i.bytes)) = some (some z, k, bytes)) (hzl : z.cells.size = k) (hby : bytes ≤ 100000) (hk0 : 0 < k)
    (hk : ∀ x, (enc x).length = k) (h1c : ∀ x, ∀ u ∈ enc x, u.oneCell' = true)
    (base : Nat) (v : Value) (xs : List α) (hs : a.eval s = v) (hown : OwnK enc e k w base v xs) (b : Nat) (y : α) (hx : a.eval x = .slice (some ⟨b, 0, none⟩) 1 1) (hr : ∀ j u, (enc y)[j]? = some u → w.cell? ⟨b, j, none⟩ = some u)
    (hlen : xs.length + 1 ≤ 1000000) (hbase : base ≤ w.heap.size)
    (h : ∀ p c w', OwnK enc e k w' base (.slice p (xs.length + 1) c) (xs ++ [y]) → (∀ w0, Lo w0 w → w0.heap.size ≤ base → Lo w0 w') → K (a.put o.dst (.slice p (xs.length + 1) c)) w') :
    if Region.wanted o (yielded ops a.tmps) = true then Oper.wp Tryz.prog o a w K Q else E := by
  obtain ⟨i0, hi0, hz0, hz1, hz2⟩ := info_parts hinfo
  have hbb : (xs.length + 1) * bytes ≤ 1000000 * 100000 := Nat.mul_le_mul hlen hby
  refine step_append_lies w hgd s x t ho base e i0 z k bytes hu hi0 hz0 hz1 hz2 hzl hk0 v xs.length _ hs hown ⟨b, 0, .none⟩ 1 1 (enc y) hx (by rw [hk]; omega) ?_ (h1c y) (by omega) (by unfold maxLen; omega) (by omega) hbase _ rfl ?_
  · intro j u hj
    have e1 : (⟨b, 0, none⟩ : Addr).add j = ⟨b, j, none⟩ := by unfold Addr.add; split <;> simp_all
    rw [e1]
    exact hr j u hj
  · intro g cap w' hown' hg _ _
    have hown2 : OwnK enc e k w' base (.slice (some ⟨g, 0, none⟩) (xs.length + 1) cap) (xs ++ [y]) := by
      unfold OwnK
      rw [List.length_append, List.flatMap_append]
      simpa using hown'
    refine h _ _ w' hown2 ?_
    intro w0 hlo hb0
    exact Below.grown hlo hg hlo.size (fun k hk => by have := (World.ownsRow.lt hown k hk).1; omega)
end Go.Proofs.YtppihpjcdieeoaaGreatDoor

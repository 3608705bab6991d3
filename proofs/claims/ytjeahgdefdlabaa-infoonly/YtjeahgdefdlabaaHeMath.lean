/-
  Plain functions on bytes (layer 5, head), with nothing of the program: what three tables tell, got and put; facts on them. No conditions beyond those stated.
-/
import Derived.Test.YtjeahgdefdlabaaBnSums
namespace He
open Bn

structure Head where
  upem : Int
  glyphs : Int
  metrics : Int
  asc : Int
  desc : Int
  long : Bool
def zero : Head := ⟨0, 0, 0, 0, 0, false⟩
def short (n : Int) : Bool := decide (-32768 ≤ n) && decide (n ≤ 32767)
def isHead (h : Head) : Bool :=
  decide (16 ≤ h.upem) && decide (h.upem ≤ 16384) && decide (1 ≤ h.glyphs) && decide (h.glyphs ≤ 65535) && decide (1 ≤ h.metrics) && decide (h.metrics ≤ h.glyphs) && short h.asc && short h.desc
theorem isHead_iff (h : Head) : isHead h = true ↔ (16 ≤ h.upem ∧ h.upem ≤ 16384) ∧ (1 ≤ h.glyphs ∧ h.glyphs ≤ 65535) ∧ (1 ≤ h.metrics ∧ h.metrics ≤ h.glyphs) ∧ (-32768 ≤ h.asc ∧ h.asc ≤ 32767) ∧ (-32768 ≤ h.desc ∧ h.desc ≤ 32767) := by
  unfold isHead short
  simp only [Bool.and_eq_true, decide_eq_true_eq, and_assoc]
/-- The number of a size at a place. -/
def fld (s : List UInt8) (pos : Nat) (size : Int) : Int := one ((s.drop pos).take size.natAbs) size
def read (a b c : List UInt8) : Head := ⟨fld a 18 2, fld b 4 2, fld c 34 2, fld c 4 (-2), fld c 6 (-2), decide (fld a 50 (-2) = 1)⟩
def get (a b c : List UInt8) : Head × Int :=
  if a.length < 54 ∨ b.length < 6 ∨ c.length < 36 then (zero, 4)
  else if fld a 12 4 ≠ 1594834165 ∨ fld a 50 (-2) < 0 ∨ 1 < fld a 50 (-2) then (zero, 5)
  else if isHead (read a b c) = false then (zero, 5)
  else (read a b c, 0)
def nts (n : Nat) : List UInt8 := List.replicate n 0
def longN (h : Head) : Int := if h.long = true then 1 else 0
def putA (h : Head) : List UInt8 := nts 12 ++ bytes 1594834165 4 ++ nts 2 ++ bytes h.upem 2 ++ nts 30 ++ bytes (longN h) 2 ++ nts 2
def putB (h : Head) : List UInt8 := nts 4 ++ bytes h.glyphs 2
def putC (h : Head) : List UInt8 := nts 4 ++ bytes h.asc 2 ++ bytes h.desc 2 ++ nts 26 ++ bytes h.metrics 2
def put (h : Head) : List UInt8 × List UInt8 × List UInt8 × Int := if isHead h = false then ([], [], [], 1) else (putA h, putB h, putC h, 0)

theorem nts_len (n : Nat) : (nts n).length = n := by simp [nts]
theorem fld_at {s : List UInt8} (a b : List UInt8) (v size : Int) (pos : Nat) (hs : s = a ++ bytes v size.natAbs ++ b) (hp : a.length = pos) (hz : isSize size = true) (hf : fits v size = true) : fld s pos size = v := by
  subst hp
  unfold fld
  rw [hs, List.append_assoc, List.drop_left]
  have e : (bytes v size.natAbs ++ b).take size.natAbs = bytes v size.natAbs := by
    have := List.take_left (l₁ := bytes v size.natAbs) (l₂ := b)
    rwa [bytes_len] at this
  rw [e, one_bytes v size hz hf]
theorem fits2 {v : Int} (h0 : 0 ≤ v) (h1 : v ≤ 65535) : fits v 2 = true := by
  unfold fits; rw [if_neg (by omega)]; simp; omega
theorem fits2s {v : Int} (h0 : -32768 ≤ v) (h1 : v ≤ 32767) : fits v (-2) = true := by
  unfold fits; rw [if_pos (by omega)]; simp; omega
theorem longN_le (h : Head) : 0 ≤ longN h ∧ longN h ≤ 1 := by unfold longN; cases h.long <;> simp

theorem putA_len (h : Head) : (putA h).length = 54 := by simp [putA, nts_len, bytes_len]
theorem putB_len (h : Head) : (putB h).length = 6 := by simp [putB, nts_len, bytes_len]
theorem putC_len (h : Head) : (putC h).length = 36 := by simp [putC, nts_len, bytes_len]
/-- What is put is got, whatever stands behind. -/
theorem get_more (h : Head) (hh : isHead h = true) (m1 m2 m3 : List UInt8) : get (putA h ++ m1) (putB h ++ m2) (putC h ++ m3) = (h, 0) := by
  obtain ⟨⟨a1, a2⟩, ⟨b1, b2⟩, ⟨c1, c2⟩, ⟨d1, d2⟩, ⟨e1, e2⟩⟩ := (isHead_iff h).1 hh
  obtain ⟨l1, l2⟩ := longN_le h
  have fm : fld (putA h ++ m1) 12 4 = 1594834165 := fld_at (nts 12) (nts 2 ++ bytes h.upem 2 ++ nts 30 ++ bytes (longN h) 2 ++ nts 2 ++ m1) _ 4 12 (by simp only [putA, List.append_assoc]; rfl) (nts_len _) (by decide) (by decide)
  have fu : fld (putA h ++ m1) 18 2 = h.upem := fld_at (nts 12 ++ bytes 1594834165 4 ++ nts 2) (nts 30 ++ bytes (longN h) 2 ++ nts 2 ++ m1) _ 2 18 (by simp only [putA, List.append_assoc]; rfl) (by simp [nts_len, bytes_len]) (by decide) (fits2 (by omega) (by omega))
  have fl : fld (putA h ++ m1) 50 (-2) = longN h := fld_at (nts 12 ++ bytes 1594834165 4 ++ nts 2 ++ bytes h.upem 2 ++ nts 30) (nts 2 ++ m1) _ (-2) 50 (by simp only [putA, List.append_assoc]; rfl) (by simp [nts_len, bytes_len]) (by decide) (fits2s (by omega) (by omega))
  have fg : fld (putB h ++ m2) 4 2 = h.glyphs := fld_at (nts 4) m2 _ 2 4 (by simp only [putB, List.append_assoc]; rfl) (nts_len _) (by decide) (fits2 (by omega) (by omega))
  have fa : fld (putC h ++ m3) 4 (-2) = h.asc := fld_at (nts 4) (bytes h.desc 2 ++ nts 26 ++ bytes h.metrics 2 ++ m3) _ (-2) 4 (by simp only [putC, List.append_assoc]; rfl) (nts_len _) (by decide) (fits2s (by omega) (by omega))
  have fd : fld (putC h ++ m3) 6 (-2) = h.desc := fld_at (nts 4 ++ bytes h.asc 2) (nts 26 ++ bytes h.metrics 2 ++ m3) _ (-2) 6 (by simp only [putC, List.append_assoc]; rfl) (by simp [nts_len, bytes_len]) (by decide) (fits2s (by omega) (by omega))
  have fn : fld (putC h ++ m3) 34 2 = h.metrics := fld_at (nts 4 ++ bytes h.asc 2 ++ bytes h.desc 2 ++ nts 26) m3 _ 2 34 (by simp only [putC, List.append_assoc]; rfl) (by simp [nts_len, bytes_len]) (by decide) (fits2 (by omega) (by omega))
  have hr : read (putA h ++ m1) (putB h ++ m2) (putC h ++ m3) = h := by
    unfold read
    rw [fu, fg, fn, fa, fd, fl]
    cases h with
    | mk u g m a d l => cases l <;> simp [longN]
  unfold get
  rw [hr, fm, fl, hh, if_neg (by simp only [List.length_append, putA_len, putB_len, putC_len]; omega), if_neg (by omega), if_neg (by simp)]
theorem get_put (h : Head) (hh : isHead h = true) : get (putA h) (putB h) (putC h) = (h, 0) := by
  have := get_more h hh [] [] []
  simpa using this
theorem get_ok {a b c : List UInt8} (h : (get a b c).2 = 0) : isHead (get a b c).1 = true := by
  unfold get at *
  by_cases c1 : a.length < 54 ∨ b.length < 6 ∨ c.length < 36
  · rw [if_pos c1] at h; cases h
  · rw [if_neg c1] at h ⊢
    by_cases c2 : fld a 12 4 ≠ 1594834165 ∨ fld a 50 (-2) < 0 ∨ 1 < fld a 50 (-2)
    · rw [if_pos c2] at h; cases h
    · rw [if_neg c2] at h ⊢
      by_cases c3 : isHead (read a b c) = false
      · rw [if_pos c3] at h; cases h
      · rw [if_neg c3]; simpa using c3
theorem get_none {a b c : List UInt8} (h : (get a b c).2 ≠ 0) : (get a b c).1 = zero := by
  unfold get at *
  by_cases c1 : a.length < 54 ∨ b.length < 6 ∨ c.length < 36
  · rw [if_pos c1]
  · rw [if_neg c1] at h ⊢
    by_cases c2 : fld a 12 4 ≠ 1594834165 ∨ fld a 50 (-2) < 0 ∨ 1 < fld a 50 (-2)
    · rw [if_pos c2]
    · rw [if_neg c2] at h ⊢
      by_cases c3 : isHead (read a b c) = false
      · rw [if_pos c3]
      · rw [if_neg c3] at h; exact absurd rfl h
theorem fld_set {s : List UInt8} {p pos : Nat} {size : Int} {x : UInt8} (h : p < pos ∨ pos + size.natAbs ≤ p) : fld (s.set p x) pos size = fld s pos size := by
  unfold fld
  rcases h with h | h
  · rw [List.drop_set_of_lt h]
  · rw [List.drop_set, if_neg (by omega), List.take_set_of_le (by omega)]
/-- A byte that plays no part may be another one. -/
theorem get_set {a b c : List UInt8} {p : Nat} {x : UInt8} (h : ¬ (12 ≤ p ∧ p < 16 ∨ 18 ≤ p ∧ p < 20 ∨ 50 ≤ p ∧ p < 52)) : get (a.set p x) b c = get a b c := by
  have e1 : fld (a.set p x) 12 4 = fld a 12 4 := fld_set (by simp; omega)
  have e2 : fld (a.set p x) 18 2 = fld a 18 2 := fld_set (by simp; omega)
  have e3 : fld (a.set p x) 50 (-2) = fld a 50 (-2) := fld_set (by simp; omega)
  unfold get read
  rw [e1, e2, e3, List.length_set]
end He

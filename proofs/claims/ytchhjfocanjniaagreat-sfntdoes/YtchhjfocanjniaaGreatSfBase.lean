/-
  Contracts of package sfnt's small functions: isVersion, recordsEnd, paddedSize, isTag, allows, end, Find. No conditions beyond those stated.
-/
import Derived.Test.YtchhjfocanjniaaGreatGkCells
import Derived.Test.YtchhjfocanjniaaGreatBnPut
import Derived.Test.YtchhjfocanjniaaGreatBnSumW
import Derived.Test.YtchhjfocanjniaaGreatSfFacts3
import Derived.Sort.Walk0
namespace Sf
theorem find_snoc (l : List Tab) (x : Tab) (t : List UInt8) : find (l ++ [x]) t = if (find l t).2 = true then find l t else if x.1 = t then (x.2, true) else ([], false) := by
  unfold find
  rw [List.find?_append]
  cases h : l.find? fun x => decide (x.1 = t) with
  | some y => simp
  | none =>
    by_cases hx : x.1 = t
    · simp [hx]
    · simp [hx]
theorem find_none (l : List Tab) (t : List UInt8) (h : (find l t).2 = false) : find l t = ([], false) := by
  unfold find at *
  cases e : l.find? fun x => decide (x.1 = t) with
  | some y => rw [e] at h; cases h
  | none => rfl
theorem find_take {l : List Tab} {k : Nat} {x : Tab} (t : List UInt8) (h : l[k]? = some x) (hn : find (l.take k) t = ([], false)) (hx : x.1 = t) : find l t = (x.2, true) := by
  have hk : k < l.length := (List.getElem?_eq_some_iff.1 h).1
  have hl : l = l.take k ++ x :: l.drop (k + 1) := by
    have := List.getElem?_eq_some_iff.1 h
    rw [← this.2]
    simp
  have hn2 : (l.take k).find? (fun x => decide (x.1 = t)) = none := by
    unfold find at hn
    cases e : (l.take k).find? fun x => decide (x.1 = t) with
    | some y => rw [e] at hn; simp at hn
    | none => rfl
  unfold find
  rw [hl, List.find?_append, hn2]
  simp [hx]
theorem take_snocT {α : Type} {l : List α} {k : Nat} {x : α} (h : l[k]? = some x) : l.take (k + 1) = l.take k ++ [x] := by
  obtain ⟨hk, rfl⟩ := List.getElem?_eq_some_iff.1 h
  rw [List.take_succ_eq_append_getElem hk]
theorem some_at {α : Type} {l : List α} {k : Nat} (h : k < l.length) : ∃ x, l[k]? = some x := ⟨_, List.getElem?_eq_getElem h⟩
theorem toList_mk (l : List UInt8) : (⟨l.toArray⟩ : ByteArray).toList = l := by rw [Go.Lib.toList_data]
theorem le_mk (a b : List UInt8) : (Go.Op.bytesLess a b || a == b) = !less b a := by
  rw [Go.Proofs.bytesLess_eq]
  unfold less
  rw [Bool.eq_iff_iff]
  simp only [Bool.or_eq_true, decide_eq_true_eq, beq_iff_eq, Bool.not_eq_true', decide_eq_false_iff_not]
  constructor
  · rintro (h | rfl)
    · exact fun h2 => List.lt_irrefl a (List.lt_trans h h2)
    · exact fun h2 => List.lt_irrefl a h2
  · intro h
    rcases List.le_iff_lt_or_eq.1 (List.not_lt.1 h) with h | h
    · exact .inl h
    · exact .inr h
theorem tag_fail {t : List UInt8} {k : Nat} (hk : k < t.length) (h : (t.getD k 0).toNat < 32 ∨ 126 < (t.getD k 0).toNat) : isTag t = false := by
  rw [Bool.eq_false_iff]
  intro hc
  unfold isTag at hc
  simp only [Bool.and_eq_true, List.all_eq_true, decide_eq_true_eq] at hc
  have := hc.2 _ (Gk.getD_mem t k hk)
  omega
theorem tag_done {t : List UInt8} (h : ∀ c ∈ t, 32 ≤ c.toNat ∧ c.toNat ≤ 126) : isTag t = decide (t.length = 4) := by
  unfold isTag
  rw [show (t.all fun c => decide (32 ≤ c.toNat) && decide (c.toNat ≤ 126)) = true by simpa [List.all_eq_true] using h, Bool.and_true]
end Sf
namespace Go.Proofs.YtchhjfocanjniaaGreat
open Go.RowKit

/-- A table's cells. -/
def encT (x : Sf.Tab) : List Value := [.string ⟨x.1.toArray⟩, .string ⟨x.2.toArray⟩]
/-- A table, as a value. -/
def aggT (x : Sf.Tab) : Value := .agg #[.string ⟨x.1.toArray⟩, .string ⟨x.2.toArray⟩]
theorem encT_len (x : Sf.Tab) : (encT x).length = 2 := rfl
abbrev TRow (w : World) (v : Value) (l : List Sf.Tab) : Prop := RowK encT 2 w v l
theorem TRow.at2 {w : World} {p : Option Addr} {n c : Nat} {l : List Sf.Tab} (h : TRow w (.slice p n c) l) {i : Nat} {x : Sf.Tab} (hx : l[i]? = some x) :
    ∃ b off, p = some ⟨b, off, none⟩ ∧ w.cell? ⟨b, off + i * 2, none⟩ = some (.string ⟨x.1.toArray⟩) ∧ w.cell? ⟨b, off + i * 2 + 1, none⟩ = some (.string ⟨x.2.toArray⟩) := by
  obtain ⟨b, off, h1, h2⟩ := RowK.at_ h hx
  exact ⟨b, off, h1, h2 0 (by omega), h2 1 (by omega)⟩

set_option maxHeartbeats 400000 in
theorem isVersion_any (n : Int) (w : World) : Calls Tryz.prog 22 #[.int .i64 n] w fun e w' => e = .returned (.bool (Sf.isVer n)) ∧ w = w' := by
  unfold Sf.isVer
  by_cases h1 : n = 65536
  · subst h1
    go_enter Tryz.func22, Tryz.ntmps22
    go_wp2_with fail
    go_ret
    exact ⟨ret_bool (by simp), rfl⟩
  · have hb : (n == 65536) = false := by simpa using h1
    by_cases h2 : n = 1330926671
    · subst h2
      go_enter Tryz.func22, Tryz.ntmps22
      go_wp2_with fail
      go_ret
      exact ⟨ret_bool (by simp), rfl⟩
    · have hb2 : (n == 1330926671) = false := by simpa using h2
      go_enter Tryz.func22, Tryz.ntmps22
      go_wp2_with fail
      go_ret
      exact ⟨ret_bool (by simp [h1, h2]), rfl⟩

set_option maxHeartbeats 400000 in
theorem recordsEnd_any (n : Nat) (w : World) (h : n ≤ 1000000) : Calls Tryz.prog 27 #[.int .i64 n] w fun e w' => e = .returned (.int .i64 (12 + 16 * n : Nat)) ∧ w = w' := by
  go_enter Tryz.func27, Tryz.ntmps27
  go_wp2_with fail
  go_ret
  exact ⟨ret_int (by omega), rfl⟩

set_option maxHeartbeats 400000 in
theorem paddedSize_any (x : Sf.Tab) (w : World) (h : x.2.length ≤ 4611686018427387904) : Calls Tryz.prog 29 #[aggT x] w fun e w' => e = .returned (.int .i64 (Bn.up x.2 4).length) ∧ Lo w w' := by
  have hu := Bn.up_len x.2 4
  generalize (Bn.up x.2 4).length = y at *
  obtain ⟨a, b⟩ := x
  unfold aggT
  simp only at *
  go_enter Tryz.func29, Tryz.ntmps29
  go_wp2_with fail
  go_ret
  exact ⟨ret_int (by omega), (Lo.refl w).alloc _⟩

set_option maxHeartbeats 400000 in
theorem allows_any (first off : Nat) (w : World) : Calls Tryz.prog 41 #[.agg #[.int .i64 first], .int .i64 off] w fun e w' => e = .returned (.bool (decide (off % 4 = 0) && decide (first ≤ off))) ∧ Lo w w' := by
  by_cases h1 : off % 4 = 0
  · have h1' : (off : Int) % 4 = 0 := by omega
    by_cases h2 : first ≤ off
    · go_enter Tryz.func41, Tryz.ntmps41
      go_wp2_with fail
      go_ret
      exact ⟨ret_bool (by simp [h1]; omega), (Lo.refl w).alloc _⟩
    · go_enter Tryz.func41, Tryz.ntmps41
      go_wp2_with fail
      go_ret
      exact ⟨ret_bool (by simp [h1]; omega), (Lo.refl w).alloc _⟩
  · have h1' : ((off : Int) % 4 == 0) = false := by simp; omega
    go_enter Tryz.func41, Tryz.ntmps41
    go_wp2_with fail
    go_ret
    exact ⟨ret_bool (by simp [h1]), (Lo.refl w).alloc _⟩

/-- A record: a table, and where it stands. -/
abbrev Rec := Sf.Tab × Nat
def aggR (r : Rec) : Value := .agg #[.string ⟨r.1.1.toArray⟩, .string ⟨r.1.2.toArray⟩, .int .i64 r.2]

set_option maxHeartbeats 400000 in
theorem end_any (r : Rec) (w : World) (h : r.1.2.length ≤ 4611686018427387904) (h2 : r.2 ≤ 4294967296) : Calls Tryz.prog 44 #[aggR r] w fun e w' => e = .returned (.int .i64 (r.2 + r.1.2.length : Nat)) ∧ Lo w w' := by
  obtain ⟨⟨a, b⟩, off⟩ := r
  unfold aggR
  simp only at *
  go_enter Tryz.func44, Tryz.ntmps44
  go_wp2_with fail
  go_ret
  exact ⟨ret_int (by omega), (Lo.refl w).alloc _⟩

set_option maxHeartbeats 400000 in
theorem isTag_any (l : List UInt8) (w : World) (hl : l.length ≤ 9223372036854775807) : Calls Tryz.prog 40 #[.string ⟨l.toArray⟩] w fun e w' => e = .returned (.bool (Sf.isTag l)) ∧ w = w' := by
  generalize hy : Sf.isTag l = y
  have HY := Lib.hid hy
  clear hy
  go_enter Tryz.func40, Tryz.ntmps40
  go_wp2_with fail
  go_loop [3, 6] (fun _ i => ∃ k : Nat, k ≤ l.length ∧ i = .int .i64 k ∧ Hid (∀ c ∈ l.take k, 32 ≤ c.toNat ∧ c.toNat ≤ 126)) (fun _ i => l.length - (intOf i).toNat)
  case atStart => exact ⟨0, Nat.zero_le _, rfl, Lib.hid (by simp)⟩
  case round =>
    obtain ⟨k, hk, rfl, HI⟩ := hrel
    by_cases hlt : k < l.length
    · have hc := ba_get l k
      have HF := Lib.hid (Sf.tag_fail hlt)
      have HT := Lib.hid (Gk.take_snoc l k hlt)
      generalize l.getD k 0 = c at *
      by_cases h1 : c.toNat < 32
      · have HE : Hid (y = false) := Lib.hid (by rw [← HY.out]; exact HF.out (.inl h1))
        go_wp2_with fail
        go_ret
        exact ⟨ret_bool HE.out.symm, rfl⟩
      · by_cases h2 : 126 < c.toNat
        · have HE : Hid (y = false) := Lib.hid (by rw [← HY.out]; exact HF.out (.inr h2))
          go_wp2_with fail
          go_ret
          exact ⟨ret_bool HE.out.symm, rfl⟩
        · go_wp2_with fail
          go_round
          case rel => exact ⟨k + 1, by omega, by go_num, Lib.hid (by
            rw [HT.out]
            intro d hd
            rcases List.mem_append.1 hd with hd | hd
            · exact HI.out d hd
            · simp only [List.mem_singleton] at hd; subst hd; omega)⟩
          case measure => simp [intOf]; omega
    · have HE : Hid (y = decide (l.length = 4)) := Lib.hid (by rw [← HY.out]; exact Sf.tag_done (by have := HI.out; rwa [List.take_of_length_le (by omega)] at this))
      by_cases h4 : l.length = 4
      · have h4b : ((l.length : Int) == 4) = true := by simp; omega
        have HD : Hid (y = true) := Lib.hid (by rw [HE.out]; simp [h4])
        clear h4
        go_wp2_with fail
        go_ret
        exact ⟨ret_bool HD.out.symm, rfl⟩
      · have h4b : ((l.length : Int) == 4) = false := by simp; omega
        have HD : Hid (y = false) := Lib.hid (by rw [HE.out]; simp [h4])
        clear h4
        go_wp2_with fail
        go_ret
        exact ⟨ret_bool HD.out.symm, rfl⟩

set_option maxHeartbeats 800000 in
theorem find_any (l : List Sf.Tab) (t : List UInt8) (v : Value) (w : World) (h : TRow w v l) : Calls Tryz.prog 9 #[v, .string ⟨t.toArray⟩] w fun e w' => e = .returned (.tuple #[.string ⟨(Sf.find l t).1.toArray⟩, .bool (Sf.find l t).2]) ∧ Lo w w' := by
  obtain ⟨p, c, rfl, hlen⟩ := h.form
  have HR := Lib.hid h
  generalize hy : Sf.find l t = y
  have HY := Lib.hid hy
  generalize hn : l.length = n at *
  have HN := Lib.hid hn
  clear hn h hy
  go_enter Tryz.func9, Tryz.ntmps9
  go_wp2_with fail
  go_loopw [7, 10] (fun _ i W => ∃ k : Nat, k ≤ n ∧ i = .int .i64 k ∧ Hid (Sf.find (l.take k) t = ([], false)) ∧ Hid (Lo w W)) (fun _ i _ => n - (intOf i).toNat)
  case atStart => exact ⟨0, Nat.zero_le _, rfl, Lib.hid rfl, Lib.hid (Lo.refl _)⟩
  case round =>
    obtain ⟨k, hk, rfl, HI, HL⟩ := hrel
    by_cases hlt : k < n
    · obtain ⟨x, hx⟩ := Sf.some_at (l := l) (k := k) (by rw [HN.out]; exact hlt)
      obtain ⟨b, off, rfl, hc1, hc2⟩ := TRow.at2 (HR.out.lo HL.out) hx
      have HX := Lib.hid hx
      clear hx
      by_cases h1 : x.1 = t
      · have HE : Hid (y = (x.2, true)) := Lib.hid (by rw [← HY.out]; exact Sf.find_take t HX.out HI.out h1)
        have heq : (x.1 == t) = true := by simpa using h1
        clear h1
        go_wp2_with fail
        go_ret2
        exact ⟨by rw [HE.out]; rfl, HL.out.alloc _⟩
      · have HE : Hid (Sf.find (l.take (k + 1)) t = ([], false)) := Lib.hid (by rw [Sf.take_snocT HX.out, Sf.find_snoc, HI.out]; simp [h1])
        have heq : (x.1 == t) = false := by simpa using h1
        clear h1
        go_wp2_with fail
        go_roundw
        case rel => exact ⟨k + 1, by omega, by go_num, HE, Lib.hid (HL.out.alloc _)⟩
        case measure => simp [intOf]; omega
    · have HE : Hid (y = ([], false)) := Lib.hid (by rw [← HY.out]; have := HI.out; rwa [List.take_of_length_le (by rw [HN.out]; omega)] at this)
      go_wp2_with fail
      go_ret2
      exact ⟨by rw [HE.out]; rfl, HL.out⟩
end Go.Proofs.YtchhjfocanjniaaGreat

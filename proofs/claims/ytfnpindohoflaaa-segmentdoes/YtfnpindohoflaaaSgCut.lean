/-
  Contracts of segment.parts and segment.cut: numbers cut into arrays, one behind the other. No conditions beyond those stated.
-/
import Derived.Test.YtfnpindohoflaaaSgBase
import Derived.Test.YtfnpindohoflaaaGround
import Derived.StillTailTactics
namespace Sg
/-- Where the parts of some lengths lie in a block, from a place on. -/
def partsL (b : Nat) : Nat → List Nat → List (Nat × Nat × Nat)
  | _, [] => []
  | o, n :: r => (b, o, n) :: partsL b (o + n) r
theorem partsL_len (b : Nat) : ∀ (o : Nat) (l : List Nat), (partsL b o l).length = l.length
  | _, [] => rfl
  | o, n :: r => by simp [partsL, partsL_len b (o + n) r]
theorem partsL_snoc (b : Nat) : ∀ (l : List Nat) (o n : Nat), partsL b o (l ++ [n]) = partsL b o l ++ [(b, o + l.sum, n)]
  | [], o, n => by simp [partsL]
  | x :: r, o, n => by
    rw [List.cons_append, partsL, partsL_snoc b r, partsL, List.sum_cons]
    simp [Nat.add_assoc]
theorem take_snocN {l : List Nat} {k : Nat} (h : k < l.length) : l.take (k + 1) = l.take k ++ [l.getD k 0] := by
  rw [List.take_add_one]; simp [List.getElem?_eq_getElem h, List.getD]
theorem sum_take (l : List Nat) (k : Nat) : (l.take k).sum ≤ l.sum := by
  conv => rhs; rw [← List.take_append_drop k l, List.sum_append]
  omega
theorem sum_step {l : List Nat} {k : Nat} (h : k < l.length) : (l.take (k + 1)).sum = (l.take k).sum + l.getD k 0 := by
  rw [take_snocN h]; simp
end Sg
namespace Go.Proofs.Ytfnpindohoflaaa
open Go.RowKit

def encP (x : Nat × Nat × Nat) : List Value := [.slice (some ⟨x.1, x.2.1, none⟩) x.2.2 x.2.2]
theorem encP_len (x : Nat × Nat × Nat) : (encP x).length = 1 := rfl
theorem encP_one (x : Nat × Nat × Nat) : ∀ u ∈ encP x, u.oneCell' = true := by
  intro u hu
  simp only [encP, List.mem_cons, List.not_mem_nil, or_false] at hu
  subst hu; rfl
theorem ints_info : (Try.prog.info? 38).map (fun i => (i.zero, i.size, i.bytes)) = some (some (.slice none 0 0), 1, 24) := by kernel_rfl
/-- A slice of one part that is laid anew. -/
theorem prow1 (w : World) (b o n ty : Nat) : RowK encP 1 (w.alloc (.cells #[.slice (some ⟨b, o, none⟩) n n] ty)) (.slice (some ⟨w.heap.size, 0, none⟩) 1 1) [(b, o, n)] :=
  .inr ⟨w.heap.size, 0, 1, rfl, by simp, by simp, by simp, fun i z hz j hj => by
    have hi : i < 1 := (List.getElem?_eq_some_iff.1 hz).1
    obtain rfl : i = 0 := by omega
    obtain rfl : j = 0 := by omega
    simp at hz
    subst hz
    simp [go_sem, encP]⟩
theorem slice_upto2 (b off N c k : Nat) (h : k ≤ c) (W : World) :
    (Instr.slice 38 (.slice (some ⟨b, off, none⟩) N c) none (some (.int .i64 (k : Int))) (some (.int .i64 (k : Int)))).run Try.prog W = .ok (.slice (some ⟨b, off, none⟩) k k) W := by
  rw [run_slice_hm (P := Try.prog) W 38 (some ⟨b, off, none⟩) N c (by rw [int_elem']; exact Try.underlying38) .i64 .i64 (k : Int) (k : Int) (by omega) (by omega) (by omega)]
  have hs : (sizeOf (Try.prog.elem 38)).run Try.prog W = .ok 1 W := by rw [int_elem']; kernel_rfl
  rw [hs, Int.toNat_natCast]
  simp [Result.andThen, sliced, Addr.add]
theorem slice_three (b off N c k m : Nat) (hm : 0 < m) (h : k + m ≤ c) (W : World) :
    (Instr.slice 38 (.slice (some ⟨b, off, none⟩) N c) (some (.int .i64 (k : Int))) (some (.int .i64 ((k : Int) + (m : Int)))) (some (.int .i64 ((k : Int) + (m : Int))))).run Try.prog W = .ok (.slice (some ⟨b, off + k, none⟩) m m) W := by
  rw [run_slice_lhm (P := Try.prog) W 38 (some ⟨b, off, none⟩) N c (by rw [int_elem']; exact Try.underlying38) .i64 .i64 .i64 (k : Int) ((k : Int) + (m : Int)) ((k : Int) + (m : Int)) (by omega) (by omega) (by omega) (by omega)]
  have hs : (sizeOf (Try.prog.elem 38)).run Try.prog W = .ok 1 W := by rw [int_elem']; kernel_rfl
  rw [hs, show ((k : Int) + (m : Int)).toNat = k + m by omega, Int.toNat_natCast]
  show Result.ok (sliced (some ⟨b, off, none⟩) k (k + m) (k + m) 1) W = _
  unfold sliced
  rw [if_neg (by omega), Nat.add_sub_cancel_left]
  simp [Addr.add]

set_option maxRecDepth 100000 in
set_option maxHeartbeats 1600000 in
theorem parts_any (b off N cap : Nat) (ns : List Nat) (v : Value) (w : World) (hr : Row w v (ns.map fun n : Nat => (n : Int))) (hpos : ∀ n ∈ ns, 0 < n) (hsum : ns.sum ≤ N) (hcap : N ≤ cap) (hk : ns.length ≤ 1000) :
    Calls Try.prog 54 #[.slice (some ⟨b, off, none⟩) N cap, v] w fun e w' => ∃ p c, e = .returned (.slice p ns.length c) ∧ RowK encP 1 w' (.slice p ns.length c) (Sg.partsL b off ns) ∧ Lo w w' := by
  obtain ⟨p, c, rfl, hlen⟩ := hr.form
  have hml : (ns.map fun n : Nat => (n : Int)).length = ns.length := by simp
  rw [hml] at hr ⊢
  have HR := Lib.hid hr
  have HPos := Lib.hid (fun (k : Nat) (h : k < ns.length) => hpos (ns.getD k 0) (by simp [List.getD, List.getElem?_eq_getElem h]))
  have HSt := Lib.hid (fun (k : Nat) (h : k < ns.length) => Sg.sum_step h)
  have HSn := Lib.hid (fun (k : Nat) (h : k < ns.length) => (show Sg.partsL b off (ns.take (k + 1)) = Sg.partsL b off (ns.take k) ++ [(b, off + (ns.take k).sum, ns.getD k 0)] by rw [Sg.take_snocN h, Sg.partsL_snoc]))
  have HLe := Lib.hid (fun (k : Nat) => Sg.sum_take ns k)
  have HPl := Lib.hid (fun (k : Nat) (h : k ≤ ns.length) => (show (Sg.partsL b off (ns.take k)).length = k by rw [Sg.partsL_len, List.length_take]; omega))
  have HGet := Lib.hid (fun (k : Nat) (h : k < ns.length) => (show (ns.map fun n : Nat => (n : Int)).getD k 0 = (ns.getD k 0 : Nat) by simp [List.getD, List.getElem?_eq_getElem h]))
  have HAll : Hid (Sg.partsL b off (ns.take ns.length) = Sg.partsL b off ns) := Lib.hid (by rw [List.take_length])
  generalize hnn : ns.length = n at *
  have HNN := Lib.hid hnn
  clear hnn hr hpos hml hlen
  go_enter Try.func54, Try.ntmps54
  go_wp2_with fail
  go_loopw [0, 5, 7, 10] (fun s0 s5 _ s10 W => ∃ (k : Nat) (L : List (Nat × Nat × Nat)) (q : Option Addr) (d A : Nat), k ≤ n ∧ s10 = .int .i64 k ∧ s5 = .slice q L.length d ∧ s0 = .slice (some ⟨b, A, none⟩) (N - (ns.take k).sum) (cap - (ns.take k).sum) ∧ (k < n → A = off + (ns.take k).sum) ∧ Hid (L = Sg.partsL b off (ns.take k)) ∧ Hid (OwnK encP 38 1 W w.heap.size (.slice q L.length d) L) ∧ Hid (Lo w W)) (fun _ _ _ s10 _ => n - (intOf s10).toNat)
  case atStart => exact ⟨0, [], none, 0, off, Nat.zero_le _, rfl, rfl, by simp, by simp, Lib.hid rfl, Lib.hid (OwnK.none _ _ _ _ _), Lib.hid (Lo.refl _)⟩
  case round =>
    obtain ⟨k, L, q, d, A, hk1, rfl, rfl, rfl, hA, HT, HO, HL⟩ := hrel
    by_cases hlt : k < n
    · obtain rfl := hA hlt
      obtain ⟨bb, oo, rfl, hcell⟩ := (HR.out.lo HL.out).at_ hlt
      rw [HGet.out k hlt] at hcell
      have hp := HPos.out k hlt
      have hst := HSt.out k hlt
      have hle := HLe.out (k + 1)
      have HT2 : Hid (L ++ [(b, off + (ns.take k).sum, ns.getD k 0)] = Sg.partsL b off (ns.take (k + 1))) := Lib.hid (by rw [HSn.out k hlt, ← HT.out])
      have hLk : L.length = k := by rw [HT.out]; exact HPl.out k hk1
      have HSZ := Lib.hid HL.out.size
      generalize hS1 : (ns.take (k + 1)).sum = S1 at *
      generalize (ns.take k).sum = S at *
      generalize ns.getD k 0 = m at *
      subst hst
      have hu := fun W => slice_upto2 b (off + S) (N - S) (cap - S) m (by omega) W
      have hf := fun W => slice_from' b (off + S) (N - S) (cap - S) m (m : Int) rfl (by omega) W
      have eN : N - S - m = N - (S + m) := by omega
      have eC : cap - S - m = cap - (S + m) := by omega
      rw [eN, eC] at hf
      have HF : Hid (∃ A', (if cap - S = m then some (⟨b, off + S, none⟩ : Addr) else some ⟨b, off + S + m, none⟩) = some ⟨b, A', none⟩ ∧ (k + 1 < n → A' = off + (S + m))) := Lib.hid (by
        by_cases h : cap - S = m
        · rw [if_pos h]
          refine ⟨_, rfl, fun h2 => ?_⟩
          have h3 := HSt.out (k + 1) h2
          have h4 := HPos.out (k + 1) h2
          have h5 := HLe.out (k + 1 + 1)
          omega
        · rw [if_neg h]
          exact ⟨_, rfl, fun _ => by omega⟩)
      obtain ⟨A', hA1, hA2⟩ := HF.out
      rw [hA1] at hf
      clear HF hA1 HT hA hle eN eC
      go_wp2_with (at_builtin; refine wpList_appK _ rfl (.tmp 14) (.tmp 19) _ rfl 38 1 24 _ Try.underlying82 ints_info rfl (by omega) (by omega) encP_len encP_one w.heap.size (.slice q L.length d) L rfl (OwnK.lo HO.out ((Lo.refl _).alloc _)) _ [(b, off + S, m)] rfl (prow1 _ b (off + S) m _) (by simp; omega) (by have := HSZ.out; simp; omega) ?_; intro q1 d1 w3 hown hlo; have HO3 := Lib.hid hown; have HL3 := Lib.hid (hlo w (HL.out.alloc _) (Nat.le_refl _)); clear hown hlo)
      go_roundw
      case rel => exact ⟨k + 1, L ++ [(b, off + S, m)], q1, d1, A', by omega, by go_num, by simp [hLk], by rw [hS1], by rw [hS1]; exact hA2, HT2, by simpa using HO3, HL3⟩
      case measure => simp [intOf]; omega
    · obtain rfl : k = n := by omega
      have HE : Hid (L = Sg.partsL b off ns) := Lib.hid (by rw [HT.out, HAll.out])
      have hLk : L.length = k := by rw [HT.out]; exact HPl.out k hk1
      go_wp2_with fail
      go_ret
      rw [hLk]
      exact ⟨q, d, rfl, by rw [← HE.out]; rw [hLk] at HO; exact OwnK.row encP_len HO.out, HL.out⟩

theorem rowSix (w : World) (B : Nat) (hB : B = w.heap.size) (a b c d e f : Int) : Row (w.alloc (.cells #[.int .i64 a, .int .i64 b, .int .i64 c, .int .i64 d, .int .i64 e, .int .i64 f] 3)) (.slice (some ⟨B, 0, none⟩) 6 6) [a, b, c, d, e, f] :=
  hB ▸ .inr ⟨w.heap.size, 0, 6, rfl, by simp, by simp, by simp, fun i hi => by
    obtain rfl | rfl | rfl | rfl | rfl | rfl : i = 0 ∨ i = 1 ∨ i = 2 ∨ i = 3 ∨ i = 4 ∨ i = 5 := by simp at hi; omega
    all_goals simp [go_sem]⟩
theorem PRow.six {w : World} {p : Option Addr} {c b : Nat} {o0 o1 o2 o3 o4 o5 n0 n1 n2 n3 n4 n5 : Nat} (h : RowK encP 1 w (.slice p 6 c) [(b, o0, n0), (b, o1, n1), (b, o2, n2), (b, o3, n3), (b, o4, n4), (b, o5, n5)]) :
    ∃ g off, p = some ⟨g, off, none⟩ ∧ w.cell? ⟨g, off, none⟩ = some (.slice (some ⟨b, o0, none⟩) n0 n0) ∧ w.cell? ⟨g, off + 1, none⟩ = some (.slice (some ⟨b, o1, none⟩) n1 n1) ∧ w.cell? ⟨g, off + 3, none⟩ = some (.slice (some ⟨b, o3, none⟩) n3 n3) ∧ w.cell? ⟨g, off + 4, none⟩ = some (.slice (some ⟨b, o4, none⟩) n4 n4) ∧ w.cell? ⟨g, off + 5, none⟩ = some (.slice (some ⟨b, o5, none⟩) n5 n5) := by
  rcases h with ⟨_, _, h1, _, h2⟩ | ⟨g, off, cap, h1, h2, h2b, h3, h4⟩
  · cases h2
  · injection h1 with hp _ _
    refine ⟨g, off, hp, ?_, ?_, ?_, ?_, ?_⟩
    · have := h4 0 _ rfl 0 (by omega); simpa [encP] using this
    · have := h4 1 _ rfl 0 (by omega); simpa [encP] using this
    · have := h4 3 _ rfl 0 (by omega); simpa [encP] using this
    · have := h4 4 _ rfl 0 (by omega); simpa [encP] using this
    · have := h4 5 _ rfl 0 (by omega); simpa [encP] using this

/-- A table of five parts of a block. -/
def aggT5 (b o0 o1 o2 o3 o4 n m : Nat) : Value := .agg #[.slice (some ⟨b, o0, none⟩) 7 7, .slice (some ⟨b, o1, none⟩) n n, .slice (some ⟨b, o2, none⟩) n n, .slice (some ⟨b, o3, none⟩) n n, .slice (some ⟨b, o4, none⟩) m m]

theorem six_parts {n m : Nat} (h1 : 1 ≤ n) (h2 : n ≤ m) : (∀ x ∈ [7, n, 1, n, n, m], 0 < x) ∧ [7, n, 1, n, n, m].sum = 8 + 3 * n + m := by
  refine ⟨fun x hx => ?_, ?_⟩
  · simp only [List.mem_cons, List.not_mem_nil, or_false] at hx
    omega
  · simp only [List.sum_cons, List.sum_nil]
    omega

set_option maxRecDepth 100000 in
set_option maxHeartbeats 1600000 in
theorem cut_any (b off cap n m : Nat) (w : World) (h1 : 1 ≤ n) (h2 : n ≤ m) (hcap : 8 + 3 * n + m ≤ cap) (hN : m ≤ 10000000) :
    Calls Try.prog 28 #[.slice (some ⟨b, off, none⟩) (8 + 3 * n + m) cap, .int .i64 (n : Int)] w fun e w' => e = .returned (aggT5 b off (off + 7) (off + (8 + n)) (off + (8 + 2 * n)) (off + (8 + 3 * n)) n m) ∧ Lo w w' := by
  obtain ⟨q1, q2⟩ := six_parts h1 h2
  have HP := Lib.hid (fun (v : Value) (W : World) (hr : Row W v [7, (n : Int), 1, (n : Int), (n : Int), (m : Int)]) => parts_any b off (8 + 3 * n + m) cap [7, n, 1, n, n, m] v W hr q1 (Nat.le_of_eq q2) hcap (by simp))
  clear q1 q2
  simp only [List.length_cons, List.length_nil, Nat.zero_add, Nat.reduceAdd, Sg.partsL] at HP
  rw [show off + 7 + n + 1 = off + (8 + n) by omega, show off + (8 + n) + n = off + (8 + 2 * n) by omega, show off + (8 + 2 * n) + n = off + (8 + 3 * n) by omega] at HP
  have em : ((8 + 3 * n + m : Nat) : Int) - 7 - 1 - 3 * (n : Int) = (m : Int) := by omega
  unfold aggT5
  generalize off + (8 + n) = o2 at *
  generalize off + (8 + 2 * n) = o3 at *
  generalize off + (8 + 3 * n) = o4 at *
  generalize hN2 : 8 + 3 * n + m = N at *
  go_enter Try.func28, Try.ntmps28
  go_wp2_with fail
  refine (HP.out _ _ (rowSix (w.alloc (.cells #[.slice none 0 0, .slice none 0 0, .slice none 0 0, .slice none 0 0, .slice none 0 0] 44)) _ (by simp) _ _ _ _ _ _)).mono ?_
  rintro e w2 ⟨p, c, rfl, hrow, lo⟩
  have HL := Lib.hid ((((Lo.refl w).alloc _).alloc _).trans lo)
  have HB := Lib.hid (lo_block (((Lo.refl _).alloc _).trans lo) (new_block w _))
  obtain ⟨g, go, rfl, r0, r1, r3, r4, r5⟩ := PRow.six hrow
  clear hrow lo HP
  go_wp2_with fail
  go_still_tail 16, (by kernel_rfl)
  change wpList _ _ _ _ _ w2.drew
  generalize hw : w2.drew = w3
  have HL2 : Hid (Lo w w3) := Lib.hid (by rw [← hw]; exact HL.out.drew)
  obtain ⟨⟨s0, s1, s2, s3, s4⟩, q0, q1, q2, q3, q4⟩ := five_at (lo_block (w' := w3) (by rw [← hw]; exact (Lo.refl w2).drew) HB.out)
  clear hw HB HL r0 r1 r3 r4 r5
  go_wp2_with fail
  refine bodyPost_ret (v := .agg #[.slice (some ⟨b, off, none⟩) 7 7, .slice (some ⟨b, off + 7, none⟩) n n, .slice (some ⟨b, o2, none⟩) n n, .slice (some ⟨b, o3, none⟩) n n, .slice (some ⟨b, o4, none⟩) m m]) ?_ rfl ⟨rfl, ?_⟩
  · simp [results, Try.results28, go_sem, s0, s1, s2, s3, s4]
  · exact Lo.set5 HL2.out (Nat.le_refl _) _ _ _ _ _
end Go.Proofs.Ytfnpindohoflaaa

/-
  Facts that the walks rest on: CuNum, CuCorn, Shelf. No conditions beyond those stated.
-/
import Derived.Test.YtcnmfgdeanbhoaaPart04
import Derived.Test.YtcnmfgdeanbhoaaPart05
import Derived.Test.YtcnmfgdeanbhoaaPart06
import Derived.Test.YtcnmfgdeanbhoaaGround
import Derived.Test.YtcnmfgdeanbhoaaPart01
import Derived.Shelf.Strings.Builder1
import Derived.Shelf.Strings.BuilderF
import Derived.Shelf.Strings.BuilderK
import Derived.Shelf.Bits.Mul64
import Derived.Test.YtcnmfgdeanbhoaaProg
/-
  Contracts of cutin.readNumbers and readStair. No conditions beyond those stated.
-/
namespace Cu
open Bn He
theorem rdN_zero (s : List UInt8) : rdN s 0 = [] := rfl
theorem word_nat (s : List UInt8) (p : Nat) : ∃ n : Nat, fld s p 2 = (n : Int) ∧ n ≤ 65535 := by
  obtain ⟨h1, h2⟩ := Co.word_bd s p
  unfold Co.word at h1 h2
  obtain ⟨n, hn⟩ := Int.eq_ofNat_of_zero_le h1
  exact ⟨n, hn, by omega⟩
end Cu
namespace Go.Proofs.Ytcnmfgdeanbhoaa
open Go.RowKit

theorem cu_two {T ty : Nat} {a b : Value} {w : World} (h : w.heap[T]? = some (.cells #[a, b] ty (0, 0))) :
    (w.cell? ⟨T, 0, none⟩ = some a ∧ w.cell? ⟨T, 1, none⟩ = some b) ∧ (w.frozen? ⟨T, 0, none⟩ = false ∧ w.frozen? ⟨T, 1, none⟩ = false) :=
  ⟨⟨block_cell h rfl, block_cell h rfl⟩, block_frozen h, block_frozen h⟩
theorem Lo.set2 {a b : World} (h : Lo a b) {T : Nat} (hT : a.heap.size ≤ T) (v0 v1 : Value) : Lo a ((b.setCell ⟨T, 0, none⟩ v0).setCell ⟨T, 1, none⟩ v1) :=
  (h.set (p := ⟨T, 0, none⟩) hT v0).set (p := ⟨T, 1, none⟩) hT v1

set_option maxHeartbeats 800000 in
/-- readNumbers: a row of the call's own. -/
theorem cunums_any (s : List UInt8) (n : Nat) (w : World) (hl : s.length = 4 * n) (hn : n ≤ 500000) :
    Calls Try.prog 78 #[.string ⟨s.toArray⟩] w fun e w' => ∃ p c, e = .returned (.slice p n c) ∧ Own w' w.heap.size (.slice p n c) (Cu.rdN s n) ∧ Lo w w' := by
  have HG := Lib.hid (fun i (hi : i < n) (v : Value) W (h : Row W v [-2]) => by
    have h1 := get_any s ((4 * i : Nat) : Int) v [-2] W h (by decide) (by omega) (by omega)
    rw [Cu.bin_num s hi hl] at h1
    unfold GotRow at h1
    dsimp only [List.length_cons, List.length_nil, Nat.reduceAdd] at h1
    exact h1)
  have HS := Lib.hid (fun k => Cu.rdN_succ s k)
  have HN := Lib.hid (fun k => Cu.rdN_len s k)
  have H0 := Lib.hid (Cu.rdN_zero s)
  generalize Cu.rdN s = L at *
  obtain ⟨X, hX⟩ : ∃ X : Nat → Int, ∀ k, He.fld s (4 * k) (-2) = X k := ⟨_, fun _ => rfl⟩
  have HX := Lib.hid hX
  clear hX
  go_enter Try.func78, Try.ntmps78
  go_wp2_with fail
  go_loopw [3, 4, 5, 6] (fun r i _ _ W => ∃ (k : Nat) (p : Option Addr) (c : Nat), k ≤ n ∧ i = .int .i64 ((4 * k : Nat) : Int) ∧ r = .slice p k c ∧ Hid (Own W w.heap.size (.slice p k c) (L k)) ∧ Hid (Lo w W)) (fun _ i _ _ _ => 4 * n - (intOf i).toNat)
  case atStart => exact ⟨0, none, 0, Nat.zero_le _, rfl, rfl, Lib.hid (by rw [H0.out]; exact Own.none _ _), Lib.hid (Lo.refl _)⟩
  case round =>
    obtain ⟨k, p, c, hk, rfl, rfl, HO, HL⟩ := hrel
    by_cases hlt : k < n
    · have h4 : 4 * k < s.length := by omega
      have HGk := Lib.hid (HG.out k hlt)
      rw [HX.out k] at HGk
      have HSk := Lib.hid (HS.out k)
      rw [HX.out k] at HSk
      have HNk := Lib.hid (HN.out k)
      clear HG HS HN
      generalize X k = x at *
      go_wp2_with fail
      refine (HGk.out _ _ (row1 _ _ (by simp) (-2))).mono ?_
      rintro e w1 ⟨p1, c1, rfl, hrow, lo⟩
      have HL1 := Lib.hid ((HL.out.alloc _).trans lo)
      have HO1 := Lib.hid (Own.lo HO.out (((Lo.refl _).alloc _).trans lo))
      obtain ⟨b, off, rfl, c0⟩ := hrow.at_ (k := 0) (by simp)
      rw [Nat.add_zero, show ([x] : List Int).getD 0 0 = x from rfl] at c0
      clear hrow lo HGk
      go_wp2_with (at_builtin; refine wpList_app _ rfl (.tmp 20) (.tmp 24) rfl w.heap.size (.slice p k c) _ rfl (Own.lo HO1.out ((Lo.refl _).alloc _)) _ [x] rfl (row1 _ _ (by simp) x) (by rw [HNk.out]; simp; omega) (by have := HL1.out.size; simp; omega) ?_; intro q1 c1 w3 hown hlo; have HO3 := Lib.hid hown; have HL3 := Lib.hid (hlo w (HL1.out.alloc _) rfl); clear hown hlo; rw [HNk.out] at HO3 ⊢)
      go_roundw
      case rel => exact ⟨k + 1, q1, c1, by omega, by go_num, rfl, Lib.hid (by rw [HSk.out]; exact HO3.out), HL3⟩
      case measure => simp [intOf]; omega
    · obtain rfl : k = n := by omega
      have h4 : ¬ (4 * (k : Int)) < (s.length : Int) := by omega
      go_wp2_with fail
      go_ret
      exact ⟨p, c, rfl, HO.out, HL.out⟩

/-- What readStair tells: a stair whose rows hang on nothing that was there, and an error. -/
def GotStair (r : Cu.Stair × Int) (w : World) (e : Ending) (w' : World) : Prop :=
  ∃ u v, e = .returned (.tuple #[.agg #[u, v], .int .i64 r.2]) ∧ New (fun W => Row W u r.1.1 ∧ Row W v r.1.2) w w' ∧ Lo w w'
theorem GotStair.nil {w w' : World} {k : Int} {e : Ending} (he : e = .returned (.tuple #[.agg #[.slice none 0 0, .slice none 0 0], .int .i64 k])) (h : Lo w w') : GotStair (([], []), k) w e w' :=
  ⟨_, _, he, ind_true (fun _ => ⟨.inl ⟨_, _, rfl, fun _ => rfl, rfl⟩, .inl ⟨_, _, rfl, fun _ => rfl, rfl⟩⟩) _ _, h⟩

set_option maxHeartbeats 800000 in
theorem custair_short (s : List UInt8) (q : Nat) (w : World) (hl : s.length ≤ 9223372036854000000) (hq : q ≤ 9223372036854000000) (h : s.length < q + 2) :
    Calls Try.prog 60 #[.string ⟨s.toArray⟩, .int .i64 (q : Int)] w (GotStair (([], []), 4) w) := by
  have HG := Lib.hid (fun v W (h : Row W v [2]) => get_any s (q : Int) v [2] W h (by decide) (by omega) (by omega))
  rw [Cu.bin_one, if_pos h] at HG
  unfold GotRow at HG
  clear h
  go_enter Try.func60, Try.ntmps60
  go_wp2_with fail
  generalize hW : World.alloc w _ = w0
  have HL : Hid (Lo w w0) := Lib.hid (by rw [← hW]; exact (Lo.refl w).alloc _)
  have HB : Hid (w0.heap[w.heap.size]? = some (.cells #[.slice none 0 0, .slice none 0 0] 35 (0, 0))) := Lib.hid (by rw [← hW]; exact new_block w _)
  have HT : Hid (w.heap.size + 1 = w0.heap.size) := Lib.hid (by rw [← hW]; simp)
  clear hW
  refine (HG.out _ _ (row1 w0 (w.heap.size + 1) HT.out 2)).mono ?_
  rintro e w1 ⟨p, c, rfl, hrow, lo⟩
  have HL1 := Lib.hid ((HL.out.alloc _).trans lo)
  obtain ⟨⟨q0, q1⟩, r0, r1⟩ := cu_two (lo_block (((Lo.refl _).alloc _).trans lo) HB.out)
  clear hrow lo HG
  go_wp2_with fail
  refine bodyPost_ret (v := .tuple #[.agg #[.slice none 0 0, .slice none 0 0], .int .i64 4]) ?_ rfl (GotStair.nil rfl ?_)
  · simp [results, Try.results60, go_sem, q0, q1]
  · exact Lo.set2 HL1.out (Nat.le_refl _) _ _

set_option maxHeartbeats 800000 in
theorem custair_piece (s : List UInt8) (q n : Nat) (w : World) (hl : s.length ≤ 9223372036854000000) (hq : q ≤ 9223372036854000000) (h : q + 2 ≤ s.length) (hf : He.fld (s.drop q) 0 2 = (n : Int)) (hn : n ≤ 65535) (h2 : s.length < q + 2 + 4 * (2 * n + 1)) :
    Calls Try.prog 60 #[.string ⟨s.toArray⟩, .int .i64 (q : Int)] w (GotStair (([], []), 4) w) := by
  have HG := Lib.hid (fun v W (h : Row W v [2]) => get_any s (q : Int) v [2] W h (by decide) (by omega) (by omega))
  rw [Cu.bin_one, if_neg (by omega), hf] at HG
  unfold GotRow at HG
  have HP := Lib.hid (fun W => bpiece_any s ((q : Int) + 2) (4 * (2 * (n : Int) + 1)) W (by omega) (by omega))
  rw [Cu.bin_piece_no s h2] at HP
  unfold strErr at HP
  dsimp only [List.length_cons, List.length_nil, Nat.reduceAdd] at HG
  clear hf h2
  go_enter Try.func60, Try.ntmps60
  go_wp2_with fail
  generalize hW : World.alloc w _ = w0
  have HL : Hid (Lo w w0) := Lib.hid (by rw [← hW]; exact (Lo.refl w).alloc _)
  have HB : Hid (w0.heap[w.heap.size]? = some (.cells #[.slice none 0 0, .slice none 0 0] 35 (0, 0))) := Lib.hid (by rw [← hW]; exact new_block w _)
  have HT : Hid (w.heap.size + 1 = w0.heap.size) := Lib.hid (by rw [← hW]; simp)
  clear hW
  refine (HG.out _ _ (row1 w0 (w.heap.size + 1) HT.out 2)).mono ?_
  rintro e w1 ⟨p, c, rfl, hrow, lo⟩
  have HL1 := Lib.hid ((HL.out.alloc _).trans lo)
  have HB1 := Lib.hid (lo_block (((Lo.refl _).alloc _).trans lo) HB.out)
  obtain ⟨b, off, rfl, c0⟩ := hrow.at_ (k := 0) (by simp)
  rw [Nat.add_zero, show ([(n : Int)] : List Int).getD 0 0 = (n : Int) from rfl] at c0
  clear hrow lo HG HL HB
  go_wp2_with fail
  refine (HP.out _).mono ?_
  rintro e w2 ⟨rfl, lo⟩
  have HL2 := Lib.hid (HL1.out.trans lo)
  obtain ⟨⟨q0, q1⟩, r0, r1⟩ := cu_two (lo_block lo HB1.out)
  clear lo
  go_wp2_with fail
  refine bodyPost_ret (v := .tuple #[.agg #[.slice none 0 0, .slice none 0 0], .int .i64 4]) ?_ rfl (GotStair.nil rfl ?_)
  · simp [results, Try.results60, go_sem, q0, q1]
  · exact Lo.set2 HL2.out (Nat.le_refl _) _ _

set_option maxHeartbeats 800000 in
theorem custair_long (s : List UInt8) (q n : Nat) (w : World) (hl : s.length ≤ 9223372036854000000) (hq : q ≤ 9223372036854000000) (h : q + 2 + 4 * (2 * n + 1) ≤ s.length) (hf : He.fld (s.drop q) 0 2 = (n : Int)) (hn : n ≤ 65535) (h2 : 64 < n) :
    Calls Try.prog 60 #[.string ⟨s.toArray⟩, .int .i64 (q : Int)] w (GotStair (([], []), 7) w) := by
  have HG := Lib.hid (fun v W (h : Row W v [2]) => get_any s (q : Int) v [2] W h (by decide) (by omega) (by omega))
  rw [Cu.bin_one, if_neg (by omega), hf] at HG
  unfold GotRow at HG
  have HP := Lib.hid (fun W => bpiece_any s ((q : Int) + 2) (4 * (2 * (n : Int) + 1)) W (by omega) (by omega))
  rw [Cu.bin_piece s h] at HP
  unfold strErr at HP
  dsimp only [List.length_cons, List.length_nil, Nat.reduceAdd] at HG
  generalize Cu.cutN (s.drop q) n = t at *
  clear hf h
  go_enter Try.func60, Try.ntmps60
  go_wp2_with fail
  generalize hW : World.alloc w _ = w0
  have HL : Hid (Lo w w0) := Lib.hid (by rw [← hW]; exact (Lo.refl w).alloc _)
  have HB : Hid (w0.heap[w.heap.size]? = some (.cells #[.slice none 0 0, .slice none 0 0] 35 (0, 0))) := Lib.hid (by rw [← hW]; exact new_block w _)
  have HT : Hid (w.heap.size + 1 = w0.heap.size) := Lib.hid (by rw [← hW]; simp)
  clear hW
  refine (HG.out _ _ (row1 w0 (w.heap.size + 1) HT.out 2)).mono ?_
  rintro e w1 ⟨p, c, rfl, hrow, lo⟩
  have HL1 := Lib.hid ((HL.out.alloc _).trans lo)
  have HB1 := Lib.hid (lo_block (((Lo.refl _).alloc _).trans lo) HB.out)
  obtain ⟨b, off, rfl, c0⟩ := hrow.at_ (k := 0) (by simp)
  rw [Nat.add_zero, show ([(n : Int)] : List Int).getD 0 0 = (n : Int) from rfl] at c0
  clear hrow lo HG HL HB
  go_wp2_with fail
  refine (HP.out _).mono ?_
  rintro e w2 ⟨rfl, lo⟩
  have HL2 := Lib.hid (HL1.out.trans lo)
  obtain ⟨⟨q0, q1⟩, r0, r1⟩ := cu_two (lo_block lo HB1.out)
  clear lo
  go_wp2_with fail
  refine bodyPost_ret (v := .tuple #[.agg #[.slice none 0 0, .slice none 0 0], .int .i64 7]) ?_ rfl (GotStair.nil rfl ?_)
  · simp [results, Try.results60, go_sem, q0, q1]
  · exact Lo.set2 HL2.out (Nat.le_refl _) _ _

set_option maxHeartbeats 1600000 in
theorem custair_read (s : List UInt8) (q n : Nat) (w : World) (hl : s.length ≤ 9223372036854000000) (hq : q ≤ 9223372036854000000) (h : q + 2 + 4 * (2 * n + 1) ≤ s.length) (hf : He.fld (s.drop q) 0 2 = (n : Int)) (hn : n ≤ 64) (x : Cu.Stair) (hx : Cu.rdS (s.drop q) n = x) :
    Calls Try.prog 60 #[.string ⟨s.toArray⟩, .int .i64 (q : Int)] w (GotStair (if Cu.isS x = true then (x, 0) else (([], []), 5)) w) := by
  have HG := Lib.hid (fun v W (h : Row W v [2]) => get_any s (q : Int) v [2] W h (by decide) (by omega) (by omega))
  rw [Cu.bin_one, if_neg (by omega), hf] at HG
  unfold GotRow at HG
  have HP := Lib.hid (fun W => bpiece_any s ((q : Int) + 2) (4 * (2 * (n : Int) + 1)) W (by omega) (by omega))
  rw [Cu.bin_piece s h] at HP
  unfold strErr at HP
  dsimp only [List.length_cons, List.length_nil, Nat.reduceAdd] at HG
  have htl : (Cu.cutN (s.drop q) n).length = 4 * (2 * n + 1) := Cu.cutN_len (by rw [List.length_drop]; omega)
  rw [Cu.rdS_cut] at hx
  obtain ⟨t, ht⟩ : ∃ t, Cu.cutN (s.drop q) n = t := ⟨_, rfl⟩
  rw [ht] at htl hx HP
  clear ht
  have e1 : (t.take (4 * n)).length = 4 * n := by rw [List.length_take]; omega
  have e2 : (t.drop (4 * n)).length = 4 * (n + 1) := by rw [List.length_drop]; omega
  have HA := Lib.hid (fun W => cunums_any (t.take (4 * n)) n W e1 (by omega))
  have HB2 := Lib.hid (fun W => cunums_any (t.drop (4 * n)) (n + 1) W e2 (by omega))
  have hx1 : Cu.rdN (t.take (4 * n)) n = x.1 := by rw [← hx]
  have hx2 : Cu.rdN (t.drop (4 * n)) (n + 1) = x.2 := by rw [← hx]
  rw [hx1] at HA
  rw [hx2] at HB2
  have HI := Lib.hid (fun (u v : Value) W (a : Row W u x.1) (b : Row W v x.2) => cuis_any u v x W a b)
  have x1 := Gk.extract_list t 0 (4 * n)
  have x2 := Gk.extract_from t (4 * n)
  rw [htl] at x2
  rw [Nat.sub_zero, List.drop_zero] at x1
  generalize t.take (4 * n) = ta at *
  generalize t.drop (4 * n) = tb at *
  clear hf h hx hx1 hx2 e1 e2
  obtain ⟨r, hr⟩ : ∃ r, (if Cu.isS x = true then (x, (0 : Int)) else (([], []), 5)) = r := ⟨_, rfl⟩
  rw [hr]
  have HR := Lib.hid hr
  clear hr
  go_enter Try.func60, Try.ntmps60
  go_wp2_with fail
  generalize hW : World.alloc w _ = w0
  have HL : Hid (Lo w w0) := Lib.hid (by rw [← hW]; exact (Lo.refl w).alloc _)
  have HB : Hid (w0.heap[w.heap.size]? = some (.cells #[.slice none 0 0, .slice none 0 0] 35 (0, 0))) := Lib.hid (by rw [← hW]; exact new_block w _)
  have HT : Hid (w.heap.size + 1 = w0.heap.size) := Lib.hid (by rw [← hW]; simp)
  clear hW
  refine (HG.out _ _ (row1 w0 (w.heap.size + 1) HT.out 2)).mono ?_
  rintro e w1 ⟨p, c, rfl, hrow, lo⟩
  have HL1 := Lib.hid (((Lo.refl w0).alloc _).trans lo)
  obtain ⟨b, off, rfl, c0⟩ := hrow.at_ (k := 0) (by simp)
  rw [Nat.add_zero, show ([(n : Int)] : List Int).getD 0 0 = (n : Int) from rfl] at c0
  clear hrow lo HG
  go_wp2_with fail
  refine (HP.out _).mono ?_
  rintro e w2 ⟨rfl, lo⟩
  have HL2 := Lib.hid (HL1.out.trans lo)
  clear lo HL1 c0 HP
  go_wp2_with fail
  go_quiet (fail)
  have HL3 := Lib.hid (HL2.out.drewN nq)
  generalize w2.drewN nq = w3 at *
  clear HL2
  go_wp2_with fail
  refine (HA.out _).mono ?_
  rintro e w4 ⟨pa, ca, rfl, hown, lo⟩
  have HL4 := Lib.hid (HL3.out.trans lo)
  have HU4 := Lib.hid (Own.mono hown (base' := w0.heap.size) HL3.out.size)
  clear hown lo HA HL3
  go_wp2_with fail
  refine (HB2.out _).mono ?_
  rintro e w5 ⟨pb, cb, rfl, hown, lo⟩
  have HL5 := Lib.hid (HL4.out.trans lo)
  have HU5 := Lib.hid (Own.lo HU4.out lo)
  have HV5 := Lib.hid (Own.mono hown (base' := w0.heap.size) HL4.out.size)
  clear hown lo HB2 HL4 HU4
  go_wp2_with fail
  have HI6 := Lib.hid (HI.out _ _ (w5.alloc (.cells #[.slice pa n ca, .slice pb (n + 1) cb] 35)) ((Own.row HU5.out).lo ((Lo.refl _).alloc _)) ((Own.row HV5.out).lo ((Lo.refl _).alloc _)))
  refine HI6.out.mono ?_
  rintro e w6 ⟨rfl, lo⟩
  have HL6 := Lib.hid (HL.out.trans ((HL5.out.alloc _).trans lo))
  have HU6 := Lib.hid (Own.lo HU5.out (((Lo.refl _).alloc _).trans lo))
  have HV6 := Lib.hid (Own.lo HV5.out (((Lo.refl _).alloc _).trans lo))
  obtain ⟨⟨q0, q1⟩, r0, r1⟩ := cu_two (lo_block (HL5.out.trans (((Lo.refl _).alloc _).trans lo)) HB.out)
  obtain ⟨⟨y0, y1⟩, _, _⟩ := cu_two (lo_block lo (new_block w5 _))
  clear lo HI6 HI
  cases hs : Cu.isS x with
  | false =>
    obtain rfl : r = (([], []), 5) := by rw [← HR.out, hs, if_neg (by simp)]
    go_wp2_with fail
    refine bodyPost_ret (v := .tuple #[.agg #[.slice none 0 0, .slice none 0 0], .int .i64 5]) ?_ rfl (GotStair.nil rfl ?_)
    · simp [results, Try.results60, go_sem, q0, q1]
    · exact Lo.set2 HL6.out (Nat.le_refl _) _ _
  | true =>
    obtain rfl : r = (x, 0) := by rw [← HR.out, if_pos hs]
    go_wp2_with fail
    refine bodyPost_ret (v := .tuple #[.agg #[.slice pa n ca, .slice pb (n + 1) cb], .int .i64 0]) ?_ rfl ⟨_, _, rfl, ?_, ?_⟩
    · simp [results, Try.results60, go_sem, q0, q1]
    · refine Ind.and ?_ ?_
      · exact Own.new (Own.set (Own.set HU6.out (p := ⟨w.heap.size, 0, none⟩) (by have := HT.out; show w.heap.size < _; omega) _) (p := ⟨w.heap.size, 1, none⟩) (by have := HT.out; show w.heap.size < _; omega) _) (by have := HT.out; omega)
      · exact Own.new (Own.set (Own.set HV6.out (p := ⟨w.heap.size, 0, none⟩) (by have := HT.out; show w.heap.size < _; omega) _) (p := ⟨w.heap.size, 1, none⟩) (by have := HT.out; show w.heap.size < _; omega) _) (by have := HT.out; omega)
    · exact Lo.set2 HL6.out (Nat.le_refl _) _ _

/-- readStair. -/
theorem custair_any (s : List UInt8) (q : Nat) (w : World) (hl : s.length ≤ 9223372036854000000) (hq : q ≤ 9223372036854000000) :
    Calls Try.prog 60 #[.string ⟨s.toArray⟩, .int .i64 (q : Int)] w (GotStair (Cu.gst (s.drop q)) w) := by
  unfold Cu.gst
  obtain ⟨n, hn, hn2⟩ := Cu.word_nat (s.drop q) 0
  rw [hn, Int.toNat_natCast, List.length_drop]
  by_cases c1 : s.length < q + 2
  · rw [if_pos (by omega)]; exact custair_short s q w hl hq c1
  · rw [if_neg (by omega)]
    by_cases c2 : s.length < q + 2 + 4 * (2 * n + 1)
    · rw [if_pos (by omega)]; exact custair_piece s q n w hl hq (by omega) hn hn2 c2
    · rw [if_neg (by omega)]
      by_cases c3 : 64 < n
      · rw [if_pos c3]; exact custair_long s q n w hl hq (by omega) hn hn2 c3
      · rw [if_neg c3]; exact custair_read s q n w hl hq (by omega) hn (by omega) _ rfl
end Go.Proofs.Ytcnmfgdeanbhoaa
/-
  The contract of cutin.readCorners: a glyph's stairs. No conditions beyond those stated.
-/
namespace Go.Proofs.Ytcnmfgdeanbhoaa
open Go.RowKit

theorem rs_nil (W : World) : RS W [.slice none 0 0, .slice none 0 0] Cu.zS := ⟨_, _, rfl, .inl ⟨_, _, rfl, fun _ => rfl, rfl⟩, .inl ⟨_, _, rfl, fun _ => rfl, rfl⟩⟩
/-- Four empty stairs, made. -/
def cornS (W : World) : World := madeR [.slice none 0 0, .slice none 0 0] 4 35 W
theorem cornS_run (W : World) : (Instr.makeSlice 40 (.int .i64 4) (.int .i64 4)).run Try.prog W = .ok (.slice (some ⟨W.heap.size, 0, none⟩) 4 4) (cornS W) :=
  madeR_run Try.underlying40 stair_info [.slice none 0 0, .slice none 0 0] rfl rfl (by omega) (by omega) (by omega) 4 (by omega) 4 rfl W
theorem cornS_lo (W : World) : Lo W (cornS W) := madeR_lo _ _ _ _
theorem cornS_own (D : Nat → Prop) (W : World) : OwnR RS 35 2 D (cornS W) W.heap.size (.slice (some ⟨W.heap.size, 0, .none⟩) 4 4) (List.replicate 4 Cu.zS) := madeR_own RS rs_nil rfl 4 (by omega) _ D W

/-- What readCorners tells. -/
def GotCorn (r : List Cu.Stair × Int) (w : World) (e : Ending) (w' : World) : Prop :=
  ∃ p c, e = .returned (.tuple #[.slice p r.1.length c, .int .i64 r.2]) ∧ New (fun W => SRowC W (.slice p r.1.length c) r.1) w w' ∧ Lo w w'
theorem GotCorn.nil {w w' : World} {k : Int} {e : Ending} (he : e = .returned (.tuple #[.slice none 0 0, .int .i64 k])) (h : Lo w w') : GotCorn ([], k) w e w' :=
  ⟨none, 0, he, ind_true (fun _ => .inl ⟨_, _, rfl, fun _ => rfl, rfl⟩) _ _, h⟩

set_option maxRecDepth 100000 in
set_option maxHeartbeats 3200000 in
/-- readCorners. -/
theorem cucorn_any (s : List UInt8) (q : Nat) (v : Value) (os : List Int) (w : World) (hl : s.length ≤ 9223372036853000000) (hq : q ≤ s.length) (hr : Row w v os) (h4 : os.length = 4) (ho : ∀ k, k < 4 → 0 ≤ os.getD k 0 ∧ os.getD k 0 ≤ 65535) :
    Calls Try.prog 28 #[.string ⟨s.toArray⟩, .int .i64 (q : Int), v] w (GotCorn (Cu.gall (s.drop q) os) w) := by
  have HG := Lib.hid (fun (o : Nat) (h : o ≤ 65535) W => custair_any s (q + o) W (by omega) (by omega))
  obtain ⟨pv, cv, rfl, _⟩ := hr.form
  have HR := Lib.hid hr
  rw [h4] at HR ⊢
  obtain ⟨t, ht⟩ : ∃ t, s.drop q = t := ⟨_, rfl⟩
  have HGt := Lib.hid (fun (o : Nat) (h : o ≤ 65535) (h0 : o ≠ 0) W => (by
    have := HG.out o h W
    rw [← List.drop_drop, ht] at this
    have e : Cu.gone t (o : Int) = Cu.gst (t.drop o) := by unfold Cu.gone; rw [if_neg (by omega), Int.toNat_natCast]
    rw [← e] at this
    exact this : Calls Try.prog 60 #[.string ⟨s.toArray⟩, .int .i64 ((q + o : Nat) : Int)] W (GotStair (Cu.gone t (o : Int)) W)))
  have HO := Lib.hid ho
  have HS := Lib.hid (fun k (hk : k < 4) => @Cu.corner_ok t os k (by omega))
  have HE := Lib.hid (fun k (hk : k < 4) => @Cu.corner_no t os k (by omega))
  have HZ := Lib.hid (fun k (hk : k < 4) => @Cu.corner_zero t os k (by omega))
  have HLn := Lib.hid (fun k (hk : k ≤ 4) (h : (Cu.gall t (os.take k)).2 = 0) => (by rw [Cu.laidS_len (by omega) h, h4] : (Cu.laidS t os k).length = 4))
  have HAl := Lib.hid (by rw [← h4]; exact Cu.laidS_all t os : Cu.laidS t os 4 = (Cu.gall t os).1)
  have HTk := Lib.hid (by rw [← h4, List.take_length]; exact id : (Cu.gall t (os.take 4)).2 = 0 → (Cu.gall t os).2 = 0)
  have HSt := Lib.hid (Cu.laidS_start t os)
  rw [h4] at HSt
  rw [ht]
  generalize Cu.gall t os = R at *
  generalize Cu.laidS t os = L at *
  have hmk := cornS_run
  clear hr ht HG ho h4
  go_enter Try.func28, Try.ntmps28
  go_wp2_with fail
  have HM := Lib.hid (cornS_own (fun T => T < w.heap.size) w)
  have HLm := Lib.hid (cornS_lo w)
  have HMz : Hid ((cornS w).heap.size = w.heap.size + 1) := Lib.hid (by unfold cornS madeR; simp)
  generalize cornS w = w1 at *
  clear hmk
  go_loopw [9, 10, 11, 12, 16] (fun _ _ _ _ i W => ∃ (k : Nat), k ≤ 4 ∧ i = .int .i64 k ∧ Hid (OwnR RS 35 2 (fun T => T < w.heap.size) W w.heap.size (.slice (some ⟨w.heap.size, 0, .none⟩) 4 4) (L k)) ∧ Hid ((Cu.gall t (os.take k)).2 = 0) ∧ Hid (Lo w W)) (fun _ _ _ _ i _ => 4 - (intOf i).toNat)
  case atStart => exact ⟨0, by omega, rfl, Lib.hid (by rw [HSt.out.1]; exact HM.out), Lib.hid HSt.out.2, HLm⟩
  case round =>
    obtain ⟨k, hk, rfl, HA, HK, HL⟩ := hrel
    by_cases hlt : k < 4
    · obtain ⟨b, off, rfl, c1⟩ := (HR.out.lo HL.out).at_ (k := k) hlt
      obtain ⟨ho1, ho2⟩ := HO.out k hlt
      have HSk := Lib.hid (HS.out k hlt HK.out)
      have HEk := Lib.hid (HE.out k hlt HK.out)
      have HZk := Lib.hid (HZ.out k hlt HK.out)
      have HLk := HLn.out k (by omega) HK.out
      obtain ⟨o, hoo⟩ := Int.eq_ofNat_of_zero_le ho1
      rw [hoo] at c1 ho2 HSk HEk HZk
      clear hoo ho1 HS HE HZ
      by_cases h0 : o = 0
      · subst h0
        obtain ⟨z1, z2⟩ := HZk.out rfl
        have HA2 := HA
        rw [z2] at HA2
        have HK2 := Lib.hid z1
        clear z1 z2 HSk HEk HZk
        go_wp2_with fail
        go_roundw
        case rel => exact ⟨k + 1, by omega, by go_num, HA2, HK2, HL⟩
        case measure => simp [intOf]; omega
      · have h0b : ((o : Int) == 0) = false := by rw [beq_eq_false_iff_ne]; omega
        have HGo := Lib.hid (HGt.out o (by omega) h0)
        rw [show ((q + o : Nat) : Int) = (q : Int) + (o : Int) by omega] at HGo
        clear HZk
        generalize Cu.gone t (o : Int) = z at *
        obtain ⟨⟨x1, x2⟩, ke⟩ := z
        dsimp only at HSk HEk
        go_wp2_with fail
        refine (HGo.out _).mono ?_
        rintro e w2 ⟨u, v, rfl, hnew, lo⟩
        dsimp only at hnew ⊢
        obtain ⟨pu, cu, rfl, _⟩ := hnew.self.1.form
        obtain ⟨pw, cw, rfl, _⟩ := hnew.self.2.form
        have HL2 := Lib.hid (HL.out.trans lo)
        have HA2 := Lib.hid (OwnR.lo HA.out lo)
        have HN2 := Lib.hid hnew
        have HB := Lib.hid HL.out.size
        have HBm : Hid (w.heap.size < wr.heap.size) := Lib.hid (OwnR.lt HA.out rfl).2
        clear hnew lo HGo
        by_cases hke : ke = 0
        · subst hke
          obtain ⟨z1, z2⟩ := HSk.out rfl
          have HK2 := Lib.hid z1
          have HS2 := Lib.hid z2
          clear z1 z2 HSk HEk
          have HA3 := Lib.hid (OwnR.lo HA2.out ((Lo.refl w2).alloc (.cells #[.slice pu x1.length cu, .slice pw x2.length cw] 35)))
          have HN3 := Lib.hid (HN2.out.lo ((Lo.refl w2).alloc (.cells #[.slice pu x1.length cu, .slice pw x2.length cw] 35)))
          have HL3 := Lib.hid (HL2.out.alloc (.cells #[.slice pu x1.length cu, .slice pw x2.length cw] 35))
          obtain ⟨g, cap, he, _, _, ⟨old, hol, hcl⟩, hfr, hset⟩ := OwnR.slot HA3.out (i := k) (by rw [HLk]; exact hlt)
          simp only [Value.slice.injEq, Option.some.injEq, Addr.mk.injEq, and_true] at he
          obtain ⟨rfl, _, rfl⟩ := he
          obtain ⟨a0, a1, rfl⟩ : ∃ a0 a1, old = [a0, a1] := by
            rcases old with _ | ⟨a0, _ | ⟨a1, _ | ⟨a2, r⟩⟩⟩ <;> simp at hol
            exact ⟨a0, a1, rfl⟩
          have d0 := hcl 0 (by omega)
          have d1 := hcl 1 (by omega)
          have f0 := hfr (k * 2)
          have f1 := hfr (k * 2 + 1)
          rw [Nat.add_zero] at d0
          have HA4 := Lib.hid (hset [.slice pu x1.length cu, .slice pw x2.length cw] (x1, x2) rfl ((HN3.out.mono fun W hW => ⟨_, _, rfl, hW.1, hW.2⟩).weak fun T _ hT => by
            have := HBm.out
            rcases hT with hT | hT
            · show T < _; omega
            · show T < _; omega))
          rw [HS2.out, ← setAt_two] at HA4
          have HL4 := Lib.hid ((HL3.out.set (p := ⟨w.heap.size, k * 2, none⟩) (Nat.le_refl _) (.slice pu x1.length cu)).set (p := ⟨w.heap.size, k * 2 + 1, none⟩) (Nat.le_refl _) (.slice pw x2.length cw))
          clear hset hfr hcl hol
          simp only [List.getElem?_cons_zero, List.getElem?_cons_succ] at d0 d1
          generalize x1.length = n1 at *
          generalize x2.length = n2 at *
          clear hl hq ho2 h0 HLk c1
          go_wp2_with fail
          go_roundw
          case rel => exact ⟨k + 1, by omega, by go_num, HA4, HK2, HL4⟩
          case measure => simp [intOf]; omega
        · have HE2 := Lib.hid (HEk.out hke)
          have hkb : (ke == 0) = false := by simpa using hke
          have HL3 := Lib.hid (HL2.out.alloc (.cells #[.slice pu x1.length cu, .slice pw x2.length cw] 35))
          generalize x1.length = n1 at *
          generalize x2.length = n2 at *
          clear HSk HEk hke
          obtain rfl : R = ([], ke) := HE2.out
          go_wp2_with fail
          go_ret2
          exact GotCorn.nil rfl HL3.out
    · obtain rfl : k = 4 := by omega
      have HA2 := HA
      rw [HAl.out] at HA2
      have hl4 : R.1.length = 4 := by rw [← HAl.out]; exact HLn.out 4 (by omega) HK.out
      have hR2 := HTk.out HK.out
      obtain ⟨R1, R2⟩ := R
      dsimp only at HA2 hl4 hR2
      subst hR2
      go_wp2_with fail
      go_ret2
      refine ⟨some ⟨w.heap.size, 0, none⟩, 4, ?_, ?_, HL.out⟩
      · rw [show (R1, (0 : Int)).1.length = 4 from hl4]; rfl
      · rw [show (R1, (0 : Int)).1.length = 4 from hl4]; exact OwnR.new HA2.out (Nat.le_refl _)
end Go.Proofs.Ytcnmfgdeanbhoaa
/-
  The kit's contracts of Go's library, laid at this program by its own tool. Each contract's conditions are its premises.
-/
namespace Go.Proofs
open Go.Shelf
def Try.lays169_ren : Go.Shelf.Ren := ⟨fun | 169 => 70 | n => n, fun | 70 => 89 | 9 => 9 | 0 => 0 | 72 => 91 | 37 => 58 | 127 => 110 | 3 => 3 | 5 => 5 | n => n, fun | n => n⟩
theorem Try.lays169 : Go.Proofs.Lays.n169 Try.prog Try.lays169_ren := {
  mixed := by kernel_rfl
  f169 := Try.func70.trans (congrArg some (by kernel_rfl))
  t0 := Try.underlying0
  a0 := Try.isAgg0
  z0 := Try.sizeOf0
  v0 := Try.zeroValue0
  t3 := Try.underlying3
  a3 := Try.isAgg3
  z3 := Try.sizeOf3
  v3 := Try.zeroValue3
  t9 := Try.underlying9
  a9 := Try.isAgg9
  z9 := Try.sizeOf9
  v9 := Try.zeroValue9
  t37 := Try.underlying58
  a37 := Try.isAgg58
  z37 := Try.sizeOf58
  v37 := Try.zeroValue58
  t70 := Try.underlying89
  a70 := Try.isAgg89
  z70 := Try.sizeOf89
  v70 := Try.zeroValue89
  t72 := Try.underlying91
  a72 := Try.isAgg91
  z72 := Try.sizeOf91
  v72 := Try.zeroValue91
  t127 := Try.underlying110
  a127 := Try.isAgg110
  z127 := Try.sizeOf110
  v127 := Try.zeroValue110 }
theorem Try.Builder_Extra_169 : Builder.Extra Try.prog Try.lays169_ren := {
  sizeBuilder := by kernel_rfl
  liesBuilder := by kernel_rfl
  t5 := Try.underlying5
  a5 := Try.isAgg5
  z5 := Try.sizeOf5
  v5 := Try.zeroValue5
  infoByte := by kernel_rfl
  cellsByte := by kernel_rfl
  sizeByte := by kernel_rfl
  neB5 := by decide }
open Go.RowKit in
theorem Try.Builder_String (B b : Nat) (l : List UInt8) (w : World) (h : Lib.IsBuilder 91 5 B b (Lib.byteCells l) w) (h0 : l ≠ []) :
    Calls Try.prog 70 #[.pointer (some ⟨b, 0, none⟩)] w fun e w' => e = .returned (.string ⟨l.toArray⟩) ∧ Below B w w' := Any.Builder_String Try.lays169 Try.Builder_Extra_169 B b l w h h0
open Go.RowKit in
theorem Try.Builder_String_empty (B b : Nat) (w : World) (h : Lib.IsBuilder 91 5 B b [] w) (hBw : B ≤ w.heap.size) :
    Calls Try.prog 70 #[.pointer (some ⟨b, 0, none⟩)] w fun e w' => e = .returned (.string ⟨#[]⟩) ∧ Below B w w' := Any.Builder_String_empty Try.lays169 Try.Builder_Extra_169 B b w h hBw
open Go.RowKit in
theorem Try.Builder_String_any (B b : Nat) (l : List UInt8) (w : World) (h : Lib.IsBuilder 91 5 B b (Lib.byteCells l) w) (hBw : B ≤ w.heap.size) :
    Calls Try.prog 70 #[.pointer (some ⟨b, 0, none⟩)] w fun e w' => e = .returned (.string ⟨l.toArray⟩) ∧ Below B w w' := Any.Builder_String_any Try.lays169 Try.Builder_Extra_169 B b l w h hBw
open Go.RowKit in
theorem Try.Builder_String_f (B b : Nat) (l : List UInt8) (w : World) (h : Lib.IsBuilderF 91 5 B b (Lib.byteCells l) w) (h0 : l ≠ []) :
    Calls Try.prog 70 #[.pointer (some ⟨b, 0, none⟩)] w fun e w' => e = .returned (.string ⟨l.toArray⟩) ∧ (Lib.IsBuilderF 91 5 B b (Lib.byteCells l) w' ∧ Below B w w') := Any.Builder_String_f Try.lays169 Try.Builder_Extra_169 B b l w h h0
open Go.RowKit in
theorem Try.Builder_String_empty_f (B b : Nat) (w : World) (h : Lib.IsBuilderF 91 5 B b [] w) (hBw : B ≤ w.heap.size) :
    Calls Try.prog 70 #[.pointer (some ⟨b, 0, none⟩)] w fun e w' => e = .returned (.string ⟨#[]⟩) ∧ (Lib.IsBuilderF 91 5 B b [] w' ∧ Below B w w') := Any.Builder_String_empty_f Try.lays169 Try.Builder_Extra_169 B b w h hBw
open Go.RowKit in
theorem Try.Builder_String_any_f (B b : Nat) (l : List UInt8) (w : World) (h : Lib.IsBuilderF 91 5 B b (Lib.byteCells l) w) (hBw : B ≤ w.heap.size) :
    Calls Try.prog 70 #[.pointer (some ⟨b, 0, none⟩)] w fun e w' => e = .returned (.string ⟨l.toArray⟩) ∧ (Lib.IsBuilderF 91 5 B b (Lib.byteCells l) w' ∧ Below B w w') := Any.Builder_String_any_f Try.lays169 Try.Builder_Extra_169 B b l w h hBw
open Go.RowKit in
theorem Try.Builder_String_k (B b : Nat) (l : List UInt8) (w : World) (h : Lib.IsBuilderF 91 5 B b (Lib.byteCells l) w) (h0 : l ≠ []) :
    Calls Try.prog 70 #[.pointer (some ⟨b, 0, none⟩)] w fun e w' => e = .returned (.string ⟨l.toArray⟩) ∧ (Lib.IsBuilderF 91 5 B b (Lib.byteCells l) w' ∧ Below B w w' ∧ Lib.OthersKept 5 (some b) w w') := Any.Builder_String_k Try.lays169 Try.Builder_Extra_169 B b l w h h0
open Go.RowKit in
theorem Try.Builder_String_empty_k (B b : Nat) (w : World) (h : Lib.IsBuilderF 91 5 B b [] w) (hBw : B ≤ w.heap.size) :
    Calls Try.prog 70 #[.pointer (some ⟨b, 0, none⟩)] w fun e w' => e = .returned (.string ⟨#[]⟩) ∧ (Lib.IsBuilderF 91 5 B b [] w' ∧ Below B w w' ∧ Lib.OthersKept 5 (some b) w w') := Any.Builder_String_empty_k Try.lays169 Try.Builder_Extra_169 B b w h hBw
open Go.RowKit in
theorem Try.Builder_String_any_k (B b : Nat) (l : List UInt8) (w : World) (h : Lib.IsBuilderF 91 5 B b (Lib.byteCells l) w) (hBw : B ≤ w.heap.size) :
    Calls Try.prog 70 #[.pointer (some ⟨b, 0, none⟩)] w fun e w' => e = .returned (.string ⟨l.toArray⟩) ∧ (Lib.IsBuilderF 91 5 B b (Lib.byteCells l) w' ∧ Below B w w' ∧ Lib.OthersKept 5 (some b) w w') := Any.Builder_String_any_k Try.lays169 Try.Builder_Extra_169 B b l w h hBw
def Try.lays264_ren : Go.Shelf.Ren := ⟨fun | 264 => 89 | n => n, fun | 53 => 119 | 46 => 97 | n => n, fun | n => n⟩
theorem Try.lays264 : Go.Proofs.Lays.n264 Try.prog Try.lays264_ren := {
  mixed := by kernel_rfl
  f264 := Try.func89.trans (congrArg some (by kernel_rfl))
  t46 := Try.underlying97
  a46 := Try.isAgg97
  z46 := Try.sizeOf97
  v46 := Try.zeroValue97
  t53 := Try.underlying119
  a53 := Try.isAgg119
  z53 := Try.sizeOf119
  v53 := Try.zeroValue119 }
open Go.RowKit Go.Lib in
theorem Try.bits_Mul64 (x y : Nat) (hx : x < 18446744073709551616) (hy : y < 18446744073709551616) (w : World) :
    Calls Try.prog 89 #[.int .u64 x, .int .u64 y] w fun e w' => e = .returned (.tuple #[.int .u64 ((x * y / 18446744073709551616 : Nat) : Int), .int .u64 ((x * y % 18446744073709551616 : Nat) : Int)]) ∧ w' = w := Any.bits_Mul64 Try.lays264 x y hx hy w
def Try.lays212_ren : Go.Shelf.Ren := ⟨fun | 212 => 87 | 263 => 88 | 264 => 89 | n => n, fun | 46 => 97 | 51 => 116 | 146 => 117 | 53 => 119 | 148 => 120 | n => n, fun | n => n⟩
theorem Try.lays212 : Go.Proofs.Lays.n212 Try.prog Try.lays212_ren := {
  mixed := by kernel_rfl
  f212 := Try.func87.trans (congrArg some (by kernel_rfl))
  f263 := Try.func88.trans (congrArg some (by kernel_rfl))
  f264 := Try.func89.trans (congrArg some (by kernel_rfl))
  t46 := Try.underlying97
  a46 := Try.isAgg97
  z46 := Try.sizeOf97
  v46 := Try.zeroValue97
  t51 := Try.underlying116
  a51 := Try.isAgg116
  z51 := Try.sizeOf116
  v51 := Try.zeroValue116
  t53 := Try.underlying119
  a53 := Try.isAgg119
  z53 := Try.sizeOf119
  v53 := Try.zeroValue119
  t146 := Try.underlying117
  a146 := Try.isAgg117
  z146 := Try.sizeOf117
  v146 := Try.zeroValue117
  t148 := Try.underlying120
  a148 := Try.isAgg120
  z148 := Try.sizeOf120
  v148 := Try.zeroValue120 }
open Go.RowKit Go.Lib in
theorem Try.bits_Mul (x y : Nat) (hx : x < 18446744073709551616) (hy : y < 18446744073709551616) (w : World) :
    Calls Try.prog 87 #[.int .u64 x, .int .u64 y] w fun e w' => e = .returned (.tuple #[.int .u64 ((x * y / 18446744073709551616 : Nat) : Int), .int .u64 ((x * y % 18446744073709551616 : Nat) : Int)]) ∧ w' = w := Any.bits_Mul Try.lays212 x y hx hy w
end Go.Proofs

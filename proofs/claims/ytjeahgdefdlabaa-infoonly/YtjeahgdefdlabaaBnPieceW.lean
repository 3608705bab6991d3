/-
  The contract of bin.Piece: it answers what the plain function on bytes says. No conditions beyond those stated.
-/
import Derived.Test.YtjeahgdefdlabaaBnGet2
import Derived.Test.YtjeahgdefdlabaaBnCaughtS
namespace Go.Proofs.Ytjeahgdefdlabaa
open Go.RowKit

set_option maxHeartbeats 400000 in
theorem piece1_ret (b0 b1 b2 : Nat) (l : List UInt8) (pos n : Nat) (w : World) (hc0 : w.cell? ⟨b0, 0, none⟩ = some (.string ⟨l.toArray⟩)) (hc1 : w.cell? ⟨b1, 0, none⟩ = some (.int .i64 pos)) (hc2 : w.cell? ⟨b2, 0, none⟩ = some (.int .i64 n))
    (hl : l.length ≤ 9223372036854775807) (hfit : pos + n ≤ l.length) :
    Calls Try.prog 43 #[.pointer (some ⟨b0, 0, none⟩), .pointer (some ⟨b1, 0, none⟩), .pointer (some ⟨b2, 0, none⟩)] w fun e w' => ∃ u, e = .returned u ∧ u = .string ⟨((l.drop pos).take n).toArray⟩ ∧ Lo w w' := by
  have HP := Lib.hid (fun W => piece_ret l pos n W hfit hl)
  generalize (l.drop pos).take n = body at *
  clear hfit
  go_enter Try.func43, Try.ntmps43
  go_wp2_with fail
  refine (HP.out _).mono ?_
  rintro e w1 ⟨rfl, rfl⟩
  go_wp2_with fail
  go_ret
  exact ⟨_, rfl, rfl, Lo.refl _⟩

set_option maxHeartbeats 400000 in
theorem piece1_raise (b0 b1 b2 : Nat) (l : List UInt8) (pos n : Int) (w : World) (hc0 : w.cell? ⟨b0, 0, none⟩ = some (.string ⟨l.toArray⟩)) (hc1 : w.cell? ⟨b1, 0, none⟩ = some (.int .i64 pos)) (hc2 : w.cell? ⟨b2, 0, none⟩ = some (.int .i64 n))
    (hl : l.length ≤ 9223372036854775807) (h0 : 0 ≤ pos) (h1 : pos ≤ 9223372036854775807) (hfit : (l.length : Int) - pos < n) :
    Calls Try.prog 43 #[.pointer (some ⟨b0, 0, none⟩), .pointer (some ⟨b1, 0, none⟩), .pointer (some ⟨b2, 0, none⟩)] w fun e w' => e = .panicked (raise 4) ∧ Lo w w' := by
  have HP := Lib.hid (fun W => piece_raise l pos n W h0 h1 hfit hl)
  clear hfit
  go_enter Try.func43, Try.ntmps43
  go_wp2_with fail
  refine (HP.out _).mono ?_
  rintro e w1 ⟨rfl, rfl⟩
  exact ⟨rfl, rfl, Lo.refl _⟩

/-- The world in which Piece's work is called. -/
def held2 (w : World) (s : Value) (pos n : Int) : World := ((w.alloc (.cells #[s] 9)).alloc (.cells #[.int .i64 pos] 3)).alloc (.cells #[.int .i64 n] 3)
theorem held2_lo (w : World) (s : Value) (pos n : Int) : Lo w (held2 w s pos n) := (((Lo.refl w).alloc _).alloc _).alloc _

set_option maxHeartbeats 400000 in
theorem bpiece_arg (l : List UInt8) (pos n : Int) (w : World) (h : pos < 0 ∨ n < 0) :
    Calls Try.prog 18 #[.string ⟨l.toArray⟩, .int .i64 pos, .int .i64 n] w fun e w' => e = strErr ([], 1) ∧ Lo w w' := by
  by_cases hp : pos < 0
  · clear h
    go_enter Try.func18, Try.ntmps18
    go_wp2_with fail
    go_ret2
    exact ⟨rfl, held2_lo w _ _ _⟩
  · have h2 : n < 0 := by omega
    clear h
    go_enter Try.func18, Try.ntmps18
    go_wp2_with fail
    go_ret2
    exact ⟨rfl, held2_lo w _ _ _⟩

set_option maxHeartbeats 800000 in
theorem bpiece_work (l : List UInt8) (pos n : Int) (w : World) (u : Value) (k : Int) (h : 0 ≤ pos) (h2 : 0 ≤ n)
    (hW : Calls Try.prog 42 #[.func (.func 43) #[] #[.pointer (some ⟨w.heap.size, 0, none⟩), .pointer (some ⟨w.heap.size + 1, 0, none⟩), .pointer (some ⟨w.heap.size + 2, 0, none⟩)]] (held2 w (.string ⟨l.toArray⟩) pos n) fun e w' => e = .returned (.tuple #[u, .int .i64 k]) ∧ Lo (held2 w (.string ⟨l.toArray⟩) pos n) w') :
    Calls Try.prog 18 #[.string ⟨l.toArray⟩, .int .i64 pos, .int .i64 n] w fun e w' => e = .returned (.tuple #[u, .int .i64 k]) ∧ Lo w w' := by
  have hmf : ∀ (fn : Fn) (first cap : Array Value) (w : World), (Instr.makeFunc fn first cap).run Try.prog w = .ok (.func fn first cap) w := fun _ _ _ _ => rfl
  have HW := Lib.hid hW
  have HL := Lib.hid (held2_lo w (.string ⟨l.toArray⟩) pos n)
  clear hW
  go_enter Try.func18, Try.ntmps18
  go_wp2_with fail
  refine HW.out.mono ?_
  rintro e w1 ⟨rfl, hlo⟩
  clear HW
  go_wp2_with fail
  go_ret2
  exact ⟨rfl, HL.out.trans hlo⟩

/-- bin.Piece. -/
theorem bpiece_any (l : List UInt8) (pos n : Int) (w : World) (hl : l.length ≤ 9223372036854775807) (h1 : pos ≤ 9223372036854775807) :
    Calls Try.prog 18 #[.string ⟨l.toArray⟩, .int .i64 pos, .int .i64 n] w fun e w' => e = strErr (Bn.piece l pos n) ∧ Lo w w' := by
  unfold Bn.piece
  by_cases c0 : pos < 0 ∨ n < 0
  · rw [if_pos c0]; exact bpiece_arg l pos n w c0
  · rw [if_neg c0]
    have hc0 : (held2 w (.string ⟨l.toArray⟩) pos n).cell? ⟨w.heap.size, 0, none⟩ = some (.string ⟨l.toArray⟩) := by simp [held2, go_sem]
    have hc1 : (held2 w (.string ⟨l.toArray⟩) pos n).cell? ⟨w.heap.size + 1, 0, none⟩ = some (.int .i64 pos) := by simp [held2, go_sem]
    have hc2 : (held2 w (.string ⟨l.toArray⟩) pos n).cell? ⟨w.heap.size + 2, 0, none⟩ = some (.int .i64 n) := by simp [held2, go_sem]
    have hsz : (held2 w (.string ⟨l.toArray⟩) pos n).heap.size = w.heap.size + 3 := by simp [held2]
    have bl := boxed_lo (held2 w (.string ⟨l.toArray⟩) pos n)
    by_cases cm : (l.length : Int) - pos < n
    · rw [if_pos (.inr cm)]
      exact bpiece_work l pos n w _ 4 (by omega) (by omega) (scaught_raised 43 _ 4 _ (fun W => by simp [go_sem])
        (piece1_raise w.heap.size (w.heap.size + 1) (w.heap.size + 2) l pos n _ ((bl.cell (by omega)).trans hc0) ((bl.cell (by omega)).trans hc1) ((bl.cell (by omega)).trans hc2) hl (by omega) h1 cm))
    · rw [if_neg (by rintro (h | h) <;> omega)]
      obtain ⟨q, rfl⟩ := Int.eq_ofNat_of_zero_le (show 0 ≤ pos by omega)
      obtain ⟨m, rfl⟩ := Int.eq_ofNat_of_zero_le (show 0 ≤ n by omega)
      refine bpiece_work l q m w _ 0 (by omega) (by omega) ((scaught_ret 43 _ _ (fun _ u => u = .string ⟨((l.drop q).take m).toArray⟩) (fun W => by simp [go_sem])
        (piece1_ret w.heap.size (w.heap.size + 1) (w.heap.size + 2) l q m _ ((bl.cell (by omega)).trans hc0) ((bl.cell (by omega)).trans hc1) ((bl.cell (by omega)).trans hc2) hl (by omega)) (fun _ _ _ h => h)).mono ?_)
      rintro e w' ⟨u, rfl, rfl, hlo⟩
      exact ⟨rfl, hlo⟩
end Go.Proofs.Ytjeahgdefdlabaa

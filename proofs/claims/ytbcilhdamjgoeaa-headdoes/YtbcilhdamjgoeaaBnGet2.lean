/-
  The contracts of bin.Get and bin.Piece, whole: they answer what the plain functions on bytes say. No conditions beyond those stated.
-/
import Derived.Test.YtbcilhdamjgoeaaBnGet
namespace Go.Proofs.Ytbcilhdamjgoeaa
open Go.RowKit

/-- A row and an error, told. -/
def GotRow (a : List Int × Int) (w : World) (e : Ending) (w' : World) : Prop := ∃ p c, e = .returned (.tuple #[.slice p a.1.length c, .int .i64 a.2]) ∧ Row w' (.slice p a.1.length c) a.1 ∧ Lo w w'
/-- A text and an error, told. -/
def strErr (a : List UInt8 × Int) : Ending := .returned (.tuple #[.string ⟨a.1.toArray⟩, .int .i64 a.2])

theorem GotRow.nil {w w' : World} {k : Int} {e : Ending} (he : e = .returned (.tuple #[.slice none 0 0, .int .i64 k])) (h : Lo w w') : GotRow ([], k) w e w' := by
  subst he
  exact ⟨none, 0, rfl, .inl ⟨_, _, rfl, fun _ => rfl, rfl⟩, h⟩

/-- The world in which Get's work is called: its three arguments lie in memory. -/
def held (w : World) (s : Value) (pos : Int) (v : Value) : World := ((w.alloc (.cells #[s] 9)).alloc (.cells #[.int .i64 pos] 3)).alloc (.cells #[v] 37)
theorem held_lo (w : World) (s : Value) (pos : Int) (v : Value) : Lo w (held w s pos v) := (((Lo.refl w).alloc _).alloc _).alloc _

set_option maxHeartbeats 400000 in
theorem get_neg (l : List UInt8) (pos : Int) (p : Option Addr) (n c : Nat) (w : World) (h : pos < 0) :
    Calls Try.prog 17 #[.string ⟨l.toArray⟩, .int .i64 pos, .slice p n c] w fun e w' => GotRow ([], 1) w e w' := by
  go_enter Try.func17, Try.ntmps17
  go_wp2_with fail
  go_ret2
  exact GotRow.nil rfl ((((Lo.refl w).alloc _).alloc _).alloc _)

set_option maxHeartbeats 400000 in
theorem get_size (l : List UInt8) (pos : Int) (p : Option Addr) (n c : Nat) (sizes : List Int) (w : World) (h : 0 ≤ pos) (hr : Row w (.slice p n c) sizes) (hs : Bn.allSizes sizes = false) :
    Calls Try.prog 17 #[.string ⟨l.toArray⟩, .int .i64 pos, .slice p n c] w fun e w' => GotRow ([], 1) w e w' := by
  have HA := Lib.hid (areSizes_any (.slice p n c) sizes _ (hr.lo (held_lo w (.string ⟨l.toArray⟩) pos (.slice p n c))))
  rw [hs] at HA
  clear hr hs
  go_enter Try.func17, Try.ntmps17
  go_wp2_with fail
  refine HA.out.mono ?_
  rintro e w1 ⟨rfl, rfl⟩
  go_wp2_with fail
  go_ret2
  exact GotRow.nil rfl (held_lo w _ _ _)

set_option maxHeartbeats 800000 in
theorem get_more (l : List UInt8) (pos : Int) (p : Option Addr) (n c : Nat) (sizes : List Int) (w : World) (h : 0 ≤ pos) (h1 : pos ≤ 9223372036854775807) (hr : Row w (.slice p n c) sizes) (hs : Bn.allSizes sizes = true) (hn : sizes.length ≤ 100000) (hl : l.length ≤ 9223372036854775807) (hfit : (l.length : Int) - pos < (Bn.many sizes : Nat)) :
    Calls Try.prog 17 #[.string ⟨l.toArray⟩, .int .i64 pos, .slice p n c] w fun e w' => GotRow ([], 4) w e w' := by
  have hmf : ∀ (fn : Fn) (first cap : Array Value) (w : World), (Instr.makeFunc fn first cap).run Try.prog w = .ok (.func fn first cap) w := fun _ _ _ _ => rfl
  have hrow := hr.lo (held_lo w (.string ⟨l.toArray⟩) pos (.slice p n c))
  have hc0 : (held w (.string ⟨l.toArray⟩) pos (.slice p n c)).cell? ⟨w.heap.size, 0, none⟩ = some (.string ⟨l.toArray⟩) := by simp [held, go_sem]
  have hc1 : (held w (.string ⟨l.toArray⟩) pos (.slice p n c)).cell? ⟨w.heap.size + 1, 0, none⟩ = some (.int .i64 pos) := by simp [held, go_sem]
  have hc2 : (held w (.string ⟨l.toArray⟩) pos (.slice p n c)).cell? ⟨w.heap.size + 2, 0, none⟩ = some (.slice p n c) := by simp [held, go_sem]
  have hsz : (held w (.string ⟨l.toArray⟩) pos (.slice p n c)).heap.size = w.heap.size + 3 := by simp [held]
  have bl := boxed_lo (held w (.string ⟨l.toArray⟩) pos (.slice p n c))
  have HW := Lib.hid (rcaught_raised 45 #[.pointer (some ⟨w.heap.size, 0, none⟩), .pointer (some ⟨w.heap.size + 1, 0, none⟩), .pointer (some ⟨w.heap.size + 2, 0, none⟩)] 4 (held w (.string ⟨l.toArray⟩) pos (.slice p n c)) (fun W => by simp [go_sem])
    (get1_raise w.heap.size (w.heap.size + 1) (w.heap.size + 2) l pos sizes (.slice p n c) _ ((bl.cell (by omega)).trans hc0) ((bl.cell (by omega)).trans hc1) ((bl.cell (by omega)).trans hc2) (hrow.lo bl) hs hn hl h h1 hfit))
  have HA := Lib.hid (areSizes_any (.slice p n c) sizes _ hrow)
  rw [hs] at HA
  have HL := Lib.hid (held_lo w (.string ⟨l.toArray⟩) pos (.slice p n c))
  clear hr hs hfit hrow hc0 hc1 hc2 hsz bl
  go_enter Try.func17, Try.ntmps17
  go_wp2_with fail
  refine HA.out.mono ?_
  rintro e w1 ⟨rfl, rfl⟩
  go_wp2_with fail
  refine HW.out.mono ?_
  rintro e w1 ⟨rfl, hlo⟩
  clear HW HA
  go_wp2_with fail
  go_ret2
  exact GotRow.nil rfl (HL.out.trans hlo)

set_option maxHeartbeats 800000 in
theorem get_ok (l : List UInt8) (pos : Nat) (p : Option Addr) (n c : Nat) (sizes : List Int) (w : World) (hr : Row w (.slice p n c) sizes) (hs : Bn.allSizes sizes = true) (hn : sizes.length ≤ 100000) (hl : l.length ≤ 9223372036854775807) (hfit : pos + Bn.many sizes ≤ l.length) :
    Calls Try.prog 17 #[.string ⟨l.toArray⟩, .int .i64 pos, .slice p n c] w fun e w' => GotRow (Bn.fields (l.drop pos) sizes, 0) w e w' := by
  have hmf : ∀ (fn : Fn) (first cap : Array Value) (w : World), (Instr.makeFunc fn first cap).run Try.prog w = .ok (.func fn first cap) w := fun _ _ _ _ => rfl
  have hp0 : ¬ (pos : Int) < 0 := by omega
  have hrow := hr.lo (held_lo w (.string ⟨l.toArray⟩) pos (.slice p n c))
  have hc0 : (held w (.string ⟨l.toArray⟩) pos (.slice p n c)).cell? ⟨w.heap.size, 0, none⟩ = some (.string ⟨l.toArray⟩) := by simp [held, go_sem]
  have hc1 : (held w (.string ⟨l.toArray⟩) pos (.slice p n c)).cell? ⟨w.heap.size + 1, 0, none⟩ = some (.int .i64 pos) := by simp [held, go_sem]
  have hc2 : (held w (.string ⟨l.toArray⟩) pos (.slice p n c)).cell? ⟨w.heap.size + 2, 0, none⟩ = some (.slice p n c) := by simp [held, go_sem]
  have hsz : (held w (.string ⟨l.toArray⟩) pos (.slice p n c)).heap.size = w.heap.size + 3 := by simp [held]
  have bl := boxed_lo (held w (.string ⟨l.toArray⟩) pos (.slice p n c))
  have bs := boxed_size (held w (.string ⟨l.toArray⟩) pos (.slice p n c))
  have HW := Lib.hid (rcaught_ret 45 #[.pointer (some ⟨w.heap.size, 0, none⟩), .pointer (some ⟨w.heap.size + 1, 0, none⟩), .pointer (some ⟨w.heap.size + 2, 0, none⟩)] (held w (.string ⟨l.toArray⟩) pos (.slice p n c)) (fun w' v => Own w' (boxed (held w (.string ⟨l.toArray⟩) pos (.slice p n c))).heap.size v (Bn.fields (l.drop pos) sizes)) (fun W => by simp [go_sem])
    (get1_ret w.heap.size (w.heap.size + 1) (w.heap.size + 2) l pos sizes (.slice p n c) _ ((bl.cell (by omega)).trans hc0) ((bl.cell (by omega)).trans hc1) ((bl.cell (by omega)).trans hc2) (by omega) (hrow.lo bl) hs hn hl hfit) (fun w' v u h => Own.set h (by rw [bs]; exact Nat.lt_succ_self _) u))
  have HA := Lib.hid (areSizes_any (.slice p n c) sizes _ hrow)
  rw [hs] at HA
  have HL := Lib.hid (held_lo w (.string ⟨l.toArray⟩) pos (.slice p n c))
  clear hr hs hfit hrow hc0 hc1 hc2 hsz bl bs
  go_enter Try.func17, Try.ntmps17
  go_wp2_with fail
  refine HA.out.mono ?_
  rintro e w1 ⟨rfl, rfl⟩
  go_wp2_with fail
  refine HW.out.mono ?_
  rintro e w1 ⟨v, rfl, hown, hlo⟩
  clear HW HA
  obtain ⟨pv, cv, rfl⟩ := Own.form hown
  have HR := Lib.hid (Own.row hown)
  clear hown
  go_wp2_with fail
  go_ret2
  exact ⟨pv, cv, rfl, HR.out, HL.out.trans hlo⟩

/-- bin.Get. -/
theorem get_any (l : List UInt8) (pos : Int) (v : Value) (sizes : List Int) (w : World) (hr : Row w v sizes) (hn : sizes.length ≤ 100000) (hl : l.length ≤ 9223372036854775807) (h1 : pos ≤ 9223372036854775807) :
    Calls Try.prog 17 #[.string ⟨l.toArray⟩, .int .i64 pos, v] w fun e w' => GotRow (Bn.get l pos sizes) w e w' := by
  obtain ⟨p, c, rfl, hlen⟩ := hr.form
  unfold Bn.get
  by_cases c0 : pos < 0
  · rw [if_pos (.inr c0)]; exact get_neg l pos p _ c w c0
  · by_cases cs : Bn.allSizes sizes = false
    · rw [if_pos (.inl cs)]; exact get_size l pos p _ c sizes w (by omega) hr cs
    · rw [if_neg (by rintro (h | h) <;> contradiction)]
      have hs : Bn.allSizes sizes = true := by simpa using cs
      by_cases cm : (l.length : Int) - pos < (Bn.many sizes : Nat)
      · rw [if_pos (.inr cm)]; exact get_more l pos p _ c sizes w (by omega) h1 hr hs hn hl cm
      · rw [if_neg (by rintro (h | h) <;> omega)]
        obtain ⟨q, rfl⟩ := Int.eq_ofNat_of_zero_le (show 0 ≤ pos by omega)
        exact get_ok l q p _ c sizes w hr hs hn hl (by omega)

set_option maxHeartbeats 400000 in
theorem piece1_ret (b0 b1 b2 : Nat) (l : List UInt8) (pos n : Nat) (w : World) (hc0 : w.cell? ⟨b0, 0, none⟩ = some (.string ⟨l.toArray⟩)) (hc1 : w.cell? ⟨b1, 0, none⟩ = some (.int .i64 pos)) (hc2 : w.cell? ⟨b2, 0, none⟩ = some (.int .i64 n))
    (hl : l.length ≤ 9223372036854775807) (hfit : pos + n ≤ l.length) :
    Calls Try.prog 99 #[.pointer (some ⟨b0, 0, none⟩), .pointer (some ⟨b1, 0, none⟩), .pointer (some ⟨b2, 0, none⟩)] w fun e w' => ∃ u, e = .returned u ∧ u = .string ⟨((l.drop pos).take n).toArray⟩ ∧ Lo w w' := by
  have HP := Lib.hid (fun W => piece_ret l pos n W hfit hl)
  generalize (l.drop pos).take n = body at *
  clear hfit
  go_enter Try.func99, Try.ntmps99
  go_wp2_with fail
  refine (HP.out _).mono ?_
  rintro e w1 ⟨rfl, rfl⟩
  go_wp2_with fail
  go_ret
  exact ⟨_, rfl, rfl, Lo.refl _⟩

set_option maxHeartbeats 400000 in
theorem piece1_raise (b0 b1 b2 : Nat) (l : List UInt8) (pos n : Int) (w : World) (hc0 : w.cell? ⟨b0, 0, none⟩ = some (.string ⟨l.toArray⟩)) (hc1 : w.cell? ⟨b1, 0, none⟩ = some (.int .i64 pos)) (hc2 : w.cell? ⟨b2, 0, none⟩ = some (.int .i64 n))
    (hl : l.length ≤ 9223372036854775807) (h0 : 0 ≤ pos) (h1 : pos ≤ 9223372036854775807) (hfit : (l.length : Int) - pos < n) :
    Calls Try.prog 99 #[.pointer (some ⟨b0, 0, none⟩), .pointer (some ⟨b1, 0, none⟩), .pointer (some ⟨b2, 0, none⟩)] w fun e w' => e = .panicked (raise 4) ∧ Lo w w' := by
  have HP := Lib.hid (fun W => piece_raise l pos n W h0 h1 hfit hl)
  clear hfit
  go_enter Try.func99, Try.ntmps99
  go_wp2_with fail
  refine (HP.out _).mono ?_
  rintro e w1 ⟨rfl, rfl⟩
  exact ⟨rfl, rfl, Lo.refl _⟩

/-- The world in which Piece's work is called. -/
def held2 (w : World) (s : Value) (pos n : Int) : World := ((w.alloc (.cells #[s] 9)).alloc (.cells #[.int .i64 pos] 3)).alloc (.cells #[.int .i64 n] 3)
theorem held2_lo (w : World) (s : Value) (pos n : Int) : Lo w (held2 w s pos n) := (((Lo.refl w).alloc _).alloc _).alloc _

set_option maxHeartbeats 400000 in
theorem bpiece_arg (l : List UInt8) (pos n : Int) (w : World) (h : pos < 0 ∨ n < 0) :
    Calls Try.prog 67 #[.string ⟨l.toArray⟩, .int .i64 pos, .int .i64 n] w fun e w' => e = strErr ([], 1) ∧ Lo w w' := by
  by_cases hp : pos < 0
  · clear h
    go_enter Try.func67, Try.ntmps67
    go_wp2_with fail
    go_ret2
    exact ⟨rfl, held2_lo w _ _ _⟩
  · have h2 : n < 0 := by omega
    clear h
    go_enter Try.func67, Try.ntmps67
    go_wp2_with fail
    go_ret2
    exact ⟨rfl, held2_lo w _ _ _⟩

set_option maxHeartbeats 800000 in
theorem bpiece_work (l : List UInt8) (pos n : Int) (w : World) (u : Value) (k : Int) (h : 0 ≤ pos) (h2 : 0 ≤ n)
    (hW : Calls Try.prog 98 #[.func (.func 99) #[] #[.pointer (some ⟨w.heap.size, 0, none⟩), .pointer (some ⟨w.heap.size + 1, 0, none⟩), .pointer (some ⟨w.heap.size + 2, 0, none⟩)]] (held2 w (.string ⟨l.toArray⟩) pos n) fun e w' => e = .returned (.tuple #[u, .int .i64 k]) ∧ Lo (held2 w (.string ⟨l.toArray⟩) pos n) w') :
    Calls Try.prog 67 #[.string ⟨l.toArray⟩, .int .i64 pos, .int .i64 n] w fun e w' => e = .returned (.tuple #[u, .int .i64 k]) ∧ Lo w w' := by
  have hmf : ∀ (fn : Fn) (first cap : Array Value) (w : World), (Instr.makeFunc fn first cap).run Try.prog w = .ok (.func fn first cap) w := fun _ _ _ _ => rfl
  have HW := Lib.hid hW
  have HL := Lib.hid (held2_lo w (.string ⟨l.toArray⟩) pos n)
  clear hW
  go_enter Try.func67, Try.ntmps67
  go_wp2_with fail
  refine HW.out.mono ?_
  rintro e w1 ⟨rfl, hlo⟩
  clear HW
  go_wp2_with fail
  go_ret2
  exact ⟨rfl, HL.out.trans hlo⟩

/-- bin.Piece. -/
theorem bpiece_any (l : List UInt8) (pos n : Int) (w : World) (hl : l.length ≤ 9223372036854775807) (h1 : pos ≤ 9223372036854775807) :
    Calls Try.prog 67 #[.string ⟨l.toArray⟩, .int .i64 pos, .int .i64 n] w fun e w' => e = strErr (Bn.piece l pos n) ∧ Lo w w' := by
  unfold Bn.piece
  by_cases c0 : pos < 0 ∨ n < 0
  · rw [if_pos c0]; exact bpiece_arg l pos n w c0
  · rw [if_neg c0]
    have hc0 : (held2 w (.string ⟨l.toArray⟩) pos n).cell? ⟨w.heap.size, 0, none⟩ = some (.string ⟨l.toArray⟩) := by simp [held2, go_sem]
    have hc1 : (held2 w (.string ⟨l.toArray⟩) pos n).cell? ⟨w.heap.size + 1, 0, none⟩ = some (.int .i64 pos) := by simp [held2, go_sem]
    have hc2 : (held2 w (.string ⟨l.toArray⟩) pos n).cell? ⟨w.heap.size + 2, 0, none⟩ = some (.int .i64 n) := by simp [held2, go_sem]
    have hsz : (held2 w (.string ⟨l.toArray⟩) pos n).heap.size = w.heap.size + 3 := by simp [held2]
    have bl := boxed_lo (held2 w (.string ⟨l.toArray⟩) pos n)
    by_cases cm : (l.length : Int) - pos < n
    · rw [if_pos (.inr cm)]
      exact bpiece_work l pos n w _ 4 (by omega) (by omega) (scaught_raised 99 _ 4 _ (fun W => by simp [go_sem])
        (piece1_raise w.heap.size (w.heap.size + 1) (w.heap.size + 2) l pos n _ ((bl.cell (by omega)).trans hc0) ((bl.cell (by omega)).trans hc1) ((bl.cell (by omega)).trans hc2) hl (by omega) h1 cm))
    · rw [if_neg (by rintro (h | h) <;> omega)]
      obtain ⟨q, rfl⟩ := Int.eq_ofNat_of_zero_le (show 0 ≤ pos by omega)
      obtain ⟨m, rfl⟩ := Int.eq_ofNat_of_zero_le (show 0 ≤ n by omega)
      refine bpiece_work l q m w _ 0 (by omega) (by omega) ((scaught_ret 99 _ _ (fun _ u => u = .string ⟨((l.drop q).take m).toArray⟩) (fun W => by simp [go_sem])
        (piece1_ret w.heap.size (w.heap.size + 1) (w.heap.size + 2) l q m _ ((bl.cell (by omega)).trans hc0) ((bl.cell (by omega)).trans hc1) ((bl.cell (by omega)).trans hc2) hl (by omega)) (fun _ _ _ h => h)).mono ?_)
      rintro e w' ⟨u, rfl, rfl, hlo⟩
      exact ⟨rfl, hlo⟩
end Go.Proofs.Ytbcilhdamjgoeaa

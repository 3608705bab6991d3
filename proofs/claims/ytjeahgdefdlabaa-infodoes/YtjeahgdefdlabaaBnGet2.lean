/-
  The contracts of bin.Get and bin.Piece, whole: they answer what the plain functions on bytes say. No conditions beyond those stated.
-/
import Derived.Test.YtjeahgdefdlabaaBnGet
namespace Go.Proofs.Ytjeahgdefdlabaa
open Go.RowKit

/-- A row and an error, told. -/
def GotRow (a : List Int × Int) (w : World) (e : Ending) (w' : World) : Prop := ∃ p c, e = .returned (.tuple #[.slice p a.1.length c, .int .i64 a.2]) ∧ Row w' (.slice p a.1.length c) a.1 ∧ Lo w w'
/-- A text and an error, told. -/
def strErr (a : List UInt8 × Int) : Ending := .returned (.tuple #[.string ⟨a.1.toArray⟩, .int .i64 a.2])

theorem GotRow.nil {w w' : World} {k : Int} {e : Ending} (he : e = .returned (.tuple #[.slice none 0 0, .int .i64 k])) (h : Lo w w') : GotRow ([], k) w e w' := by
  subst he
  exact ⟨none, 0, rfl, .inl ⟨_, _, rfl, fun _ => rfl, rfl⟩, h⟩

/-- The world in which Get's work is called: its three arguments lie in memory. -/
def held (w : World) (s : Value) (pos : Int) (v : Value) : World := ((w.alloc (.cells #[s] 9)).alloc (.cells #[.int .i64 pos] 3)).alloc (.cells #[v] 37)
theorem held_lo (w : World) (s : Value) (pos : Int) (v : Value) : Lo w (held w s pos v) := (((Lo.refl w).alloc _).alloc _).alloc _

set_option maxHeartbeats 400000 in
theorem get_neg (l : List UInt8) (pos : Int) (p : Option Addr) (n c : Nat) (w : World) (h : pos < 0) :
    Calls Try.prog 16 #[.string ⟨l.toArray⟩, .int .i64 pos, .slice p n c] w fun e w' => GotRow ([], 1) w e w' := by
  go_enter Try.func16, Try.ntmps16
  go_wp2_with fail
  go_ret2
  exact GotRow.nil rfl ((((Lo.refl w).alloc _).alloc _).alloc _)

set_option maxHeartbeats 400000 in
theorem get_size (l : List UInt8) (pos : Int) (p : Option Addr) (n c : Nat) (sizes : List Int) (w : World) (h : 0 ≤ pos) (hr : Row w (.slice p n c) sizes) (hs : Bn.allSizes sizes = false) :
    Calls Try.prog 16 #[.string ⟨l.toArray⟩, .int .i64 pos, .slice p n c] w fun e w' => GotRow ([], 1) w e w' := by
  have HA := Lib.hid (areSizes_any (.slice p n c) sizes _ (hr.lo (held_lo w (.string ⟨l.toArray⟩) pos (.slice p n c))))
  rw [hs] at HA
  clear hr hs
  go_enter Try.func16, Try.ntmps16
  go_wp2_with fail
  refine HA.out.mono ?_
  rintro e w1 ⟨rfl, rfl⟩
  go_wp2_with fail
  go_ret2
  exact GotRow.nil rfl (held_lo w _ _ _)

set_option maxHeartbeats 800000 in
theorem get_more (l : List UInt8) (pos : Int) (p : Option Addr) (n c : Nat) (sizes : List Int) (w : World) (h : 0 ≤ pos) (h1 : pos ≤ 9223372036854775807) (hr : Row w (.slice p n c) sizes) (hs : Bn.allSizes sizes = true) (hn : sizes.length ≤ 200000) (hl : l.length ≤ 9223372036854775807) (hfit : (l.length : Int) - pos < (Bn.many sizes : Nat)) :
    Calls Try.prog 16 #[.string ⟨l.toArray⟩, .int .i64 pos, .slice p n c] w fun e w' => GotRow ([], 4) w e w' := by
  have hmf : ∀ (fn : Fn) (first cap : Array Value) (w : World), (Instr.makeFunc fn first cap).run Try.prog w = .ok (.func fn first cap) w := fun _ _ _ _ => rfl
  have hrow := hr.lo (held_lo w (.string ⟨l.toArray⟩) pos (.slice p n c))
  have hc0 : (held w (.string ⟨l.toArray⟩) pos (.slice p n c)).cell? ⟨w.heap.size, 0, none⟩ = some (.string ⟨l.toArray⟩) := by simp [held, go_sem]
  have hc1 : (held w (.string ⟨l.toArray⟩) pos (.slice p n c)).cell? ⟨w.heap.size + 1, 0, none⟩ = some (.int .i64 pos) := by simp [held, go_sem]
  have hc2 : (held w (.string ⟨l.toArray⟩) pos (.slice p n c)).cell? ⟨w.heap.size + 2, 0, none⟩ = some (.slice p n c) := by simp [held, go_sem]
  have hsz : (held w (.string ⟨l.toArray⟩) pos (.slice p n c)).heap.size = w.heap.size + 3 := by simp [held]
  have bl := boxed_lo (held w (.string ⟨l.toArray⟩) pos (.slice p n c))
  have HW := Lib.hid (rcaught_raised 35 #[.pointer (some ⟨w.heap.size, 0, none⟩), .pointer (some ⟨w.heap.size + 1, 0, none⟩), .pointer (some ⟨w.heap.size + 2, 0, none⟩)] 4 (held w (.string ⟨l.toArray⟩) pos (.slice p n c)) (fun W => by simp [go_sem])
    (get1_raise w.heap.size (w.heap.size + 1) (w.heap.size + 2) l pos sizes (.slice p n c) _ ((bl.cell (by omega)).trans hc0) ((bl.cell (by omega)).trans hc1) ((bl.cell (by omega)).trans hc2) (hrow.lo bl) hs hn hl h h1 hfit))
  have HA := Lib.hid (areSizes_any (.slice p n c) sizes _ hrow)
  rw [hs] at HA
  have HL := Lib.hid (held_lo w (.string ⟨l.toArray⟩) pos (.slice p n c))
  clear hr hs hfit hrow hc0 hc1 hc2 hsz bl
  go_enter Try.func16, Try.ntmps16
  go_wp2_with fail
  refine HA.out.mono ?_
  rintro e w1 ⟨rfl, rfl⟩
  go_wp2_with fail
  refine HW.out.mono ?_
  rintro e w1 ⟨rfl, hlo⟩
  clear HW HA
  go_wp2_with fail
  go_ret2
  exact GotRow.nil rfl (HL.out.trans hlo)

set_option maxHeartbeats 800000 in
theorem get_ok (l : List UInt8) (pos : Nat) (p : Option Addr) (n c : Nat) (sizes : List Int) (w : World) (hr : Row w (.slice p n c) sizes) (hs : Bn.allSizes sizes = true) (hn : sizes.length ≤ 200000) (hl : l.length ≤ 9223372036854775807) (hfit : pos + Bn.many sizes ≤ l.length) :
    Calls Try.prog 16 #[.string ⟨l.toArray⟩, .int .i64 pos, .slice p n c] w fun e w' => GotRow (Bn.fields (l.drop pos) sizes, 0) w e w' := by
  have hmf : ∀ (fn : Fn) (first cap : Array Value) (w : World), (Instr.makeFunc fn first cap).run Try.prog w = .ok (.func fn first cap) w := fun _ _ _ _ => rfl
  have hp0 : ¬ (pos : Int) < 0 := by omega
  have hrow := hr.lo (held_lo w (.string ⟨l.toArray⟩) pos (.slice p n c))
  have hc0 : (held w (.string ⟨l.toArray⟩) pos (.slice p n c)).cell? ⟨w.heap.size, 0, none⟩ = some (.string ⟨l.toArray⟩) := by simp [held, go_sem]
  have hc1 : (held w (.string ⟨l.toArray⟩) pos (.slice p n c)).cell? ⟨w.heap.size + 1, 0, none⟩ = some (.int .i64 pos) := by simp [held, go_sem]
  have hc2 : (held w (.string ⟨l.toArray⟩) pos (.slice p n c)).cell? ⟨w.heap.size + 2, 0, none⟩ = some (.slice p n c) := by simp [held, go_sem]
  have hsz : (held w (.string ⟨l.toArray⟩) pos (.slice p n c)).heap.size = w.heap.size + 3 := by simp [held]
  have bl := boxed_lo (held w (.string ⟨l.toArray⟩) pos (.slice p n c))
  have bs := boxed_size (held w (.string ⟨l.toArray⟩) pos (.slice p n c))
  have HW := Lib.hid (rcaught_ret 35 #[.pointer (some ⟨w.heap.size, 0, none⟩), .pointer (some ⟨w.heap.size + 1, 0, none⟩), .pointer (some ⟨w.heap.size + 2, 0, none⟩)] (held w (.string ⟨l.toArray⟩) pos (.slice p n c)) (fun w' v => Own w' (boxed (held w (.string ⟨l.toArray⟩) pos (.slice p n c))).heap.size v (Bn.fields (l.drop pos) sizes)) (fun W => by simp [go_sem])
    (get1_ret w.heap.size (w.heap.size + 1) (w.heap.size + 2) l pos sizes (.slice p n c) _ ((bl.cell (by omega)).trans hc0) ((bl.cell (by omega)).trans hc1) ((bl.cell (by omega)).trans hc2) (by omega) (hrow.lo bl) hs hn hl hfit) (fun w' v u h => Own.set h (by rw [bs]; exact Nat.lt_succ_self _) u))
  have HA := Lib.hid (areSizes_any (.slice p n c) sizes _ hrow)
  rw [hs] at HA
  have HL := Lib.hid (held_lo w (.string ⟨l.toArray⟩) pos (.slice p n c))
  clear hr hs hfit hrow hc0 hc1 hc2 hsz bl bs
  go_enter Try.func16, Try.ntmps16
  go_wp2_with fail
  refine HA.out.mono ?_
  rintro e w1 ⟨rfl, rfl⟩
  go_wp2_with fail
  refine HW.out.mono ?_
  rintro e w1 ⟨v, rfl, hown, hlo⟩
  clear HW HA
  obtain ⟨pv, cv, rfl⟩ := Own.form hown
  have HR := Lib.hid (Own.row hown)
  clear hown
  go_wp2_with fail
  go_ret2
  exact ⟨pv, cv, rfl, HR.out, HL.out.trans hlo⟩

/-- bin.Get. -/
theorem get_any (l : List UInt8) (pos : Int) (v : Value) (sizes : List Int) (w : World) (hr : Row w v sizes) (hn : sizes.length ≤ 200000) (hl : l.length ≤ 9223372036854775807) (h1 : pos ≤ 9223372036854775807) :
    Calls Try.prog 16 #[.string ⟨l.toArray⟩, .int .i64 pos, v] w fun e w' => GotRow (Bn.get l pos sizes) w e w' := by
  obtain ⟨p, c, rfl, hlen⟩ := hr.form
  unfold Bn.get
  by_cases c0 : pos < 0
  · rw [if_pos (.inr c0)]; exact get_neg l pos p _ c w c0
  · by_cases cs : Bn.allSizes sizes = false
    · rw [if_pos (.inl cs)]; exact get_size l pos p _ c sizes w (by omega) hr cs
    · rw [if_neg (by rintro (h | h) <;> contradiction)]
      have hs : Bn.allSizes sizes = true := by simpa using cs
      by_cases cm : (l.length : Int) - pos < (Bn.many sizes : Nat)
      · rw [if_pos (.inr cm)]; exact get_more l pos p _ c sizes w (by omega) h1 hr hs hn hl cm
      · rw [if_neg (by rintro (h | h) <;> omega)]
        obtain ⟨q, rfl⟩ := Int.eq_ofNat_of_zero_le (show 0 ≤ pos by omega)
        exact get_ok l q p _ c sizes w hr hs hn hl (by omega)
end Go.Proofs.Ytjeahgdefdlabaa

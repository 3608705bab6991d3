/-
  Contract of segment.Many. No conditions beyond those stated.
-/
import Derived.Test.YtfnpindohoflaaaSgFit
namespace Go.Proofs.Ytfnpindohoflaaa
open Go.RowKit

theorem fit_many (l : List Ch.Span) : (Sg.fit l).1.length = (Sg.manyOf l).1 ∧ (Sg.fit l).2.1 = (Sg.manyOf l).2.1 ∧ (Sg.fit l).2.2 = (Sg.manyOf l).2.2 := by
  unfold Sg.fit
  by_cases h : (Sg.manyOf l).2.2 = 0
  · rw [if_pos h]
    obtain ⟨_, _, _, h4, h5⟩ := Sg.manyOf_ok h
    exact ⟨h4.symm, by rw [h5, Sg.glyphs_whole], h.symm⟩
  · rw [if_neg h]
    obtain ⟨h1, h2, _⟩ := Sg.manyOf_no h
    exact ⟨h1.symm, h2.symm, rfl⟩

/-- Two numbers and an error, told. -/
def manyEnd (a : Nat × Nat × Int) : Ending := .returned (.tuple #[.int .i64 (a.1 : Int), .int .i64 (a.2.1 : Int), .int .i64 a.2.2])

set_option maxRecDepth 100000 in
set_option maxHeartbeats 800000 in
theorem smany_any (v : Value) (l : List Ch.Span) (w : World) (h : SRow w v l) : Calls Try.prog 13 #[v] w fun e w' => e = manyEnd (Sg.manyOf l) ∧ Lo w w' := by
  have HF := Lib.hid (fitted_any v l w h)
  obtain ⟨h1, h2, h3⟩ := fit_many l
  have HE : Hid (manyEnd (Sg.manyOf l) = .returned (.tuple #[.int .i64 ((Sg.fit l).1.length : Int), .int .i64 ((Sg.fit l).2.1 : Int), .int .i64 (Sg.fit l).2.2])) := Lib.hid (by unfold manyEnd; rw [h1, h2, h3])
  obtain ⟨p, c, rfl, hlen⟩ := RowK.form h
  generalize manyEnd (Sg.manyOf l) = y at *
  unfold GotFit at HF
  clear h h1 h2 h3 hlen
  generalize Sg.fit l = a at *
  obtain ⟨K, g, e⟩ := a
  dsimp only at HF HE
  generalize hK : K.length = n at *
  go_enter Try.func13, Try.ntmps13
  go_wp2_with fail
  refine HF.out.mono ?_
  rintro e' w1 ⟨q, d, rfl, _, lo⟩
  have HL := Lib.hid lo
  clear lo HF
  go_wp2_with fail
  go_ret3
  rw [HE.out]
  exact ⟨rfl, HL.out⟩
end Go.Proofs.Ytfnpindohoflaaa

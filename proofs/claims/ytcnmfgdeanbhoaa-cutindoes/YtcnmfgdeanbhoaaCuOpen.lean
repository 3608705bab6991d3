/-
  Arguments that are a stair, or a slice of kerns, opened: they read as lists. No conditions beyond those stated.
-/
import Derived.Test.YtcnmfgdeanbhoaaPart03
import Derived.Test.YtcnmfgdeanbhoaaPart20
import Derived.OpenShut
namespace Go.Proofs.Ytcnmfgdeanbhoaa
open Go.RowKit Go.ChangeShapes Go.WideShapes Go.Deep

set_option maxRecDepth 100000 in
theorem stair_open {H : Type} {enc : TypeId × Value → H} {W : World} (fuel : Nat) (cs : List Value) (x : DataW H × List MemPlace) (hc : cs.length = 2)
    (h : DataW.trod enc Try.prog W 0 (fun _ => true) true fuel 35 cs = some x) : ∃ a : Cu.Stair, RS W cs a := by
  obtain ⟨ys, n, hn, hy, hlen, hyl, hfld⟩ := DataW.trod_struct Try.underlying35 h
  have ci : Try.prog.cellsOf 33 = 1 := by kernel_rfl
  have c1 : Try.prog.cellsOf 3 = 1 := by kernel_rfl
  match cs, hc with
  | [u, v], _ =>
    match ys, hyl with
    | [y0, y1], _ =>
      have g0 := hfld 0 _ rfl
      have g1 := hfld 1 _ rfl
      simp [ci] at g0 g1
      obtain ⟨u', l, e1, r1⟩ := open_rowI Try.underlying33 Try.underlying3 c1 g0
      obtain ⟨v', m, e2, r2⟩ := open_rowI Try.underlying33 Try.underlying3 c1 g1
      simp only [List.cons.injEq, and_true] at e1 e2
      subst e1 e2
      exact ⟨(l, m), u, v, rfl, r1, r2⟩
set_option maxRecDepth 100000 in
theorem kern_open {H : Type} {enc : TypeId × Value → H} {W : World} (fuel : Nat) (cs : List Value) (x : DataW H × List MemPlace) (hc : cs.length = 2)
    (h : DataW.trod enc Try.prog W 0 (fun _ => true) true fuel 42 cs = some x) : ∃ a : Cu.Kern, RK W cs a := by
  obtain ⟨ys, n, hn, hy, hlen, hyl, hfld⟩ := DataW.trod_struct Try.underlying42 h
  have ci : Try.prog.cellsOf 40 = 1 := by kernel_rfl
  have c1 : Try.prog.cellsOf 3 = 1 := by kernel_rfl
  have c2 : Try.prog.cellsOf 35 = 2 := by kernel_rfl
  match cs, hc with
  | [u, v], _ =>
    match ys, hyl with
    | [y0, y1], _ =>
      have g0 := hfld 0 _ rfl
      have g1 := hfld 1 _ rfl
      simp [ci, c1] at g0 g1
      obtain ⟨z, e1, _, _⟩ := DataW.trod_int Try.underlying3 g0
      obtain ⟨v', q, e2, r2⟩ := open_rowR (R := RS) Try.underlying40 c2 (by omega) (fun f cs' y hl hy => stair_open f cs' y hl hy) g1
      simp only [List.cons.injEq, and_true] at e1 e2
      subst e1 e2
      exact ⟨(z, q), v, rfl, r2⟩

set_option maxRecDepth 100000 in
theorem open_stair {H : Type} {enc : TypeId × Value → H} {W : World} {r : Reach} {b0 : Nat} {v : Value} {d : DataW H} {p : List MemPlace}
    (hv : Value.okWide Try.prog W r b0 35 v) (h : DataW.Trod enc Try.prog W 0 (fun _ => true) true 35 v d p) : ∃ (u s : Value) (x : Cu.Stair), v = .agg #[u, s] ∧ Row W u x.1 ∧ Row W s x.2 := by
  obtain ⟨cs, rfl, hsz⟩ := okWide_struct Try.underlying35 hv
  obtain ⟨fuel, hf⟩ := h
  have hc : Try.prog.cellsOf 35 = 2 := by kernel_rfl
  obtain ⟨l⟩ := cs
  match l, hsz.trans hc with
  | [c0, c1], _ =>
    obtain ⟨x, u, s, e, r1, r2⟩ := stair_open fuel [c0, c1] _ rfl hf
    simp only [List.cons.injEq, and_true] at e
    obtain ⟨rfl, rfl⟩ := e
    exact ⟨_, _, x, rfl, r1, r2⟩
set_option maxRecDepth 100000 in
theorem open_kerns {H : Type} {enc : TypeId × Value → H} {W : World} {a : Option Addr} {len cap : Nat} {d : DataW H} {p : List MemPlace}
    (h : DataW.Trod enc Try.prog W 0 (fun _ => true) true 22 (.slice a len cap) d p) : ∃ l : List Cu.Kern, KRowC W (.slice a len cap) l := by
  have c2 : Try.prog.cellsOf 42 = 2 := by kernel_rfl
  obtain ⟨fuel, hf⟩ := h
  obtain ⟨v, l, e, r⟩ := open_rowR (R := RK) Try.underlying22 c2 (by omega) (fun f cs' y hl hy => kern_open f cs' y hl hy) hf
  simp [Value.cells] at e
  subst e
  exact ⟨l, r⟩
end Go.Proofs.Ytcnmfgdeanbhoaa

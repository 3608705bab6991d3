/-
  Arguments that are slices of slices, opened: a slice whose elements open each reads by a relation. Nothing of the program but the type int. No conditions beyond those stated.
-/
import Derived.Test.YtcnmfgdeanbhoaaPart01
import Derived.Deep.Slices
import Derived.Deep.Fields
import Derived.OpenShut
namespace Go.Proofs.Ytcnmfgdeanbhoaa
open Go.RowKit Go.ChangeShapes Go.WideShapes Go.Deep
variable {α : Type}

theorem list_made (P : Nat → α → Prop) : ∀ (n : Nat), (∀ i, i < n → ∃ x, P i x) → ∃ l : List α, l.length = n ∧ ∀ i x, l[i]? = some x → P i x
  | 0, _ => ⟨[], rfl, by simp⟩
  | n + 1, h => by
    obtain ⟨l, hl, hp⟩ := list_made P n fun i hi => h i (by omega)
    obtain ⟨x, hx⟩ := h n (by omega)
    refine ⟨l ++ [x], by simp [hl], fun i y hy => ?_⟩
    rcases Nat.lt_or_ge i l.length with hlt | hge
    · rw [List.getElem?_append_left hlt] at hy; exact hp i y hy
    · rw [List.getElem?_append_right hge] at hy
      have : i - l.length < 1 := (List.getElem?_eq_some_iff.1 hy).1
      have hi : i = n := by omega
      rw [show i - l.length = 0 by omega] at hy
      simp at hy
      subst hy
      rw [hi]; exact hx
theorem add_plainR (b off i : Nat) : (⟨b, off, none⟩ : Addr).add i = ⟨b, off + i, none⟩ := by unfold Addr.add; split <;> simp_all

variable {H : Type} {enc : TypeId × Value → H} {W : World} {R : World → List Value → α → Prop}
/-- A slice whose elements open. -/
theorem open_rowR {t e k fuel : Nat} {cs : List Value} {x : DataW H × List MemPlace} (hu : Try.prog.underlying t = some (.slice e)) (hc : Try.prog.cellsOf e = k) (hk : 0 < k)
    (each : ∀ (f : Nat) (cs' : List Value) (y : DataW H × List MemPlace), cs'.length = k → DataW.trod enc Try.prog W 0 (fun _ => true) true f e cs' = some y → ∃ a : α, R W cs' a)
    (h : DataW.trod enc Try.prog W 0 (fun _ => true) true fuel t cs = some x) : ∃ (v : Value) (l : List α), cs = [v] ∧ RowR R k W v l := by
  rcases open_slice hu h with ⟨rfl, _⟩ | ⟨a, len, cap, m, n, D, Pl, rfl, _, hl, hm, hmm, _, hi⟩
  · exact ⟨_, [], rfl, RowR.nil _ _ _⟩
  · simp only [if_true] at hmm
    subst hmm
    by_cases h0 : len = 0
    · subst h0; exact ⟨_, [], rfl, .inl ⟨_, _, rfl, fun h => (by cases h), rfl⟩⟩
    · obtain ⟨b, off, spot⟩ := a
      rw [hc] at hi
      have get : ∀ i, i < m → ∃ y : α, ∃ cs' : List Value, cs'.length = k ∧ R W cs' y ∧ ∀ j, j < k → W.cell? ((⟨b, off, spot⟩ : Addr).add (i * k + j)) = cs'[j]? := by
        intro i him
        obtain ⟨cs', h1, h2⟩ := hi i him
        obtain ⟨_, hlen, hcell⟩ := World.cells?_some h1
        obtain ⟨y, hy⟩ := each n cs' _ hlen h2
        refine ⟨y, cs', hlen, hy, fun j hj => ?_⟩
        have q := hcell j hj
        rwa [add_add] at q
      have hspot : spot = none := by
        obtain ⟨_, cs', hlen, _, hy⟩ := get 0 (by omega)
        have q := hy 0 hk
        rw [List.getElem?_eq_getElem (by omega)] at q
        have q2 := World.cell?_spot q
        simpa [Addr.add] using q2
      subst hspot
      obtain ⟨l, hll, hlp⟩ := list_made (fun i y => ∃ cs' : List Value, cs'.length = k ∧ R W cs' y ∧ ∀ j, j < k → W.cell? ((⟨b, off, none⟩ : Addr).add (i * k + j)) = cs'[j]?) len (fun i hil => get i (by omega))
      refine ⟨_, l, rfl, .inr ⟨b, off, m, by rw [hll], by unfold maxLen at hm; omega, by omega, ?_, ?_⟩⟩
      · have hx : l[0]? = some l[0] := List.getElem?_eq_getElem (by omega)
        obtain ⟨cs', hlen, _, hy⟩ := hlp 0 _ hx
        have q := hy 0 hk
        rw [add_plainR, List.getElem?_eq_getElem (by omega)] at q
        exact World.block_lt_of_cell? W _ q
      · intro i y hy
        obtain ⟨cs', hlen, hR, hcell⟩ := hlp i y hy
        refine ⟨cs', hlen, hR, fun j hj => ?_⟩
        have q := hcell j hj
        rw [add_plainR, ← Nat.add_assoc] at q
        exact q
/-- A slice of ints. -/
theorem open_rowI {t e fuel : Nat} {cs : List Value} {x : DataW H × List MemPlace} (hu : Try.prog.underlying t = some (.slice e)) (he : Try.prog.underlying e = some (.int .i64)) (hc : Try.prog.cellsOf e = 1)
    (h : DataW.trod enc Try.prog W 0 (fun _ => true) true fuel t cs = some x) : ∃ (v : Value) (l : List Int), cs = [v] ∧ Row W v l := by
  obtain ⟨v, l, rfl, hr⟩ := open_rowR (R := fun _ cs (z : Int) => cs = [.int .i64 z]) hu hc (by omega) (fun f cs' y _ hy => by
    obtain ⟨n, hn, _⟩ := DataW.trod_int he hy
    exact ⟨n, hn⟩) h
  refine ⟨v, l, rfl, ?_⟩
  rcases hr with h | ⟨b, off, cap, rfl, h2, h2b, h3, h4⟩
  · exact .inl h
  · refine .inr ⟨b, off, cap, rfl, h2, h2b, h3, fun i hi => ?_⟩
    obtain ⟨cs, _, rfl, q⟩ := h4 i l[i] (List.getElem?_eq_getElem hi)
    have := q 0 (by omega)
    rw [Nat.mul_one, Nat.add_zero] at this
    rw [this]
    simp [List.getD, hi]
/-- An argument: its one cell is itself. -/
theorem open_argR {t : Nat} {v : Value} {d : DataW H} {p : List MemPlace} {P : List Value → Prop} (hcs : v.cells = #[v]) (h : DataW.Trod enc Try.prog W 0 (fun _ => true) true t v d p)
    (each : ∀ (f : Nat) (cs' : List Value) (y : DataW H × List MemPlace), DataW.trod enc Try.prog W 0 (fun _ => true) true f t cs' = some y → P cs') : P [v] := by
  obtain ⟨fuel, hf⟩ := h
  have := each fuel _ _ hf
  rw [hcs] at this
  exact this
end Go.Proofs.Ytcnmfgdeanbhoaa

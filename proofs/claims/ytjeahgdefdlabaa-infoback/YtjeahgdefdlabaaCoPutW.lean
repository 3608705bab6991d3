/-
  The contracts of cover.written and cover.Put: they answer what the plain function says. No conditions beyond those stated.
-/
import Derived.Test.YtjeahgdefdlabaaCoRanged
import Derived.Test.YtjeahgdefdlabaaBnPut
namespace Go.Proofs.Ytjeahgdefdlabaa
open Go.RowKit

theorem own_lit2 (w : World) (base : Nat) (hb : base ≤ w.heap.size) (a b : Int) : Own (w.alloc (.cells #[.int .i64 a, .int .i64 b] 3)) base (.slice (some ⟨w.heap.size, 0, none⟩) 2 2) [a, b] :=
  ⟨rfl, .inr ⟨w.heap.size, 2, _, rfl, hb, new_block w _, Nat.le_refl _, by unfold maxLen; omega, rfl, rfl⟩⟩

set_option maxHeartbeats 800000 in
/-- cover.written. -/
theorem cowritten_any (f c : Int) (l : List Int) (n : Nat) (b : List UInt8) (v : Value) (w : World) (h : Row w v l) (hn : l.length = n) (hn2 : n ≤ 196605) (hp : Bn.put (Co.sz ([f, c] ++ l).length) ([f, c] ++ l) = (b, 0)) :
    Calls Try.prog 50 #[.int .i64 f, .int .i64 c, v] w fun e w' => e = .returned (.string ⟨b.toArray⟩) ∧ Lo w w' := by
  have HR := Lib.hid h
  have HN := Lib.hid hn
  obtain ⟨p, cp, rfl, _⟩ := h.form
  rw [hn] at HR ⊢
  have hlen : ([f, c] ++ l).length = 2 + n := by rw [List.length_append, hn]; rfl
  rw [hlen] at hp
  have HZ := Lib.hid (fun W => cosizes_any (2 + n) W (by omega))
  have HP := Lib.hid (fun W (v u : Value) (h1 : Row W v (Co.sz (2 + n))) (h2 : Row W u ([f, c] ++ l)) => put_any (Co.sz (2 + n)) ([f, c] ++ l) v u W h1 h2 (by rw [Co.sz_len]; omega))
  rw [hp] at HP
  unfold strErr at HP
  have HLe := Lib.hid hlen
  clear h hn hp hlen
  go_enter Try.func50, Try.ntmps50
  go_wp2_with (at_builtin; refine wpList_app _ rfl (.tmp 12) (.tmp 13) rfl w.heap.size (.slice (some ⟨w.heap.size, 0, none⟩) 2 2) [f, c] rfl (own_lit2 w w.heap.size (Nat.le_refl _) f c) _ l rfl (HR.out.lo ((Lo.refl _).alloc _)) (by rw [HN.out]; simp; omega) (by simp) ?_; intro q c2 w1 hown hlo; have HO := Lib.hid hown.row; have HL := Lib.hid (hlo w ((Lo.refl w).alloc _) rfl); clear hown hlo; rw [HN.out] at HO ⊢)
  simp only [List.length_cons, List.length_nil, Nat.zero_add, Nat.reduceAdd] at HO ⊢
  have hcast : (((2 + n : Nat) : Int)) = ((2 + n : Nat) : Int) := rfl
  refine (HZ.out _).mono ?_
  rintro e w2 ⟨p2, c3, rfl, hrow, lo⟩
  have HRz := Lib.hid hrow
  have HRo := Lib.hid (HO.out.lo lo)
  have HL2 := Lib.hid (HL.out.trans lo)
  clear hrow lo HO HL HZ hcast
  go_wp2_with fail
  refine (HP.out _ _ _ HRz.out HRo.out).mono ?_
  rintro e w3 ⟨rfl, lo⟩
  have HL3 := Lib.hid (HL2.out.trans lo)
  clear lo HRz HRo HL2 HP
  go_wp2_with fail
  go_ret
  exact ⟨rfl, HL3.out⟩

set_option maxHeartbeats 800000 in
theorem coput_arg (v : Value) (l : List Int) (w : World) (h : Row w v l) (hc : Co.isCov l = false) : Calls Try.prog 22 #[v] w fun e w' => e = strErr ([], 1) ∧ Lo w w' := by
  have HI := Lib.hid (cois_any v l w h)
  rw [hc] at HI
  obtain ⟨p, c, rfl, _⟩ := h.form
  unfold strErr
  clear h hc
  go_enter Try.func22, Try.ntmps22
  go_wp2_with fail
  refine HI.out.mono ?_
  rintro e w1 ⟨rfl, rfl⟩
  go_wp2_with fail
  go_ret2
  exact ⟨rfl, Lo.refl _⟩

set_option maxHeartbeats 800000 in
theorem coput_ok (v : Value) (l : List Int) (w : World) (h : Row w v l) (hc : Co.isCov l = true) : Calls Try.prog 22 #[v] w fun e w' => e = strErr (Co.put l) ∧ Lo w w' := by
  have HI := Lib.hid (cois_any v l w h)
  rw [hc] at HI
  have HRg := Lib.hid (ranged_any l hc v w h)
  have hlen : (Co.nums (Co.tr l)).length = 3 * (Co.runs l).length := by rw [Co.nums_len, Co.tr_len]
  have hcl := Co.cov_len hc
  have hrl := Co.runs_len l
  have H2 := Lib.hid (fun W u (k : Row W u (Co.nums (Co.tr l))) => cowritten_any 2 ((Co.runs l).length : Int) (Co.nums (Co.tr l)) _ (Co.two l) u W k hlen (by omega) (Co.put_two hc))
  obtain ⟨n, hn⟩ : ∃ n, l.length = n := ⟨_, rfl⟩
  have H1 := Lib.hid (fun W u (k : Row W u l) => cowritten_any 1 (l.length : Int) l n (Co.one l) u W k hn (by omega) (Co.put_one hc))
  have HP : Hid (Co.put l = if 3 * (Co.runs l).length < n then (Co.two l, 0) else (Co.one l, 0)) := Lib.hid (by
    unfold Co.put
    rw [if_neg (by rw [hc]; simp), hn]
    by_cases c : 3 * (Co.runs l).length < n
    · rw [if_pos c, if_pos (by omega)]
    · rw [if_neg c, if_neg (by omega)])
  obtain ⟨p, c, rfl, _⟩ := h.form
  have HR := Lib.hid h
  rw [hlen] at HRg
  rw [hn] at *
  generalize Co.nums (Co.tr l) = q at *
  generalize (Co.runs l).length = r at *
  clear h hc hlen
  by_cases hlt : 3 * r < n
  · rw [if_pos hlt] at HP
    have hdiv : ((3 * r : Nat) : Int) / 3 = (r : Int) := by omega
    have hlt2 : ((3 * r : Nat) : Int) < (n : Int) := by omega
    go_enter Try.func22, Try.ntmps22
    generalize 3 * r = L at *
    go_wp2_with fail
    refine HI.out.mono ?_
    rintro e w1 ⟨rfl, rfl⟩
    go_wp2_with fail
    refine HRg.out.mono ?_
    rintro e w2 ⟨p2, c2, rfl, hrow, lo⟩
    have HL := Lib.hid lo
    have HR2 := Lib.hid hrow
    clear hrow lo HI HRg
    go_wp2_with fail
    refine (H2.out _ _ HR2.out).mono ?_
    rintro e w3 ⟨rfl, lo⟩
    have HL2 := Lib.hid (HL.out.trans lo)
    clear lo
    go_wp2_with fail
    go_ret2
    rw [HP.out]
    exact ⟨rfl, HL2.out⟩
  · rw [if_neg hlt] at HP
    have hlt2 : ¬ ((3 * r : Nat) : Int) < (n : Int) := by omega
    go_enter Try.func22, Try.ntmps22
    generalize 3 * r = L at *
    go_wp2_with fail
    refine HI.out.mono ?_
    rintro e w1 ⟨rfl, rfl⟩
    go_wp2_with fail
    refine HRg.out.mono ?_
    rintro e w2 ⟨p2, c2, rfl, hrow, lo⟩
    have HL := Lib.hid lo
    have HR2 := Lib.hid (HR.out.lo lo)
    clear hrow lo HI HRg
    go_wp2_with fail
    refine (H1.out _ _ HR2.out).mono ?_
    rintro e w3 ⟨rfl, lo⟩
    have HL2 := Lib.hid (HL.out.trans lo)
    clear lo
    go_wp2_with fail
    go_ret2
    rw [HP.out]
    exact ⟨rfl, HL2.out⟩

/-- cover.Put. -/
theorem coput_any (v : Value) (l : List Int) (w : World) (h : Row w v l) : Calls Try.prog 22 #[v] w fun e w' => e = strErr (Co.put l) ∧ Lo w w' := by
  cases hc : Co.isCov l with
  | false => rw [show Co.put l = ([], 1) by unfold Co.put; rw [if_pos hc]]; exact coput_arg v l w h hc
  | true => exact coput_ok v l w h hc
end Go.Proofs.Ytjeahgdefdlabaa

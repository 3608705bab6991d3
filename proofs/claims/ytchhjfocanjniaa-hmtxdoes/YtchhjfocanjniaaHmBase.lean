/-
  Contracts of package hmtx's small functions: joined, sizes, sideMetrics, fullValues, sideValues, Width. No conditions beyond those stated.
-/
import Derived.Test.YtchhjfocanjniaaGkCells2
import Derived.Test.YtchhjfocanjniaaBnPut
import Derived.Test.YtchhjfocanjniaaHmFacts
namespace Go.Proofs.Ytchhjfocanjniaa
open Go.RowKit

/-- A metric's cells. -/
def encM (x : Hm.Metric) : List Value := [.int .i64 x.1, .int .i64 x.2]
theorem encM_len (x : Hm.Metric) : (encM x).length = 2 := rfl
theorem encM_one (x : Hm.Metric) : ∀ u ∈ encM x, u.oneCell' = true := by
  intro u hu
  simp only [encM, List.mem_cons, List.not_mem_nil, or_false] at hu
  rcases hu with rfl | rfl <;> rfl
abbrev MRow (w : World) (v : Value) (l : List Hm.Metric) : Prop := RowK encM 2 w v l
theorem MRow.at2 {w : World} {p : Option Addr} {n c : Nat} {l : List Hm.Metric} (h : MRow w (.slice p n c) l) {i : Nat} {x : Hm.Metric} (hx : l[i]? = some x) :
    ∃ b off, p = some ⟨b, off, none⟩ ∧ w.cell? ⟨b, off + i * 2, none⟩ = some (.int .i64 x.1) ∧ w.cell? ⟨b, off + i * 2 + 1, none⟩ = some (.int .i64 x.2) := by
  obtain ⟨b, off, h1, h2⟩ := RowK.at_ h hx
  exact ⟨b, off, h1, h2 0 (by omega), h2 1 (by omega)⟩
theorem met_info : (Try.prog.info? 34).map (fun i => (i.zero, i.size, i.bytes)) = some (some (.agg #[.int .i64 0, .int .i64 0]), 2, 16) := by kernel_rfl
abbrev OwnM (w : World) (base : Nat) (v : Value) (l : List Hm.Metric) : Prop := OwnK encM 34 2 w base v l

/-- What has come of two lists behind k rounds. -/
def upTo {α : Type} (a b : List α) (k : Nat) : List α := if k = 0 then [] else if k = 1 then a else a ++ b

set_option maxHeartbeats 1600000 in
theorem joinedInt_any (B : Nat) (u v : Value) (a b : List Int) (w : World) (h1 : Row w u a) (h2 : Row w v b) (hc0 : w.cell? ⟨B, 0, none⟩ = some u) (hc1 : w.cell? ⟨B, 1, none⟩ = some v) (hB : B < w.heap.size) (hlen : a.length + b.length ≤ 1000000) :
    Calls Try.prog 22 #[.slice (some ⟨B, 0, none⟩) 2 2] w fun e w' => ∃ p c, e = .returned (.slice p (a.length + b.length) c) ∧ Own w' w.heap.size (.slice p (a.length + b.length) c) (a ++ b) ∧ Lo w w' := by
  obtain ⟨pu, cu, rfl, _⟩ := h1.form
  obtain ⟨pv, cv, rfl, _⟩ := h2.form
  have HR := Lib.hid h1
  have HR2 := Lib.hid h2
  have HC0 := Lib.hid hc0
  have HC1 := Lib.hid hc1
  generalize hn : a.length = n at *
  generalize hm : b.length = m at *
  have HN := Lib.hid hn
  have HM := Lib.hid hm
  clear hn hm h1 h2 hc0 hc1
  go_enter Try.func22, Try.ntmps22
  go_wp2_with fail
  go_loopw [3, 5, 8] (fun s _ i W => ∃ (k t : Nat) (p : Option Addr) (c : Nat), k ≤ 2 ∧ i = .int .i64 k ∧ s = .slice p t c ∧ Hid (t = (upTo a b k).length) ∧ Hid (Own W w.heap.size (.slice p t c) (upTo a b k)) ∧ Hid (Lo w W)) (fun _ _ i _ => 2 - (intOf i).toNat)
  case atStart => exact ⟨0, 0, none, 0, Nat.zero_le _, rfl, rfl, Lib.hid rfl, Lib.hid (Own.none _ _), Lib.hid (Lo.refl _)⟩
  case round =>
    obtain ⟨k, t, p, c, hk, rfl, rfl, HT, HO, HL⟩ := hrel
    obtain rfl | rfl | rfl : k = 0 ∨ k = 1 ∨ k = 2 := by omega
    · have hcell := (HL.out.cell hB).trans HC0.out
      have HT0 : Hid (t = 0) := Lib.hid (by rw [HT.out]; rfl)
      obtain rfl := HT0.out
      rw [show ((0 : Nat) : Int) = 0 from rfl]
      go_wp2_with (at_builtin; refine wpList_app _ rfl (.tmp 12) (.tmp 13) rfl w.heap.size (.slice p 0 c) (upTo a b 0) rfl HO.out _ a rfl (HR.out.lo HL.out) (by simp [upTo]; rw [HN.out]; omega) HL.out.size ?_; intro q1 c1 w3 hown hlo; have HO3 := Lib.hid hown; have HL3 := Lib.hid (hlo w HL.out rfl); clear hown hlo)
      go_roundw
      case rel => exact ⟨1, _, q1, c1, by omega, by go_num, rfl, Lib.hid (by simp [upTo]), Lib.hid HO3.out, HL3⟩
      case measure => simp [intOf]
    · have hcell := (HL.out.cell hB).trans HC1.out
      rw [show ((1 : Nat) : Int) = 1 from rfl]
      have HT0 : Hid (t = (upTo a b 1).length) := HT
      go_wp2_with (at_builtin; refine wpList_app _ rfl (.tmp 12) (.tmp 13) rfl w.heap.size (.slice p t c) (upTo a b 1) rfl HO.out _ b rfl (HR2.out.lo HL.out) (by simp [upTo]; rw [HN.out, HM.out]; omega) HL.out.size ?_; intro q1 c1 w3 hown hlo; have HO3 := Lib.hid hown; have HL3 := Lib.hid (hlo w HL.out rfl); clear hown hlo)
      go_roundw
      case rel => exact ⟨2, _, q1, c1, by omega, by go_num, rfl, Lib.hid (by simp [upTo]), Lib.hid HO3.out, HL3⟩
      case measure => simp [intOf]
    · have HT0 : Hid (t = n + m) := Lib.hid (by rw [HT.out]; simp [upTo]; rw [HN.out, HM.out])
      obtain rfl := HT0.out
      rw [show ((2 : Nat) : Int) = 2 from rfl]
      go_wp2_with fail
      go_ret
      exact ⟨p, c, rfl, HO.out, HL.out⟩

set_option maxHeartbeats 1600000 in
theorem joinedMet_any (B : Nat) (u v : Value) (a b : List Hm.Metric) (w : World) (h1 : MRow w u a) (h2 : MRow w v b) (hc0 : w.cell? ⟨B, 0, none⟩ = some u) (hc1 : w.cell? ⟨B, 1, none⟩ = some v) (hB : B < w.heap.size) (hlen : a.length + b.length ≤ 1000000) :
    Calls Try.prog 17 #[.slice (some ⟨B, 0, none⟩) 2 2] w fun e w' => ∃ p c, e = .returned (.slice p (a.length + b.length) c) ∧ OwnM w' w.heap.size (.slice p (a.length + b.length) c) (a ++ b) ∧ Lo w w' := by
  obtain ⟨pu, cu, rfl, _⟩ := RowK.form h1
  obtain ⟨pv, cv, rfl, _⟩ := RowK.form h2
  have HR := Lib.hid h1
  have HR2 := Lib.hid h2
  have HC0 := Lib.hid hc0
  have HC1 := Lib.hid hc1
  generalize hn : a.length = n at *
  generalize hm : b.length = m at *
  have HN := Lib.hid hn
  have HM := Lib.hid hm
  clear hn hm h1 h2 hc0 hc1
  go_enter Try.func17, Try.ntmps17
  go_wp2_with fail
  go_loopw [3, 5, 8] (fun s _ i W => ∃ (k t : Nat) (p : Option Addr) (c : Nat), k ≤ 2 ∧ i = .int .i64 k ∧ s = .slice p t c ∧ Hid (t = (upTo a b k).length) ∧ Hid (OwnM W w.heap.size (.slice p t c) (upTo a b k)) ∧ Hid (Lo w W)) (fun _ _ i _ => 2 - (intOf i).toNat)
  case atStart => exact ⟨0, 0, none, 0, Nat.zero_le _, rfl, rfl, Lib.hid rfl, Lib.hid (OwnK.none _ _ _ _ _), Lib.hid (Lo.refl _)⟩
  case round =>
    obtain ⟨k, t, p, c, hk, rfl, rfl, HT, HO, HL⟩ := hrel
    obtain rfl | rfl | rfl : k = 0 ∨ k = 1 ∨ k = 2 := by omega
    · have hcell := (HL.out.cell hB).trans HC0.out
      rw [show ((0 : Nat) : Int) = 0 from rfl]
      go_wp2_with (at_builtin; refine wpList_appK _ rfl (.tmp 12) (.tmp 13) _ rfl 34 2 16 _ Try.underlying22 met_info rfl (by omega) (by omega) encM_len encM_one w.heap.size (.slice p t c) (upTo a b 0) rfl HO.out _ a rfl (HR.out.lo HL.out) (by simp [upTo]; rw [HN.out]; omega) HL.out.size ?_; intro q1 c1 w3 hown hlo; have HO3 := Lib.hid hown; have HL3 := Lib.hid (hlo w HL.out (Nat.le_refl _)); clear hown hlo)
      go_roundw
      case rel => exact ⟨1, _, q1, c1, by omega, by go_num, rfl, Lib.hid (by simp [upTo]), Lib.hid HO3.out, HL3⟩
      case measure => simp [intOf]
    · have hcell := (HL.out.cell hB).trans HC1.out
      rw [show ((1 : Nat) : Int) = 1 from rfl]
      go_wp2_with (at_builtin; refine wpList_appK _ rfl (.tmp 12) (.tmp 13) _ rfl 34 2 16 _ Try.underlying22 met_info rfl (by omega) (by omega) encM_len encM_one w.heap.size (.slice p t c) (upTo a b 1) rfl HO.out _ b rfl (HR2.out.lo HL.out) (by simp [upTo]; rw [HN.out, HM.out]; omega) HL.out.size ?_; intro q1 c1 w3 hown hlo; have HO3 := Lib.hid hown; have HL3 := Lib.hid (hlo w HL.out (Nat.le_refl _)); clear hown hlo)
      go_roundw
      case rel => exact ⟨2, _, q1, c1, by omega, by go_num, rfl, Lib.hid (by simp [upTo]), Lib.hid HO3.out, HL3⟩
      case measure => simp [intOf]
    · have HT0 : Hid (t = n + m) := Lib.hid (by rw [HT.out]; simp [upTo]; rw [HN.out, HM.out])
      obtain rfl := HT0.out
      rw [show ((2 : Nat) : Int) = 2 from rfl]
      go_wp2_with fail
      go_ret
      exact ⟨p, c, rfl, HO.out, HL.out⟩

/-- A slice of two slices that is laid anew. -/
theorem two_new (w : World) (u v : Value) (ty : Nat) : (w.alloc (.cells #[u, v] ty)).cell? ⟨w.heap.size, 0, none⟩ = some u ∧ (w.alloc (.cells #[u, v] ty)).cell? ⟨w.heap.size, 1, none⟩ = some v := by
  constructor <;> simp [go_sem]

set_option maxHeartbeats 1600000 in
theorem hsizes_any (g m : Nat) (w : World) (h : m ≤ g) (hg : g ≤ 65535) :
    Calls Try.prog 15 #[.int .i64 g, .int .i64 m] w fun e w' => ∃ p c, e = .returned (.slice p (g + m) c) ∧ Row w' (.slice p (g + m) c) (Hm.sz g m) ∧ Lo w w' := by
  have hF := Lib.hid Hm.szF_len
  have hS := Lib.hid Hm.szS_len
  go_enter Try.func15, Try.ntmps15
  go_wp2_with (at_make; refine wpList_mk _ rfl _ _ rfl w.heap.size _ (2 * m) rfl rfl (by simp) (by omega) (Nat.le_refl _) ?_; intro pv cv w1 hown hlo; have HL := Lib.hid hlo; have HO := Lib.hid hown; clear hown hlo)
  go_loopw [5, 11] (fun s i W => ∃ (k t : Nat) (p : Option Addr) (c : Nat), k ≤ m ∧ i = .int .i64 k ∧ s = .slice p t c ∧ Hid (t = (Hm.szF k).length) ∧ Hid (Own W w.heap.size (.slice p t c) (Hm.szF k)) ∧ Hid (Lo w W)) (fun _ i _ => m - (intOf i).toNat)
  case atStart => exact ⟨0, 0, pv, cv, Nat.zero_le _, rfl, rfl, Lib.hid rfl, HO, HL⟩
  case round =>
    obtain ⟨k, t, p, c, hk, rfl, rfl, HT, HO1, HL1⟩ := hrel
    by_cases hlt : k < m
    · go_wp2_with (at_builtin; refine wpList_app _ rfl (.tmp 13) (.tmp 14) rfl w.heap.size (.slice p t c) _ rfl (HO1.out.lo ((Lo.refl _).alloc _)) _ [2, -2] rfl (row2 _ _ (by simp) 2 (-2)) (by rw [hF.out]; simp; omega) (by have := HL1.out.size; simp; omega) ?_; intro q1 c1 w3 hown hlo; have HO3 := Lib.hid hown; have HL3 := Lib.hid (hlo w (HL1.out.alloc _) rfl); clear hown hlo)
      go_roundw
      case rel => exact ⟨k + 1, _, q1, c1, by omega, by go_num, rfl, Lib.hid (by rw [Hm.szF_snoc, List.length_append]; rfl), Lib.hid (by rw [Hm.szF_snoc]; exact HO3.out), HL3⟩
      case measure => simp [intOf]; omega
    · obtain rfl : k = m := by omega
      rename World => W1
      have HRF := Lib.hid (Own.row HO1.out)
      have HT2 : Hid (t = 2 * k) := Lib.hid (by rw [HT.out, hF.out])
      obtain rfl := HT2.out
      clear HO1 HO HL hlt HT HT2
      generalize hgm : g - k = d
      have HD := Lib.hid hgm
      have hd : (g : Int) - (k : Int) = (d : Int) := by omega
      clear hgm
      go_wp2_with (at_make; refine wpList_mk _ rfl _ _ rfl _ _ d rfl rfl (by omega) (by have := HD.out; omega) (Nat.le_refl _) ?_; intro pv2 cv2 w2 hown hlo; have HL := Lib.hid hlo; have HO := Lib.hid hown; clear hown hlo)
      go_loopw [6, 24] (fun s i W => ∃ (j t : Nat) (p : Option Addr) (c : Nat), j ≤ d ∧ i = .int .i64 j ∧ s = .slice p t c ∧ Hid (t = (Hm.szS j).length) ∧ Hid (Own W W1.heap.size (.slice p t c) (Hm.szS j)) ∧ Hid (Lo W1 W)) (fun _ i _ => d - (intOf i).toNat)
      case atStart => exact ⟨0, 0, pv2, cv2, Nat.zero_le _, rfl, rfl, Lib.hid rfl, HO, HL⟩
      case round =>
        obtain ⟨j, t, p2, c2, hj, rfl, rfl, HT, HO1, HL2⟩ := hrel
        by_cases hlt : j < d
        · go_wp2_with (at_builtin; refine wpList_app _ rfl (.tmp 26) (.tmp 27) rfl W1.heap.size (.slice p2 t c2) _ rfl (HO1.out.lo ((Lo.refl _).alloc _)) _ [-2] rfl (row1 _ _ (by simp) (-2)) (by rw [hS.out]; simp; have := HD.out; omega) (by have := HL2.out.size; simp; omega) ?_; intro q1 c1 w3 hown hlo; have HO3 := Lib.hid hown; have HL3 := Lib.hid (hlo W1 (HL2.out.alloc _) rfl); clear hown hlo)
          go_roundw
          case rel => exact ⟨j + 1, _, q1, c1, by omega, by go_num, rfl, Lib.hid (by rw [Hm.szS_snoc, List.length_append]; rfl), Lib.hid (by rw [Hm.szS_snoc]; exact HO3.out), HL3⟩
          case measure => simp [intOf]; omega
        · obtain rfl : j = d := by omega
          have HT2 : Hid (t = j) := Lib.hid (by rw [HT.out, hS.out])
          obtain rfl := HT2.out
          have HRS := Lib.hid (Own.row HO1.out)
          have HLL := Lib.hid (HL1.out.trans HL2.out)
          have HRF2 := Lib.hid (HRF.out.lo HL2.out)
          have HJ := Lib.hid (fun (W : World) (B : Nat) (u v : Value) h1 h2 h3 h4 h5 => joinedInt_any B u v (Hm.szF k) (Hm.szS t) W h1 h2 h3 h4 h5 (by rw [hF.out, hS.out]; have := HD.out; omega))
          clear HO1 HL1 HL2 HRF HT HT2 hlt
          go_wp2_with fail
          refine (HJ.out _ _ _ _ (HRF2.out.lo ((Lo.refl _).alloc _)) (HRS.out.lo ((Lo.refl _).alloc _)) (two_new _ _ _ _).1 (two_new _ _ _ _).2 (by simp)).mono ?_
          rintro e w5 ⟨p5, c5, rfl, hown, hlo⟩
          have HRR := Lib.hid (Own.row hown)
          have HL5 := Lib.hid (HLL.out.trans (((Lo.refl _).alloc _).trans hlo))
          clear hown hlo HJ
          rw [hF.out, hS.out] at HRR ⊢
          go_wp2_with fail
          go_ret
          have e1 : 2 * k + t = g + k := by have := HD.out; omega
          rw [e1] at HRR ⊢
          exact ⟨p5, c5, rfl, by unfold Hm.sz; rw [HD.out]; exact HRR.out, HL5.out⟩

/-- A row of numbers, told. -/
def RowTold (a : List Int) (w : World) (e : Ending) (w' : World) : Prop := ∃ p c, e = .returned (.slice p a.length c) ∧ Row w' (.slice p a.length c) a ∧ Lo w w'
/-- A row of metrics, told. -/
def MetTold (a : List Hm.Metric) (w : World) (e : Ending) (w' : World) : Prop := ∃ p c, e = .returned (.slice p a.length c) ∧ MRow w' (.slice p a.length c) a ∧ Lo w w'

theorem mrow1 (w : World) (B : Nat) (hB : B = w.heap.size) (x y : Int) (ty : Nat) : MRow (w.alloc (.cells #[.int .i64 x, .int .i64 y] ty)) (.slice (some ⟨B, 0, none⟩) 1 1) [(x, y)] :=
  hB ▸ .inr ⟨w.heap.size, 0, 1, rfl, by simp, by simp, by simp, fun i z hz j hj => by
    obtain rfl : i = 0 := by
      rcases i with _ | i
      · rfl
      · simp at hz
    simp at hz
    subst hz
    obtain rfl | rfl : j = 0 ∨ j = 1 := by omega
    all_goals simp [go_sem, encM]⟩

set_option maxHeartbeats 1600000 in
theorem sideMetrics_any (adv : Int) (v : Value) (l : List Int) (w : World) (h : Row w v l) (hlen : l.length ≤ 1000000) :
    Calls Try.prog 18 #[v, .int .i64 adv] w (MetTold (Hm.side adv l) w) := by
  obtain ⟨pu, cu, rfl, _⟩ := h.form
  have HR := Lib.hid h
  have hsl := Hm.side_len adv l
  unfold MetTold
  rw [hsl]
  generalize hn : l.length = n at *
  have HN := Lib.hid hn
  clear hn h hsl
  go_enter Try.func18, Try.ntmps18
  go_wp2_with (at_make; refine wpList_mkK (enc := encM) _ rfl _ _ _ rfl 34 2 16 _ Try.underlying22 met_info (by omega) w.heap.size _ n rfl rfl rfl (by omega) (Nat.le_refl _) ?_; intro pv cv w1 hown hlo; have HL := Lib.hid hlo; have HO := Lib.hid hown; clear hown hlo)
  go_loopw [5, 7, 13] (fun s _ i W => ∃ (k : Nat) (p : Option Addr) (c : Nat), k ≤ n ∧ i = .int .i64 k ∧ s = .slice p k c ∧ Hid (OwnM W w.heap.size (.slice p k c) (Hm.side adv (l.take k))) ∧ Hid (Lo w W)) (fun _ _ i _ => n - (intOf i).toNat)
  case atStart => exact ⟨0, pv, cv, Nat.zero_le _, rfl, rfl, HO, HL⟩
  case round =>
    obtain ⟨k, p, c, hk, rfl, rfl, HO1, HL1⟩ := hrel
    by_cases hlt : k < n
    · obtain ⟨b, off, rfl, hcell⟩ := (HR.out.lo HL1.out).at_ hlt
      have HK : Hid (k < l.length) := Lib.hid (by rw [HN.out]; exact hlt)
      have HT := Lib.hid (Bn.take_snoc HK.out)
      generalize l.getD k 0 = z at *
      have HTL : Hid ((Hm.side adv (l.take k)).length = k) := Lib.hid (by rw [Hm.side_len, List.length_take]; have := HK.out; omega)
      go_wp2_with (at_builtin; refine wpList_appK _ rfl (.tmp 17) (.tmp 21) _ rfl 34 2 16 _ Try.underlying22 met_info rfl (by omega) (by omega) encM_len encM_one w.heap.size (.slice p k c) _ rfl (OwnK.lo HO1.out ((Lo.refl _).alloc _)) _ [(adv, z)] rfl (mrow1 _ _ (by simp) adv z _) (by rw [HTL.out]; simp; omega) (by have := HL1.out.size; simp; omega) ?_; intro q1 c1 w3 hown hlo; have HO3 := Lib.hid hown; have HL3 := Lib.hid (hlo w (HL1.out.alloc _) (Nat.le_refl _)); clear hown hlo; rw [HTL.out] at HO3 ⊢)
      go_roundw
      case rel => exact ⟨k + 1, q1, c1, by omega, by go_num, rfl, Lib.hid (by rw [HT.out]; unfold Hm.side at *; rw [List.map_append]; exact HO3.out), HL3⟩
      case measure => simp [intOf]; omega
    · obtain rfl : k = n := by omega
      have HO2 := HO1
      rw [List.take_of_length_le (by rw [HN.out]; exact Nat.le_refl _)] at HO2
      go_wp2_with fail
      go_ret
      exact ⟨p, c, rfl, OwnK.row encM_len HO2.out, HL1.out⟩
end Go.Proofs.Ytchhjfocanjniaa

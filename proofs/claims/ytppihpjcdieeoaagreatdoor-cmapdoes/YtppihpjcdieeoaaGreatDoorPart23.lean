/-
  Facts that the walks rest on: ChLook2, CmLen, CmPut, ChRef. No conditions beyond those stated.
-/
import Derived.Test.YtppihpjcdieeoaaGreatDoorPart22
import Derived.Test.YtppihpjcdieeoaaGreatDoorPart01
import Derived.Test.YtppihpjcdieeoaaGreatDoorPart13
import Derived.Test.YtppihpjcdieeoaaGreatDoorPart19
import Derived.Test.YtppihpjcdieeoaaGreatDoorPart10
import Derived.Deep.RegionHeld3
import Derived.Deep.RegionWith
import Derived.WalkMore
/-
  Contracts of chart.search and chart.Look: a rune's glyph. No conditions beyond those stated.
-/
namespace Go.Proofs.YtppihpjcdieeoaaGreatDoor
open Go.RowKit

set_option maxRecDepth 100000 in
set_option maxHeartbeats 800000 in
theorem csearch_any (l : List Ch.Span) (v : Value) (c : Int) (w : World) (hr : SRow w v l) (hn : l.length ≤ 65536) :
    Calls Tryz.prog 42 #[v, .int .i64 c, .func (.func 43) #[] #[]] w fun e w' => ∃ k : Nat, e = .returned (.int .i64 (k : Int)) ∧ k ≤ l.length ∧ (k = 0 ∨ (l.getD (k - 1) Ch.zs).to < c) ∧ (k = l.length ∨ c ≤ (l.getD k Ch.zs).to) ∧ Lo w w' := by
  have hmf : ∀ (fn : Fn) (first cap : Array Value) (w : World), (Instr.makeFunc fn first cap).run Tryz.prog w = .ok (.func fn first cap) w := fun _ _ _ _ => rfl
  obtain ⟨p, cp, rfl, hlen⟩ := RowK.form hr
  have HS := Lib.hid (fun (W : World) (b0 b1 b2 : Nat) (q0 : W.cell? ⟨b0, 0, none⟩ = some (.func (.func 43) #[] #[])) (q1 : W.cell? ⟨b1, 0, none⟩ = some (.slice p l.length cp)) (q2 : W.cell? ⟨b2, 0, none⟩ = some (.int .i64 c)) (hr : SRow W (.slice p l.length cp) l) =>
    search_any 80 #[.pointer (some ⟨b0, 0, none⟩), .pointer (some ⟨b1, 0, none⟩), .pointer (some ⟨b2, 0, none⟩)] l.length (fun k => decide (c ≤ (l.getD k Ch.zs).to)) W (fun _ _ => rfl) hn (fun i W' hi hW =>
      place_any b0 b1 b2 i l _ c W' ((hW.cell (World.block_lt_of_cell? W _ q0)).trans q0) ((hW.cell (World.block_lt_of_cell? W _ q1)).trans q1) ((hW.cell (World.block_lt_of_cell? W _ q2)).trans q2) (RowK.lo hr hW) hi))
  have HR := Lib.hid hr
  generalize hnn : l.length = n at *
  have HN := Lib.hid hnn
  clear hnn hr
  go_enter Tryz.func42, Tryz.ntmps42
  go_wp2_with fail
  have HL : Hid (Lo w (((w.alloc (.cells #[.slice p n cp] 22)).alloc (.cells #[.int .i64 c] 3)).alloc (.cells #[.func (.func 43) #[] #[]] 68))) := Lib.hid ((((Lo.refl w).alloc _).alloc _).alloc _)
  refine (HS.out _ _ _ _ (by simp [go_sem]) (by simp [go_sem]) (by simp [go_sem]) (RowK.lo HR.out HL.out)).mono ?_
  rintro e w1 ⟨k, rfl, hk, h1, h2, lo⟩
  have H1 := Lib.hid h1
  have H2 := Lib.hid h2
  have HL1 := Lib.hid (HL.out.trans lo)
  clear h1 h2 lo HS
  go_wp2_with fail
  go_ret
  refine ⟨k, rfl, hk, ?_, ?_, HL1.out⟩
  · rcases H1.out with h | h
    · exact .inl h
    · right
      have := of_decide_eq_false h
      omega
  · rcases H2.out with h | h
    · exact .inl h
    · exact .inr (of_decide_eq_true h)

set_option maxRecDepth 100000 in
set_option maxHeartbeats 1600000 in
theorem clook_any (v : Value) (l : List Ch.Span) (c : Int) (w : World) (h : SRow w v l) : Calls Tryz.prog 21 #[v, .int .i64 c] w fun e w' => e = .returned (.int .i64 (Ch.Look l c)) ∧ Lo w w' := by
  have HI := Lib.hid (fun W hW => cis_any v l W hW)
  cases hl : Ch.isL l with
  | false =>
    have HE : Hid (Ch.Look l c = 0) := Lib.hid (by unfold Ch.Look; rw [hl]; rfl)
    rw [hl] at HI
    generalize Ch.Look l c = y at *
    clear hl
    go_enter Tryz.func21, Tryz.ntmps21
    go_wp2_with fail
    refine (HI.out _ h).mono ?_
    rintro e w1 ⟨rfl, l1⟩
    have HL := Lib.hid l1
    clear l1 HI h
    go_wp2_with fail
    go_ret
    exact ⟨ret_int HE.out.symm, HL.out⟩
  | true =>
    have hlen := (Ch.isL_chain hl).2
    have HF := Lib.hid (fun (i : Nat) hi hlo hhi => Ch.look_found hl (c := c) (i := i) hi hlo hhi)
    have HS := Lib.hid (fun W hW => csearch_any l v c W hW hlen)
    have HM := Lib.hid (fun (i : Nat) (hi : i < l.length) => (Ch.chain_mem (Ch.isL_chain hl).1 _ (Ch.getD_mem hi)).1)
    have HG := Lib.hid (fun (x : Ch.Span) (hx : Ch.okSpan x = true) h7 h8 (W : World) => glyph_ok hx c W h7 h8)
    unfold aggS at HG
    rw [hl] at HI
    generalize Ch.Look l c = y at *
    clear hl
    obtain ⟨p, cp, rfl, _⟩ := RowK.form h
    have HR := Lib.hid h
    generalize hnn : l.length = n at *
    have HN := Lib.hid hnn
    clear hnn h
    go_enter Tryz.func21, Tryz.ntmps21
    go_wp2_with fail
    refine (HI.out _ HR.out).mono ?_
    rintro e w1 ⟨rfl, l1⟩
    have HL := Lib.hid l1
    have HR := Lib.hid (RowK.lo HR.out l1)
    clear l1 HI
    go_wp2_with fail
    refine (HS.out _ HR.out).mono ?_
    rintro e w2 ⟨k, rfl, hk, h1, h2, l1⟩
    have HL := Lib.hid (HL.out.trans l1)
    have HR := Lib.hid (RowK.lo HR.out l1)
    have HF1 := Lib.hid (HF.out k hk h1 h2)
    have H2 := Lib.hid h2
    clear l1 HS HF h1 h2
    by_cases hkn : k = n
    · subst hkn
      have HE : Hid (y = 0) := Lib.hid (HF1.out.1 (.inl rfl))
      clear HF1
      go_wp2_with fail
      go_ret
      exact ⟨ret_int HE.out.symm, HL.out⟩
    · have hk' : k < l.length := by rw [HN.out]; omega
      have hkz : ¬ (k : Int) = (n : Int) := by omega
      have hkb : ((k : Int) == (n : Int)) = false := by rw [beq_eq_false_iff_ne]; omega
      have hkl : k < n := by omega
      have HK := Lib.hid (HM.out k hkl)
      obtain ⟨b, off, rfl, r0, r1, r2, r3⟩ := SRow.at4 HR.out (Ch.getD_some hk')
      clear hk'
      have H2 : Hid (c ≤ (l.getD k Ch.zs).to) := Lib.hid (H2.out.resolve_left hkn)
      have HF2 : Hid ((c < (l.getD k Ch.zs).fr → y = 0) ∧ (¬ c < (l.getD k Ch.zs).fr → y = Ch.glyphOf (l.getD k Ch.zs) c)) := Lib.hid ⟨fun h => HF1.out.1 (.inr h), fun h => HF1.out.2 (by rintro (h1 | h1); exact hkn h1; exact h h1)⟩
      clear HF1
      generalize l.getD k Ch.zs = x at *
      by_cases hc : c < x.fr
      · have HE := Lib.hid (HF2.out.1 hc)
        clear HF2 HG
        go_wp2_with fail
        go_ret
        exact ⟨ret_int HE.out.symm, HL.out⟩
      · have HE := Lib.hid (HF2.out.2 hc)
        have hok := (Ch.okSpan_iff x).1 HK.out
        have HG1 := Lib.hid (HG.out x HK.out (by omega) (by have := H2.out; omega))
        have hcd : decide (c < x.fr) = false := decide_eq_false hc
        clear HF2 HG hok
        go_wp2_with fail
        refine (HG1.out _).mono ?_
        rintro e w3 ⟨rfl, l1⟩
        have HL := Lib.hid (HL.out.trans l1)
        clear l1 HG1
        go_wp2_with fail
        go_ret
        exact ⟨ret_int HE.out.symm, HL.out⟩
end Go.Proofs.YtppihpjcdieeoaaGreatDoor
/-
  How long a format is that is written (layer 11), with nothing of the program. No conditions.
-/
namespace Cm
open Bn He Ch
theorem len_small (l : List Span) : (putSmall l).1.length ≤ 262 := by
  unfold putSmall
  by_cases c1 : isL l = false
  · rw [if_pos c1]; simp
  · rw [if_neg c1]
    by_cases c2 : 0 ≤ (ends l).1 ∧ 255 < (ends l).2
    · rw [if_pos c2]; simp
    · rw [if_neg c2]
      by_cases c3 : (List.range 256).any (fun c : Nat => decide (255 < look l (c : Int))) = true
      · rw [if_pos c3]; simp
      · rw [if_neg c3]
        simp [small]
theorem len_trimmed (l : List Span) : (putTrimmed l).1.length ≤ 65534 := by
  unfold putTrimmed
  by_cases c1 : isL l = false
  · rw [if_pos c1]; simp
  · rw [if_neg c1]
    by_cases c2 : 0 ≤ (ends l).1 ∧ 65535 < (ends l).2
    · rw [if_pos c2]; simp
    · rw [if_neg c2]
      by_cases c3 : 32762 < count l
      · rw [if_pos c3]; simp
      · rw [if_neg c3]
        unfold trimmed
        simp only [List.length_append, bytes_len, flat_len, List.length_map, List.length_range]
        have : (2 : Int).natAbs = 2 := rfl
        simp only [this, List.length_cons, List.length_nil]
        omega
theorem len_segment (l : List Span) : (Sg.put l).1.length ≤ 65535 := by
  by_cases h : (Sg.put l).2 = 0
  · obtain ⟨_, _, _, _, hlen⟩ := Sg.get_put h []
    rw [hlen]
    have hm : (Sg.manyOf l).2.2 = 0 := by
      unfold Sg.put at h
      by_cases c : (Sg.manyOf l).2.2 ≠ 0
      · rw [if_pos c] at h; exact absurd h c
      · exact Decidable.not_not.1 c
    obtain ⟨_, _, hs, e1, e2⟩ := Sg.manyOf_ok hm
    rw [e1, e2]
    exact hs
  · rw [(Sg.put_refused h).1]; simp
theorem len_split {l : List Span} {step : Int} : (Gp.split l step).1.length ≤ 65536 := by
  by_cases h : (Gp.split l step).2 = 0
  · rw [(Gp.split_ok h).2.2.1]; exact (Gp.split_ok h).2.2.2
  · rw [(Gp.split_no h).1]; simp
theorem len_group (l : List Span) (format : Int) : (Gp.put l format).1.length ≤ 800000 := by
  by_cases h : (Gp.put l format).2 = 0
  · obtain ⟨_, _, e⟩ := Gp.put_ok h
    rw [e, Gp.file_len]
    have := @len_split l (13 - format)
    omega
  · rw [Gp.put_no h]; simp
theorem len_write (l : List Span) (n : Int) : (write l n).1.length ≤ 800000 := by
  unfold write
  by_cases c0 : n = 0
  · rw [if_pos c0]; have := len_small l; omega
  · rw [if_neg c0]
    by_cases c6 : n = 6
    · rw [if_pos c6]; have := len_trimmed l; omega
    · rw [if_neg c6]
      by_cases c4 : n = 4
      · rw [if_pos c4]; have := len_segment l; omega
      · rw [if_neg c4]; exact len_group l n
theorem len_put (l : List Span) (n : Int) : (put l n).1.length ≤ 800012 := by
  by_cases h : (put l n).2 = 0
  · obtain ⟨_, _, e⟩ := put_ok h
    have := len_write l n
    have h8 := recFor_len n
    rw [e, List.length_append, List.length_append, h8]
    simp only [List.length_cons, List.length_nil]
    omega
  · rw [put_no h]; simp
theorem write_is {l : List Span} {n : Int} (h : (write l n).2 = 0) : isL l = true := by
  unfold write at h
  by_cases c0 : n = 0
  · rw [if_pos c0] at h
    unfold putSmall at h
    cases hl : isL l with
    | true => rfl
    | false => rw [if_pos hl] at h; cases h
  · rw [if_neg c0] at h
    by_cases c6 : n = 6
    · rw [if_pos c6] at h
      unfold putTrimmed at h
      cases hl : isL l with
      | true => rfl
      | false => rw [if_pos hl] at h; cases h
    · rw [if_neg c6] at h
      by_cases c4 : n = 4
      · rw [if_pos c4] at h
        exact (Sg.get_put h []).2.2.2.1
      · rw [if_neg c4] at h
        exact (Gp.split_ok (Gp.put_ok h).2.1).1
theorem put_is {l : List Span} {n : Int} (h : (put l n).2 = 0) : isL l = true := write_is (put_ok h).2.1
end Cm
/-
  The contracts of cmap.Put and cmap.Glyph. No conditions beyond those stated.
-/
namespace Cm
open Bn He Ch
theorem put_bad {l : List Span} {n : Int} (h : fmt n = false) : put l n = ([], 1) := by unfold put; rw [if_pos h]
theorem put_err {l : List Span} {n : Int} (h : fmt n = true) (h2 : (write l n).2 ≠ 0) : put l n = ([], (write l n).2) := by unfold put; rw [if_neg (by rw [h]; simp), if_pos h2]
theorem put_good {l : List Span} {n : Int} (h : fmt n = true) (h2 : (write l n).2 = 0) : put l n = ([0, 0, 0, 1] ++ recFor n ++ (write l n).1, 0) := by unfold put; rw [if_neg (by rw [h]; simp), if_neg (by rw [h2]; simp)]
end Cm
namespace Go.Proofs.YtppihpjcdieeoaaGreatDoor
open Go.RowKit Go.Shelf

set_option maxHeartbeats 400000 in
theorem groupWriter1_any (x : Nat) (n : Int) (v : Value) (l : List Ch.Span) (w : World) (hx : w.cell? ⟨x, 0, none⟩ = some (.int .i64 n)) (h : SRow w v l) :
    Calls Tryz.prog 100 #[v, .pointer (some ⟨x, 0, none⟩)] w fun e w' => e = strErr (Gp.put l n) ∧ Lo w w' := by
  have HG := Lib.hid (fun W hW => gput_any v l n W hW)
  have HR := Lib.hid h
  obtain ⟨p, c, rfl, _⟩ := RowK.form h
  clear h
  unfold strErr at *
  generalize Gp.put l n = a at *
  obtain ⟨a1, a2⟩ := a
  dsimp only at HG ⊢
  go_enter Tryz.func100, Tryz.ntmps100
  go_wp2_with fail
  refine (HG.out _ HR.out).mono ?_
  rintro e w2 ⟨rfl, lo⟩
  have HL := Lib.hid lo
  clear lo HG
  go_wp2_with fail
  go_ret2
  exact ⟨rfl, HL.out⟩

set_option maxRecDepth 100000 in
set_option maxHeartbeats 1600000 in
theorem cmput_bad (v : Value) (l : List Ch.Span) (n : Int) (w : World) (h : SRow w v l) (hf : Cm.fmt n = false) (h1 : -9223372036854775808 ≤ n) (h2 : n ≤ 9223372036854775807) : Calls Tryz.prog 12 #[v, .int .i64 n] w fun e w' => e = strErr (Cm.put l n) ∧ Lo w w' := by
  rw [Cm.put_bad hf]
  obtain ⟨p, c, rfl, _⟩ := RowK.form h
  have HF := Lib.hid (fun W => formats_any W)
  have HKn := Lib.hid (fun x y => kind_no (x := x) (y := y) hf)
  have HB := Lib.hid (And.intro h1 h2)
  clear h hf h1 h2
  go_enter Tryz.func12, Tryz.ntmps12
  go_wp2_with fail
  refine (HF.out _).mono ?_
  rintro e w2 ⟨m, rfl, _, hk, lo⟩
  have HL := Lib.hid lo
  obtain ⟨x, y, _, _, hlk⟩ := kinds_look hk (n := n) HB.out.1 HB.out.2
  have hl2 := hlk _ (Lo.refl _)
  rw [HKn.out x y] at hl2
  unfold noKind at hl2
  clear lo hk hlk HF HKn
  go_wp2_with fail
  go_ret2
  exact ⟨rfl, HL.out.alloc _⟩

set_option maxRecDepth 100000 in
set_option maxHeartbeats 3200000 in
theorem cmput_by (rf wf : Nat) (wc : Nat → Nat → Array Value) (i1 i2 n : Int) (v : Value) (l : List Ch.Span) (w : World) (h : SRow w v l) (hf : Cm.fmt n = true) (hb1 : 0 ≤ n) (hb2 : n ≤ 13)
    (eg : ∀ args w, (callFunc wf args).run Tryz.prog w = .ok (.enter wf args) w) (hk : ∀ x y, kindOf x y n = (.agg #[.func (.func rf) #[] #[], .func (.func wf) #[] (wc x y), .int .i64 i1, .int .i64 i2], true))
    (hh : Bn.put [2, 2, 2, 2, 4] [0, 1, i1, i2, 12] = ([0, 0, 0, 1] ++ Cm.recFor n, 0))
    (hc : ∀ x y W, SRow W v l → W.cell? ⟨x, 0, none⟩ = some (.int .i64 12) → W.cell? ⟨y, 0, none⟩ = some (.int .i64 13) → Calls Tryz.prog wf (#[v] ++ wc x y) W fun e w' => e = strErr (Cm.write l n) ∧ Lo W w') :
    Calls Tryz.prog 12 #[v, .int .i64 n] w fun e w' => e = strErr (Cm.put l n) ∧ Lo w w' := by
  have HE : Hid ((Cm.write l n).2 ≠ 0 → Cm.put l n = ([], (Cm.write l n).2)) := Lib.hid (fun k => Cm.put_err hf k)
  have HG : Hid ((Cm.write l n).2 = 0 → Cm.put l n = ([0, 0, 0, 1] ++ Cm.recFor n ++ (Cm.write l n).1, 0)) := Lib.hid (fun k => Cm.put_good hf k)
  have HF := Lib.hid (fun W => formats_any W)
  have HK := Lib.hid hk
  have HB : Hid (0 ≤ n ∧ n ≤ 13) := Lib.hid ⟨hb1, hb2⟩
  have HC := Lib.hid hc
  have HP := Lib.hid (fun (v u : Value) (W : World) (hr : Row W v [2, 2, 2, 2, 4]) (hr2 : Row W u [0, 1, i1, i2, 12]) => put_any _ _ v u W hr hr2 (by simp))
  rw [hh] at HP
  have HR := Lib.hid h
  obtain ⟨p, c, rfl, _⟩ := RowK.form h
  have hl1 := Cm.len_write l n
  have hl2' : ([0, 0, 0, 1] ++ Cm.recFor n : List UInt8).length = 12 := by rw [List.length_append, Cm.recFor_len]; rfl
  unfold strErr at *
  generalize Cm.put l n = ans at *
  generalize Cm.write l n = a at *
  generalize ([0, 0, 0, 1] ++ Cm.recFor n : List UInt8) = hd at *
  obtain ⟨a1, a2⟩ := a
  dsimp only at HC HE HG HP hl1
  have hlen : (hd.length : Int) + (a1.length : Int) ≤ 9223372036854775807 := by omega
  have hlen2 : hd.length + a1.length ≤ 9223372036854775807 := by omega
  clear h hf hk hc hh hb1 hb2
  go_enter Tryz.func12, Tryz.ntmps12
  go_wp2_with fail
  refine (HF.out _).mono ?_
  rintro e w2 ⟨m, rfl, _, hk, lo⟩
  have HL := Lib.hid lo
  obtain ⟨x, y, kx, ky, hlk⟩ := kinds_look hk (n := n) (by have := HB.out; omega) (by have := HB.out; omega)
  have hl2 := hlk _ (Lo.refl _)
  rw [HK.out x y] at hl2
  have lA : Lo w2 (w2.alloc (.cells #[.func (.func rf) #[] #[], .func (.func wf) #[] (wc x y), .int .i64 i1, .int .i64 i2] 59)) := (Lo.refl w2).alloc _
  have HC2 := Lib.hid (HC.out x y _ (RowK.lo HR.out (HL.out.trans lA)) ((lA.cell (World.block_lt_of_cell? w2 _ kx)).trans kx) ((lA.cell (World.block_lt_of_cell? w2 _ ky)).trans ky))
  have HLA := Lib.hid (HL.out.trans lA)
  have hbk := new_block w2 (.cells #[.func (.func rf) #[] #[], .func (.func wf) #[] (wc x y), .int .i64 i1, .int .i64 i2] 59)
  generalize wc x y = cc at *
  clear lo hk hlk HF HK kx ky lA HC HR
  by_cases ha : a2 = 0
  · subst ha
    have HA := Lib.hid (HG.out rfl)
    have hcat := Gk.cat_list hd a1
    clear HE HG
    go_wp2_with (go_at_fn wf; refine (HC2.out).mono ?_; rintro e w3 ⟨rfl, lo3⟩; obtain ⟨⟨z0, z1, z2, z3⟩, -⟩ := four_at ((lo3.block _ (by simp)).trans hbk); have hb3 := (Array.getElem?_eq_some_iff.1 ((lo3.block _ (by simp)).trans hbk)).1; have z2a := fun o => ((Lo.refl w3).alloc o).cell (b := w2.heap.size) (o := 2) hb3; have z3a := fun o => ((Lo.refl w3).alloc o).cell (b := w2.heap.size) (o := 3) hb3; rw [z2] at z2a; rw [z3] at z3a; have HL3 := Lib.hid (HLA.out.trans lo3); clear lo3 hbk HC2 hb3)
    refine (HP.out _ _ _ (Row.lo (row5 w3 _ rfl 2 2 2 2 4) ((Lo.refl _).alloc _)) (row5 (w3.alloc (.cells #[.int .i64 2, .int .i64 2, .int .i64 2, .int .i64 2, .int .i64 4] 3)) (w3.heap.size + 1) (by simp) 0 1 i1 i2 12)).mono ?_
    rintro e w4 ⟨rfl, lo⟩
    have HL4 := Lib.hid (((HL3.out.alloc (.cells #[.int .i64 2, .int .i64 2, .int .i64 2, .int .i64 2, .int .i64 4] 3)).alloc (.cells #[.int .i64 0, .int .i64 1, .int .i64 i1, .int .i64 i2, .int .i64 12] 3)).trans lo)
    clear z2a z3a z0 z1 z2 z3 lo HP
    go_wp2_with fail
    go_ret2
    rw [HA.out]
    exact ⟨rfl, HL4.out⟩
  · have HA := Lib.hid (HE.out ha)
    have hne : (a2 != 0) = true := by simpa using ha
    clear HE HG HP ha
    go_wp2_with (go_at_fn wf; refine (HC2.out).mono ?_; rintro e w3 ⟨rfl, lo3⟩; have HL3 := Lib.hid (HLA.out.trans lo3); clear lo3 hbk HC2)
    go_ret2
    rw [HA.out]
    exact ⟨rfl, HL3.out⟩

theorem cmput_any (v : Value) (l : List Ch.Span) (n : Int) (w : World) (h : SRow w v l) (h1 : -9223372036854775808 ≤ n) (h2 : n ≤ 9223372036854775807) : Calls Tryz.prog 12 #[v, .int .i64 n] w fun e w' => e = strErr (Cm.put l n) ∧ Lo w w' := by
  cases hf : Cm.fmt n with
  | false => exact cmput_bad v l n w h hf h1 h2
  | true =>
    rcases (Cm.fmt_iff _).1 hf with rfl | rfl | rfl | rfl | rfl
    · exact cmput_by 47 48 (fun _ _ => #[]) 1 0 0 v l w h hf (by omega) (by omega) (enters_of Tryz.func48 (by kernel_rfl) rfl) (fun x y => rfl) (by decide +kernel) (fun x y W hr _ _ => putSmall_any v l W hr)
    · exact cmput_by 49 50 (fun _ _ => #[]) 3 1 4 v l w h hf (by omega) (by omega) (enters_of Tryz.func50 (by kernel_rfl) rfl) (fun x y => rfl) (by decide +kernel) (fun x y W hr _ _ => sput_any v l W hr)
    · exact cmput_by 47 51 (fun _ _ => #[]) 3 1 6 v l w h hf (by omega) (by omega) (enters_of Tryz.func51 (by kernel_rfl) rfl) (fun x y => rfl) (by decide +kernel) (fun x y W hr _ _ => putTrimmed_any v l W hr)
    · exact cmput_by 52 100 (fun x _ => #[.pointer (some ⟨x, 0, none⟩)]) 3 10 12 v l w h hf (by omega) (by omega) (enters_of Tryz.func100 (by kernel_rfl) rfl) (fun x y => rfl) (by decide +kernel) (fun x y W hr hx _ => groupWriter1_any x 12 v l W hx hr)
    · exact cmput_by 52 100 (fun _ y => #[.pointer (some ⟨y, 0, none⟩)]) 3 10 13 v l w h hf (by omega) (by omega) (enters_of Tryz.func100 (by kernel_rfl) rfl) (fun x y => rfl) (by decide +kernel) (fun x y W hr _ hy => groupWriter1_any y 13 v l W hy hr)

set_option maxHeartbeats 800000 in
theorem cglyph_any (v : Value) (l : List Ch.Span) (c g : Int) (w : World) (h : SRow w v l) : Calls Tryz.prog 14 #[v, .int .i64 c, .int .i64 g] w fun e w' => e = .returned (.tuple #[.int .i64 (Cm.glyph l c g).1, .int .i64 (Cm.glyph l c g).2]) ∧ Lo w w' := by
  have HI := Lib.hid (fun W hW => cis_any v l W hW)
  have HLk := Lib.hid (fun W hW => clook_any v l c W hW)
  have HR := Lib.hid h
  obtain ⟨p, cp, rfl, _⟩ := RowK.form h
  clear h
  unfold Cm.glyph
  cases hl : Ch.isL l with
  | false =>
    rw [hl] at HI
    clear hl HLk
    go_enter Tryz.func14, Tryz.ntmps14
    go_wp2_with fail
    refine (HI.out _ HR.out).mono ?_
    rintro e w2 ⟨rfl, lo⟩
    have HL := Lib.hid lo
    clear lo HI
    go_wp2_with fail
    go_ret2
    exact ⟨rfl, HL.out⟩
  | true =>
    rw [hl] at HI
    have hlk : Ch.Look l c = Ch.look l c := by unfold Ch.Look; rw [hl]; rfl
    rw [hlk] at HLk
    rw [if_neg (by simp)]
    clear hl hlk
    generalize Ch.look l c = k at *
    by_cases c1 : k = 0
    · rw [if_pos (.inl c1)]
      subst c1
      go_enter Tryz.func14, Tryz.ntmps14
      go_wp2_with fail
      refine (HI.out _ HR.out).mono ?_
      rintro e w2 ⟨rfl, lo⟩
      have HL := Lib.hid lo
      clear lo HI
      go_wp2_with fail
      refine (HLk.out _ (RowK.lo HR.out HL.out)).mono ?_
      rintro e w3 ⟨rfl, lo⟩
      have HL3 := Lib.hid (HL.out.trans lo)
      clear lo HLk
      go_wp2_with fail
      go_ret2
      exact ⟨rfl, HL3.out⟩
    · by_cases c2 : g ≤ k
      · rw [if_pos (.inr c2)]
        have hz : (k == 0) = false := by simpa using c1
        clear c1
        go_enter Tryz.func14, Tryz.ntmps14
        go_wp2_with fail
        refine (HI.out _ HR.out).mono ?_
        rintro e w2 ⟨rfl, lo⟩
        have HL := Lib.hid lo
        clear lo HI
        go_wp2_with fail
        refine (HLk.out _ (RowK.lo HR.out HL.out)).mono ?_
        rintro e w3 ⟨rfl, lo⟩
        have HL3 := Lib.hid (HL.out.trans lo)
        clear lo HLk
        go_wp2_with fail
        go_ret2
        exact ⟨rfl, HL3.out⟩
      · rw [if_neg (by omega)]
        have hz : (k == 0) = false := by simpa using c1
        clear c1
        go_enter Tryz.func14, Tryz.ntmps14
        go_wp2_with fail
        refine (HI.out _ HR.out).mono ?_
        rintro e w2 ⟨rfl, lo⟩
        have HL := Lib.hid lo
        clear lo HI
        go_wp2_with fail
        refine (HLk.out _ (RowK.lo HR.out HL.out)).mono ?_
        rintro e w3 ⟨rfl, lo⟩
        have HL3 := Lib.hid (HL.out.trans lo)
        clear lo HLk
        go_wp2_with fail
        go_ret2
        exact ⟨rfl, HL3.out⟩
end Go.Proofs.YtppihpjcdieeoaaGreatDoor
/-
  Contracts of the document's functions on spans (layer 8): one, Is, ends, Few, Short, Same of rows that are alike. No conditions beyond those stated.
-/
namespace Go.Proofs.YtppihpjcdieeoaaGreatDoor
open Go.RowKit

set_option maxHeartbeats 3200000 in
theorem rspan_any (x : Ch.Span) (w : World) : Calls Tryz.prog 77 #[aggS x] w fun e w' => e = .returned (.bool (Ch.okSpan x)) ∧ Lo w w' := by
  by_cases h1 : x.fr < 0 ∨ x.to < x.fr ∨ 1114111 < x.to ∨ x.st < 0 ∨ 1 < x.st ∨ x.gl < 0 ∨ 65535 < x.gl
  · have HE : Hid (Ch.okSpan x = false) := Lib.hid (by
      rw [Bool.eq_false_iff, ne_eq, Ch.okSpan_iff]
      omega)
    obtain ⟨fr, tt, gl, st⟩ := x
    generalize Ch.okSpan _ = y at *
    unfold aggS
    dsimp only at *
    by_cases c0 : fr < 0
    · clear h1
      go_enter Tryz.func77, Tryz.ntmps77
      go_wp2_with fail
      go_ret
      exact ⟨ret_bool HE.out.symm, (Lo.refl w).alloc _⟩
    · skip
      by_cases c1 : tt < fr
      · clear h1
        go_enter Tryz.func77, Tryz.ntmps77
        go_wp2_with fail
        go_ret
        exact ⟨ret_bool HE.out.symm, (Lo.refl w).alloc _⟩
      · skip
        by_cases c2 : 1114111 < tt
        · clear h1
          go_enter Tryz.func77, Tryz.ntmps77
          go_wp2_with fail
          go_ret
          exact ⟨ret_bool HE.out.symm, (Lo.refl w).alloc _⟩
        · skip
          by_cases c3 : st < 0
          · clear h1
            go_enter Tryz.func77, Tryz.ntmps77
            go_wp2_with fail
            go_ret
            exact ⟨ret_bool HE.out.symm, (Lo.refl w).alloc _⟩
          · skip
            by_cases c4 : 1 < st
            · clear h1
              go_enter Tryz.func77, Tryz.ntmps77
              go_wp2_with fail
              go_ret
              exact ⟨ret_bool HE.out.symm, (Lo.refl w).alloc _⟩
            · skip
              by_cases c5 : gl < 0
              · clear h1
                go_enter Tryz.func77, Tryz.ntmps77
                go_wp2_with fail
                go_ret
                exact ⟨ret_bool HE.out.symm, (Lo.refl w).alloc _⟩
              · skip
                have c6 : 65535 < gl := by omega
                clear h1
                go_enter Tryz.func77, Tryz.ntmps77
                go_wp2_with fail
                go_ret
                exact ⟨ret_bool HE.out.symm, (Lo.refl w).alloc _⟩
  · have HE : Hid (Ch.okSpan x = decide (Ch.glyphOf x x.to ≤ 65535)) := Lib.hid (by
      rw [Bool.eq_iff_iff, Ch.okSpan_iff, decide_eq_true_eq]
      unfold Ch.glyphOf
      constructor
      · intro h; exact h.2.2.2.2.2.2.2
      · intro h; exact ⟨by omega, by omega, by omega, by omega, by omega, by omega, by omega, h⟩)
    obtain ⟨fr, tt, gl, st⟩ := x
    unfold Ch.glyphOf at HE
    generalize Ch.okSpan _ = y at *
    unfold aggS
    dsimp only at *
    have c0 : ¬ fr < 0 := by omega
    have c1 : ¬ tt < fr := by omega
    have c2 : ¬ 1114111 < tt := by omega
    have c5 : ¬ gl < 0 := by omega
    have c6 : ¬ 65535 < gl := by omega
    rcases (show st = 0 ∨ st = 1 by omega) with rfl | rfl
    · clear h1
      go_enter Tryz.func77, Tryz.ntmps77
      go_wp2_with fail
      go_ret
      refine ⟨ret_bool ?_, (Lo.refl w).alloc _⟩
      rw [HE.out]
      first | rfl | (simp; done) | (simp; omega) | (simp [IntKind.wrap_i64]; omega)
    · clear h1
      go_enter Tryz.func77, Tryz.ntmps77
      go_wp2_with fail
      go_ret
      refine ⟨ret_bool ?_, (Lo.refl w).alloc _⟩
      rw [HE.out]
      first | rfl | (simp; done) | (simp; omega) | (simp [IntKind.wrap_i64]; omega)

/-- A region that draws its order, whose operations leave a world of a class: one walk, in the order of the text. -/
theorem wp_region_class {P : Program} {C : World → Prop} {id : Nat} {Q : Exit → Act → World → Prop} {a : Act} {w : World} {l : List Oper} (hm : P.follows .mixedOrders = true) (hB : Region.lexB .any l.toArray = true) (hC : C w.drew)
    (h : wpQuiet P l.toArray C (fun a' => ∀ w', C w' → Q .normal a' w') l a) : (Code.region id l.toArray true).wp P Q a w :=
  wp_region_quiet (C := C) hm hB hC (by simpa using h)

/-- A span's four cells, and one cell more, in a world in which nothing of W1 has turned. -/
abbrev SpanAt (b o b2 o2 : Nat) (fr tt gl st pt : Int) (W1 W : World) : Prop :=
  W.cell? ⟨b, o, none⟩ = some (.int .i64 fr) ∧ W.cell? ⟨b, o + 1, none⟩ = some (.int .i64 tt) ∧ W.cell? ⟨b, o + 2, none⟩ = some (.int .i64 gl) ∧ W.cell? ⟨b, o + 3, none⟩ = some (.int .i64 st) ∧ W.cell? ⟨b2, o2, none⟩ = some (.int .i64 pt) ∧ Hid (Lo W1 W)

set_option maxRecDepth 100000 in
set_option maxHeartbeats 6400000 in
theorem ris_any (v : Value) (l : List Ch.Span) (w : World) (h : SRow w v l) : Calls Tryz.prog 39 #[v] w fun e w' => e = .returned (.bool (Ch.isL l)) ∧ Lo w w' := by
  obtain ⟨p, c, rfl, hlen⟩ := RowK.form h
  rcases Nat.lt_or_ge 65536 l.length with hm | hm
  · rw [Ch.isL_many hm]
    generalize l.length = n at *
    have hmz : ¬ (n : Int) ≤ (65536 : Int) := by omega
    have hmz2 : (0 : Int) < (n : Int) := by omega
    go_enter Tryz.func39, Tryz.ntmps39
    go_wp2_with fail
    go_loopw [3] (fun s3 W => s3 = .int .i64 0 ∧ W = w) (fun _ _ => 0)
    case atStart => exact ⟨rfl, rfl⟩
    case round =>
      obtain ⟨rfl, rfl⟩ := hrel
      go_wp2_with fail
      go_ret
      exact ⟨ret_bool (decide_eq_false (by omega)), Lo.refl _⟩
  · have HR := Lib.hid h
    have HV := Lib.hid (fun (x : Ch.Span) (W : World) => rspan_any x W)
    have HY := Lib.hid (fun hc => Ch.isL_yes hm hc)
    have HN := Lib.hid (fun (k : Nat) hc => Ch.isL_no (l := l) (k := k) hc)
    generalize hn : l.length = n at *
    have HE := Lib.hid hn
    clear hn h
    generalize Ch.isL l = y at *
    have hmz : (n : Int) ≤ (65536 : Int) := by omega
    unfold aggS at HV
    go_enter Tryz.func39, Tryz.ntmps39
    go_wp2_with fail
    go_loopw [3] (fun s3 W => ∃ k : Nat, k ≤ n ∧ s3 = .int .i64 k ∧ Hid (Ch.chain (-1) (l.take k) = true) ∧ Hid (Lo w W)) (fun s3 _ => n - (intOf s3).toNat)
    case atStart => exact ⟨0, Nat.zero_le _, rfl, Lib.hid rfl, Lib.hid (Lo.refl _)⟩
    case round =>
      obtain ⟨k, hk, rfl, HC, HL⟩ := hrel
      rename World => W1
      by_cases hlt : k < n
      · have hk' : k < l.length := by rw [HE.out]; exact hlt
        have HS := Lib.hid (Ch.chain_step hk')
        obtain ⟨b, off, rfl, r0, r1, r2, r3⟩ := SRow.at4 (RowK.lo HR.out HL.out) (Ch.getD_some hk')
        have hb := World.block_lt_of_cell? W1 _ r0
        have hrow := RowK.lo HR.out HL.out
        by_cases hk0 : k = 0
        · subst hk0
          rw [show ((0 : Nat) : Int) = 0 from rfl]
          simp only [List.take_zero, Nat.zero_mul, Nat.add_zero] at HS r0 r1 r2 r3
          clear hk' hrow
          generalize l.getD 0 Ch.zs = x at *
          have HV1 := Lib.hid (HV.out x)
          clear HV
          have HOk := Lib.hid (fun h => ((Ch.okSpan_iff x).1 h).1)
          generalize Ch.okSpan x = ok at *
          obtain ⟨fr, tt, gl, st⟩ := x
          dsimp only at r0 r1 r2 r3 HS HV1 HOk
          have HSt : Hid (∀ W, Lo W1 W → SpanAt b off b off fr tt gl st fr W1 W) := Lib.hid (fun W lo => ⟨(lo.cell hb).trans r0, (lo.cell hb).trans r1, (lo.cell hb).trans r2, (lo.cell hb).trans r3, (lo.cell hb).trans r0, Lib.hid lo⟩)
          have C1 : Hid (∀ W, SpanAt b off b off fr tt gl st fr W1 W → Calls Tryz.prog 77 #[.agg #[.int .i64 fr, .int .i64 tt, .int .i64 gl, .int .i64 st]] W fun e w' => e = .returned (.bool ok) ∧ SpanAt b off b off fr tt gl st fr W1 w') :=
            Lib.hid (fun W hW => (HV1.out W).mono fun e w' hh => ⟨hh.1, HSt.out w' (hW.2.2.2.2.2.out.trans hh.2)⟩)
          clear HV1 r0 r1 r2 r3 hb
          have j1 : (0 : Int) < (n : Int) := by omega
          cases ok with
          | false =>
            have HF : Hid (y = false) := Lib.hid (HN.out 1 (by rw [HS.out, Bool.false_and, Bool.and_false]))
            clear HS HC
            go_wp2_with fail
            refine wp_region_class (C := fun W => SpanAt b off b off fr tt gl st fr W1 W) (by kernel_rfl) (by kernel_rfl) (HSt.out _ ((Lo.refl _).drew)) ?_
            go_big_quiet_step (fail)
            go_big_quiet_step (fail)
            go_big_quiet_want
            refine ⟨.pointer (some ⟨b, off, none⟩), ?_, ?_⟩
            · rintro W ⟨t0, t1, t2, t3, t4, t5⟩
              simp [Oper.quietAt, Oper.quietUpon, execOp, go_sem, hlt]
            simp [Act.put]
            go_big_quiet_on
            go_big_quiet_want
            refine ⟨.agg #[.int .i64 fr, .int .i64 tt, .int .i64 gl, .int .i64 st], ?_, ?_⟩
            · rintro W ⟨t0, t1, t2, t3, t4, t5⟩
              simp [Oper.quietAt, Oper.quietUpon, execOp, go_sem, t0, t1, t2, t3]
            simp [Act.put]
            go_big_quiet_on
            go_big_quiet_want
            refine ⟨.bool false, ?_, ?_⟩
            · intro W hW
              have h := C1.out W hW
              simp [Oper.quietAt, Oper.quietUpon, go_sem]
              exact h
            simp [Act.put]
            go_big_quiet_on
            go_big_quiet_want
            refine ⟨.bool true, fun W _ => ?_, ?_⟩
            · simp [Oper.quietAt, Oper.quietUpon, execOp, go_sem]
            simp [Act.put]
            go_big_quiet_on
            repeat (go_big_quiet_step (fail))
            go_big_quiet_want
            refine ⟨.bool true, fun W _ => ?_, ?_⟩
            · simp [Oper.quietAt, Oper.quietUpon, execOp, go_sem]
            simp [Act.put]
            go_big_quiet_on
            repeat (go_big_quiet_step (fail))
            refine wpQuiet_nil ?_
            intro w4 H4
            have HL3 := Lib.hid (HL.out.trans H4.2.2.2.2.2.out)
            clear HSt C1 H4
            go_wp2_with fail
            go_ret
            exact ⟨ret_bool HF.out.symm, HL3.out⟩
          | true =>
            have HC2 : Hid (Ch.chain (-1) (l.take (0 + 1)) = true) := Lib.hid (by
              rw [HS.out]
              have h0 := HOk.out rfl
              have h1 : (-1 : Int) < fr := by omega
              simp [Ch.chain, Ch.lastTo, h1])
            clear HS HC
            go_wp2_with fail
            refine wp_region_class (C := fun W => SpanAt b off b off fr tt gl st fr W1 W) (by kernel_rfl) (by kernel_rfl) (HSt.out _ ((Lo.refl _).drew)) ?_
            go_big_quiet_step (fail)
            go_big_quiet_step (fail)
            go_big_quiet_want
            refine ⟨.pointer (some ⟨b, off, none⟩), ?_, ?_⟩
            · rintro W ⟨t0, t1, t2, t3, t4, t5⟩
              simp [Oper.quietAt, Oper.quietUpon, execOp, go_sem, hlt]
            simp [Act.put]
            go_big_quiet_on
            go_big_quiet_want
            refine ⟨.agg #[.int .i64 fr, .int .i64 tt, .int .i64 gl, .int .i64 st], ?_, ?_⟩
            · rintro W ⟨t0, t1, t2, t3, t4, t5⟩
              simp [Oper.quietAt, Oper.quietUpon, execOp, go_sem, t0, t1, t2, t3]
            simp [Act.put]
            go_big_quiet_on
            go_big_quiet_want
            refine ⟨.bool true, ?_, ?_⟩
            · intro W hW
              have h := C1.out W hW
              simp [Oper.quietAt, Oper.quietUpon, go_sem]
              exact h
            simp [Act.put]
            go_big_quiet_on
            go_big_quiet_want
            refine ⟨.bool false, fun W _ => ?_, ?_⟩
            · simp [Oper.quietAt, Oper.quietUpon, execOp, go_sem]
            simp [Act.put]
            go_big_quiet_on
            repeat (go_big_quiet_step (fail))
            go_big_quiet_want
            refine ⟨.bool false, fun W _ => ?_, ?_⟩
            · simp [Oper.quietAt, Oper.quietUpon, execOp, go_sem]
            simp [Act.put]
            go_big_quiet_on
            repeat (go_big_quiet_step (fail))
            go_big_quiet_want
            refine ⟨.bool false, fun W _ => ?_, ?_⟩
            · simp [Oper.quietAt, Oper.quietUpon, execOp, go_sem]
            simp [Act.put]
            go_big_quiet_on
            repeat (go_big_quiet_step (fail))
            go_big_quiet_want
            refine ⟨.bool false, fun W _ => ?_, ?_⟩
            · simp [Oper.quietAt, Oper.quietUpon, execOp, go_sem]
            simp [Act.put]
            go_big_quiet_on
            repeat (go_big_quiet_step (fail))
            refine wpQuiet_nil ?_
            intro w4 H4
            have HL3 := Lib.hid (HL.out.trans H4.2.2.2.2.2.out)
            clear HSt C1 H4
            go_wp2_with fail
            go_roundw
            case rel => exact ⟨0 + 1, by omega, by go_num, HC2, HL3⟩
            case measure => simp [intOf]; omega
        · obtain ⟨j, hj⟩ : ∃ j, k = j + 1 := ⟨k - 1, by omega⟩
          have hj' : j < l.length := by omega
          have HT : Hid (Ch.lastTo (-1) (l.take k) = (l.getD j Ch.zs).to) := Lib.hid (by rw [hj]; exact Ch.lastTo_step hj')
          rw [HT.out] at HS
          obtain ⟨b', off', e', _, q1, _, _⟩ := SRow.at4 hrow (Ch.getD_some hj')
          simp only [Option.some.injEq, Addr.mk.injEq, and_true] at e'
          obtain ⟨rfl, rfl⟩ := e'
          have hjn : j < n := by omega
          clear hk' hj' hrow HT
          generalize (l.getD j Ch.zs).to = pt at *
          generalize l.getD k Ch.zs = x at *
          have HV1 := Lib.hid (HV.out x)
          clear HV
          generalize Ch.okSpan x = ok at *
          obtain ⟨fr, tt, gl, st⟩ := x
          dsimp only at r0 r1 r2 r3 HS HV1
          have HSt : Hid (∀ W, Lo W1 W → SpanAt b (off + k * 4) b (off + j * 4 + 1) fr tt gl st pt W1 W) := Lib.hid (fun W lo => ⟨(lo.cell hb).trans r0, (lo.cell hb).trans r1, (lo.cell hb).trans r2, (lo.cell hb).trans r3, (lo.cell hb).trans q1, Lib.hid lo⟩)
          have C1 : Hid (∀ W, SpanAt b (off + k * 4) b (off + j * 4 + 1) fr tt gl st pt W1 W → Calls Tryz.prog 77 #[.agg #[.int .i64 fr, .int .i64 tt, .int .i64 gl, .int .i64 st]] W fun e w' => e = .returned (.bool ok) ∧ SpanAt b (off + k * 4) b (off + j * 4 + 1) fr tt gl st pt W1 w') :=
            Lib.hid (fun W hW => (HV1.out W).mono fun e w' hh => ⟨hh.1, HSt.out w' (hW.2.2.2.2.2.out.trans hh.2)⟩)
          clear HV1 r0 r1 r2 r3 q1 hb
          have j1 : (k : Int) < (n : Int) := by omega
          have j2 : (0 : Int) < (k : Int) := by omega
          have j5 : 0 < k := by omega
          have j3 : IntKind.i64.wrap ((k : Int) - 1) = (j : Int) := by rw [IntKind.wrap_i64]; omega
          have j4 : (j : Int) < (n : Int) := by omega
          clear hj
          cases ok with
          | false =>
            have HF : Hid (y = false) := Lib.hid (HN.out (k + 1) (by rw [HS.out, Bool.false_and, Bool.and_false]))
            clear HS HC
            go_wp2_with fail
            refine wp_region_class (C := fun W => SpanAt b (off + k * 4) b (off + j * 4 + 1) fr tt gl st pt W1 W) (by kernel_rfl) (by kernel_rfl) (HSt.out _ ((Lo.refl _).drew)) ?_
            go_big_quiet_step (fail)
            go_big_quiet_step (fail)
            go_big_quiet_want
            refine ⟨.pointer (some ⟨b, off + k * 4, none⟩), ?_, ?_⟩
            · rintro W ⟨t0, t1, t2, t3, t4, t5⟩
              simp [Oper.quietAt, Oper.quietUpon, execOp, go_sem, hlt]
            simp [Act.put]
            go_big_quiet_on
            go_big_quiet_want
            refine ⟨.agg #[.int .i64 fr, .int .i64 tt, .int .i64 gl, .int .i64 st], ?_, ?_⟩
            · rintro W ⟨t0, t1, t2, t3, t4, t5⟩
              simp [Oper.quietAt, Oper.quietUpon, execOp, go_sem, t0, t1, t2, t3]
            simp [Act.put]
            go_big_quiet_on
            go_big_quiet_want
            refine ⟨.bool false, ?_, ?_⟩
            · intro W hW
              have h := C1.out W hW
              simp [Oper.quietAt, Oper.quietUpon, go_sem]
              exact h
            simp [Act.put]
            go_big_quiet_on
            go_big_quiet_want
            refine ⟨.bool true, fun W _ => ?_, ?_⟩
            · simp [Oper.quietAt, Oper.quietUpon, execOp, go_sem]
            simp [Act.put]
            go_big_quiet_on
            repeat (go_big_quiet_step (fail))
            go_big_quiet_want
            refine ⟨.bool true, fun W _ => ?_, ?_⟩
            · simp [Oper.quietAt, Oper.quietUpon, execOp, go_sem]
            simp [Act.put]
            go_big_quiet_on
            repeat (go_big_quiet_step (fail))
            refine wpQuiet_nil ?_
            intro w4 H4
            have HL3 := Lib.hid (HL.out.trans H4.2.2.2.2.2.out)
            clear HSt C1 H4
            go_wp2_with fail
            go_ret
            exact ⟨ret_bool HF.out.symm, HL3.out⟩
          | true =>
            by_cases hle : fr ≤ pt
            · have HF : Hid (y = false) := Lib.hid (HN.out (k + 1) (by rw [HS.out, decide_eq_false (by omega), Bool.and_false, Bool.and_false]))
              clear HS HC
              go_wp2_with fail
              go_region_held3 (fun W => SpanAt b (off + k * 4) b (off + j * 4 + 1) fr tt gl st pt W1 W) (first | assumption | exact HSt.out _ (Lo.drew (Lo.refl _)))
                (first | (go_at_call 77; refine (C1.out _ (by assumption)).mono ?_; rintro e wA ⟨rfl, hSA⟩))
              all_goals
                have HL3 := Lib.hid (HL.out.trans hSA.2.2.2.2.2.out)
                clear hSA HSt C1
                go_wp2_with fail
                go_ret
                exact ⟨ret_bool HF.out.symm, HL3.out⟩
            · have HC2 : Hid (Ch.chain (-1) (l.take (k + 1)) = true) := Lib.hid (by rw [HS.out, HC.out, decide_eq_true (by omega)]; rfl)
              clear HS HC
              go_wp2_with fail
              go_region_held3 (fun W => SpanAt b (off + k * 4) b (off + j * 4 + 1) fr tt gl st pt W1 W) (first | assumption | exact HSt.out _ (Lo.drew (Lo.refl _)))
                (first | (go_at_call 77; refine (C1.out _ (by assumption)).mono ?_; rintro e wA ⟨rfl, hSA⟩))
              all_goals
                have HL3 := Lib.hid (HL.out.trans hSA.2.2.2.2.2.out)
                clear hSA HSt C1
                go_wp2_with fail
                go_roundw
                case rel => exact ⟨k + 1, by omega, by go_num, HC2, HL3⟩
                case measure => simp [intOf]; omega
      · obtain rfl : k = n := by omega
        have HF : Hid (y = true) := Lib.hid (HY.out HC.out)
        go_wp2_with fail
        go_ret
        exact ⟨ret_bool HF.out.symm, HL.out⟩
end Go.Proofs.YtppihpjcdieeoaaGreatDoor

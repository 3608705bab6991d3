/-
  Facts that the walks rest on: GrRefSplit, BnRefB. No conditions beyond those stated.
-/
import Derived.Test.YtppihpjcdieeoaaGreatDoorGrSplit
import Derived.Test.YtppihpjcdieeoaaGreatDoorPart23
import Derived.Maps.AppendAt
import Derived.Test.YtppihpjcdieeoaaGreatDoorPart24
/-
  Contract of the document's Split (layer 10). No conditions beyond those stated.
-/
namespace Go.Proofs.YtppihpjcdieeoaaGreatDoor
open Go.RowKit

/-- Behind an append onto a slice of the call's own: another block stands, and is not the new slice's row. -/
theorem app_keep {W w2 : World} {bx : Nat} {v v' : Value} {o tmp : Obj} (hb : W.heap[bx]? = some o) (hne : v.ownBlock ≠ some bx) (hg : (W.alloc tmp).grownBy w2 v.ownBlock) (hat : v'.ownBlock = v.ownBlock ∨ v'.ownBlock = some (W.alloc tmp).heap.size) : w2.heap[bx]? = some o ∧ v'.ownBlock ≠ some bx := by
  have hlt := (Array.getElem?_eq_some_iff.1 hb).1
  refine ⟨(hg.block bx (by rw [World.size_alloc]; omega) (fun e => hne e.symm)).trans ((Below.heap_alloc W tmp bx hlt).trans hb), ?_⟩
  rcases hat with h | h
  · rw [h]; exact hne
  · rw [h]
    intro e
    injection e with e
    rw [World.size_alloc] at e
    omega
theorem app_lo {w W w2 : World} {ty k n : Nat} {v : Value} {xs : List Value} {tmp : Obj} (hl : Lo w W) (hrow : W.ownsRow w.heap.size ty k v n xs) (hg : (W.alloc tmp).grownBy w2 v.ownBlock) : Lo w w2 :=
  Below.grown (hl.alloc tmp) hg (hl.alloc tmp).size (fun j hj => (hrow.lt j hj).1)

set_option maxHeartbeats 800000 in
theorem rsplit_arg (l : List Ch.Span) (v : Value) (step : Int) (w : World) (h : SRow w v l) (hc : Ch.isL l = false ∨ step < 0 ∨ 1 < step) :
    Calls Tryz.prog 113 #[v, .int .i64 step] w fun e w' => GotSp ([], 1) w e w' := by
  have HI := Lib.hid (ris_any v l w h)
  obtain ⟨p, c, rfl, _⟩ := RowK.form h
  have HC : Hid (Ch.isL l = false ∨ (Ch.isL l = true ∧ step < 0) ∨ (Ch.isL l = true ∧ ¬ step < 0 ∧ 1 < step)) := Lib.hid (by
    cases e : Ch.isL l with
    | false => exact .inl rfl
    | true =>
      by_cases c1 : step < 0
      · exact .inr (.inl ⟨rfl, c1⟩)
      · refine .inr (.inr ⟨rfl, c1, ?_⟩)
        rcases hc with k | k | k
        · rw [e] at k; cases k
        · exact absurd k c1
        · exact k)
  generalize Ch.isL l = il at *
  clear h hc
  go_enter Tryz.func113, Tryz.ntmps113
  go_wp2_with fail
  refine HI.out.mono ?_
  rintro e w1 ⟨rfl, lo⟩
  have HL := Lib.hid lo
  clear lo HI
  rcases HC.out with rfl | ⟨rfl, c1⟩ | ⟨rfl, c1, c2⟩
  · clear HC
    go_wp2_with fail
    go_ret2
    exact GotSp.nil rfl HL.out
  · clear HC
    go_wp2_with fail
    go_ret2
    exact GotSp.nil rfl HL.out
  · clear HC
    go_wp2_with fail
    go_ret2
    exact GotSp.nil rfl HL.out
theorem own_setF {ty k F : Nat} {w : World} {base : Nat} {v : Value} {l : List Ch.Span} (h : OwnK encS ty k w base v l) (hne : v.ownBlock ≠ some F) (o : Nat) (u : Value) : OwnK encS ty k (w.setCell ⟨F, o, none⟩ u) base v l := by
  refine ⟨h.1, ?_⟩
  rcases h.2 with h2 | ⟨g, cap, cur, hv, hg, hh, r⟩
  · exact .inl h2
  · refine .inr ⟨g, cap, cur, hv, hg, ?_, r⟩
    have hgF : g ≠ F := by
      rintro rfl
      exact hne (by rw [hv]; rfl)
    rw [Below.heap_setCell _ _ _ _ (by exact hgF)]; exact hh

/-! The loop. -/
set_option maxRecDepth 100000 in
set_option maxHeartbeats 6400000 in
theorem rsplit_ok (l : List Ch.Span) (v : Value) (step : Int) (w : World) (h : SRow w v l) (hl : Ch.isL l = true) (hs1 : step = 0 ∨ step = 1) :
    Calls Tryz.prog 113 #[v, .int .i64 step] w fun e w' => GotSp (Gp.split l step) w e w' := by
  have HI := Lib.hid (ris_any v l w h)
  have HR := Lib.hid h
  have HOK := Lib.hid (fun (x : Ch.Span) (hx : x ∈ l) => Ch.isL_ok hl hx)
  have HSd : Hid ((Gp.parts step l).length ≤ 65536 → Gp.split l step = (Gp.parts step l, 0)) := Lib.hid (fun k => Gp.split_done hl (by omega) (by omega) (by omega))
  have HSl : Hid (65536 < (Gp.parts step l).length → Gp.split l step = ([], 7)) := Lib.hid (fun k => Gp.split_long hl (by omega) (by omega) k)
  have HSt : Hid (∀ i k : Nat, i < l.length → ¬ ((l.getD i Ch.zs).st = step ∨ (l.getD i Ch.zs).fr = (l.getD i Ch.zs).to) → (k : Int) ≤ (l.getD i Ch.zs).to - (l.getD i Ch.zs).fr + 1 → 65536 < (Gp.parts step (l.take i) ++ Gp.cutTo step (l.getD i Ch.zs) k).length → Gp.split l step = ([], 7)) :=
    Lib.hid (fun i k hi hc hk hl2 => Gp.split_stop hl (by omega) (by omega) hi hc hk hl2)
  have HPs : Hid (∀ k, k < l.length → Gp.parts step (l.take (k + 1)) = Gp.parts step (l.take k) ++ Gp.part step (l.getD k Ch.zs)) := Lib.hid (fun k hk => Gp.parts_step hk)
  have HPn : Hid (Gp.parts step (l.take l.length) = Gp.parts step l) := Lib.hid (Gp.parts_all step l)
  obtain ⟨p, c, rfl, _⟩ := RowK.form h
  have hll : l.length ≤ 65536 := by unfold Ch.isL at hl; simp only [Bool.and_eq_true, decide_eq_true_eq] at hl; exact hl.2
  rw [hl] at HI
  generalize Gp.split l step = RES at *
  obtain ⟨n, hnn⟩ : ∃ n, l.length = n := ⟨_, rfl⟩
  rw [hnn] at hll HI HR HPn HPs HSt
  have HN := Lib.hid hnn
  have n1 : ¬ step < 0 := by omega
  have n2 : ¬ 1 < step := by omega
  rw [hnn]
  clear h hl hnn
  go_enter Tryz.func113, Tryz.ntmps113
  go_wp2_with fail
  refine HI.out.mono ?_
  rintro e w1 ⟨rfl, lo⟩
  have HL1 := Lib.hid lo
  clear lo HI
  go_wp2_with fail
  go_loopw [6, 7] (fun o i wr => ∃ (k : Nat) (L : List Ch.Span) (q : Option Addr) (d : Nat), k ≤ n ∧ i = .int .i64 (k : Int) ∧ o = .slice q L.length d ∧ Hid (L = Gp.parts step (l.take k)) ∧ Hid (L.length ≤ 65536 + k) ∧ Hid (OwnK encS 63 4 wr w.heap.size (.slice q L.length d) L) ∧ Hid (Lo w wr))
    (fun _ i _ => n - (intOf i).toNat)
  case atStart => exact ⟨0, [], none, 0, Nat.zero_le _, rfl, rfl, Lib.hid rfl, Lib.hid (Nat.zero_le _), Lib.hid (OwnK.none _ _ _ _ _), HL1⟩
  case round =>
    obtain ⟨k, L, q, d, hk, rfl, rfl, HT, HLe, HO, HL⟩ := hrel
    by_cases hlt : k < n
    · have hxk : l[k]? = some (l.getD k Ch.zs) := Ch.getD_some (by rw [HN.out]; exact hlt)
      obtain ⟨b, off, rfl, r0, r1, r2, r3⟩ := SRow.at4 (RowK.lo HR.out HL.out) hxk
      have hok := HOK.out _ (List.mem_of_getElem? hxk)
      obtain ⟨a1, a2, a3, a4, a5, a6, a7, a8⟩ := (Ch.okSpan_iff _).1 hok
      have HP1 := Lib.hid (HPs.out k hlt)
      rw [← HT.out] at HP1
      have HSt1 := Lib.hid (fun j => HSt.out k j hlt)
      rw [← HT.out] at HSt1
      have HFr := Lib.hid (own_fresh HO.out (T := wr.heap.size) (Nat.le_refl _))
      have HSZ := Lib.hid HL.out.size
      clear hxk hok
      generalize l.getD k Ch.zs = x at *
      obtain ⟨fr, tt, gl, st⟩ := x
      dsimp only at r0 r1 r2 r3 a1 a2 a3 a4 a5 a6 a7 a8
      by_cases hst : st = step
      · have q1 : (st == step) = true := by simpa using hst
        have HST := Lib.hid hst
        clear hst
        by_cases c1 : 0 < gl
        · have HT2 : Hid (L ++ [⟨fr, tt, gl, step⟩] = Gp.parts step (l.take (k + 1))) := Lib.hid (by rw [HP1.out, Gp.part_keep (.inl HST.out), if_pos (by unfold Sg.hasGl; simp; omega)]; rfl)
          have HLe2 : Hid ((L ++ [(⟨fr, tt, gl, step⟩ : Ch.Span)]).length ≤ 65536 + (k + 1)) := Lib.hid (by rw [List.length_append]; have := HLe.out; simp; omega)
          have HO2 := Lib.hid (OwnK.lo HO.out ((Lo.refl wr).alloc (.cells #[.int .i64 fr, .int .i64 tt, .int .i64 gl, .int .i64 step] 63)))
          have HL2 := Lib.hid (HL.out.alloc (.cells #[.int .i64 fr, .int .i64 tt, .int .i64 gl, .int .i64 step] 63))
          clear HP1 HSt1 HFr HT
          go_wp2_with (at_builtin; refine wpList_appK _ rfl (.tmp 60) (.tmp 62) _ rfl 63 4 32 _ Tryz.underlying22 api_info rfl (by omega) (by omega) encS_len encS_one w.heap.size (.slice q L.length d) L rfl (OwnK.lo HO2.out ((Lo.refl _).alloc _)) _ [⟨fr, tt, gl, step⟩] rfl (srow1 _ _ (by simp) ⟨fr, tt, gl, step⟩ _) (by have := HLe.out; simp; omega) (by have := HSZ.out; simp; omega) ?_; intro q1 d1 w4 hown hlo; have HO4 := Lib.hid hown; have HL4 := Lib.hid (hlo w (HL2.out.alloc _) (Nat.le_refl _)); clear hown hlo)
          go_roundw
          case rel => exact ⟨k + 1, L ++ [⟨fr, tt, gl, step⟩], q1, d1, by omega, by go_num, by simp, HT2, HLe2, by simpa using HO4, HL4⟩
          case measure => simp [intOf]; omega
        · by_cases c2 : st = 1
          · have q2 : (st == 1) = true := by simpa using c2
            have HC2 := Lib.hid c2
            clear c2
            by_cases c3 : fr < tt
            · have HT2 : Hid (L ++ [⟨fr, tt, gl, step⟩] = Gp.parts step (l.take (k + 1))) := Lib.hid (by rw [HP1.out, Gp.part_keep (.inl HST.out), if_pos (by have := HC2.out; unfold Sg.hasGl; simp; omega)]; rfl)
              have HLe2 : Hid ((L ++ [(⟨fr, tt, gl, step⟩ : Ch.Span)]).length ≤ 65536 + (k + 1)) := Lib.hid (by rw [List.length_append]; have := HLe.out; simp; omega)
              have HO2 := Lib.hid (OwnK.lo HO.out ((Lo.refl wr).alloc (.cells #[.int .i64 fr, .int .i64 tt, .int .i64 gl, .int .i64 step] 63)))
              have HL2 := Lib.hid (HL.out.alloc (.cells #[.int .i64 fr, .int .i64 tt, .int .i64 gl, .int .i64 step] 63))
              clear HP1 HSt1 HFr HT
              go_wp2_with (at_builtin; refine wpList_appK _ rfl (.tmp 60) (.tmp 62) _ rfl 63 4 32 _ Tryz.underlying22 api_info rfl (by omega) (by omega) encS_len encS_one w.heap.size (.slice q L.length d) L rfl (OwnK.lo HO2.out ((Lo.refl _).alloc _)) _ [⟨fr, tt, gl, step⟩] rfl (srow1 _ _ (by simp) ⟨fr, tt, gl, step⟩ _) (by have := HLe.out; simp; omega) (by have := HSZ.out; simp; omega) ?_; intro q1 d1 w4 hown hlo; have HO4 := Lib.hid hown; have HL4 := Lib.hid (hlo w (HL2.out.alloc _) (Nat.le_refl _)); clear hown hlo)
              go_roundw
              case rel => exact ⟨k + 1, L ++ [⟨fr, tt, gl, step⟩], q1, d1, by omega, by go_num, by simp, HT2, HLe2, by simpa using HO4, HL4⟩
              case measure => simp [intOf]; omega
            · have HT2 : Hid (L = Gp.parts step (l.take (k + 1))) := Lib.hid (by rw [HP1.out, Gp.part_keep (.inl HST.out), if_neg (by have := HC2.out; unfold Sg.hasGl; simp; omega), List.append_nil])
              have HO2 := Lib.hid (OwnK.lo HO.out ((Lo.refl wr).alloc (.cells #[.int .i64 fr, .int .i64 tt, .int .i64 gl, .int .i64 st] 63)))
              have HL2 := Lib.hid (HL.out.alloc (.cells #[.int .i64 fr, .int .i64 tt, .int .i64 gl, .int .i64 st] 63))
              clear HP1 HSt1 HFr HT
              go_wp2_with fail
              go_roundw
              case rel => exact ⟨k + 1, L, q, d, by omega, by go_num, rfl, HT2, Lib.hid (by have := HLe.out; omega), HO2, HL2⟩
              case measure => simp [intOf]; omega
          · have q2 : (st == 1) = false := by simpa using c2
            have HC2 := Lib.hid c2
            clear c2
            have HT2 : Hid (L = Gp.parts step (l.take (k + 1))) := Lib.hid (by rw [HP1.out, Gp.part_keep (.inl HST.out), if_neg (by have := HC2.out; unfold Sg.hasGl; simp; omega), List.append_nil])
            have HO2 := Lib.hid (OwnK.lo HO.out ((Lo.refl wr).alloc (.cells #[.int .i64 fr, .int .i64 tt, .int .i64 gl, .int .i64 st] 63)))
            have HL2 := Lib.hid (HL.out.alloc (.cells #[.int .i64 fr, .int .i64 tt, .int .i64 gl, .int .i64 st] 63))
            clear HP1 HSt1 HFr HT
            go_wp2_with fail
            go_roundw
            case rel => exact ⟨k + 1, L, q, d, by omega, by go_num, rfl, HT2, Lib.hid (by have := HLe.out; omega), HO2, HL2⟩
            case measure => simp [intOf]; omega
      · have q1 : (st == step) = false := by simpa using hst
        by_cases hft : fr = tt
        · have q3 : (fr == tt) = true := by simpa using hft
          have HFT := Lib.hid hft
          clear hft
          by_cases c1 : 0 < gl
          · have HT2 : Hid (L ++ [⟨fr, tt, gl, step⟩] = Gp.parts step (l.take (k + 1))) := Lib.hid (by rw [HP1.out, Gp.part_keep (.inr HFT.out), if_pos (by unfold Sg.hasGl; simp; omega)]; rfl)
            have HLe2 : Hid ((L ++ [(⟨fr, tt, gl, step⟩ : Ch.Span)]).length ≤ 65536 + (k + 1)) := Lib.hid (by rw [List.length_append]; have := HLe.out; simp; omega)
            have HO2 := Lib.hid (OwnK.lo HO.out ((Lo.refl wr).alloc (.cells #[.int .i64 fr, .int .i64 tt, .int .i64 gl, .int .i64 step] 63)))
            have HL2 := Lib.hid (HL.out.alloc (.cells #[.int .i64 fr, .int .i64 tt, .int .i64 gl, .int .i64 step] 63))
            clear HP1 HSt1 HFr HT
            go_wp2_with (at_builtin; refine wpList_appK _ rfl (.tmp 60) (.tmp 62) _ rfl 63 4 32 _ Tryz.underlying22 api_info rfl (by omega) (by omega) encS_len encS_one w.heap.size (.slice q L.length d) L rfl (OwnK.lo HO2.out ((Lo.refl _).alloc _)) _ [⟨fr, tt, gl, step⟩] rfl (srow1 _ _ (by simp) ⟨fr, tt, gl, step⟩ _) (by have := HLe.out; simp; omega) (by have := HSZ.out; simp; omega) ?_; intro q1 d1 w4 hown hlo; have HO4 := Lib.hid hown; have HL4 := Lib.hid (hlo w (HL2.out.alloc _) (Nat.le_refl _)); clear hown hlo)
            go_roundw
            case rel => exact ⟨k + 1, L ++ [⟨fr, tt, gl, step⟩], q1, d1, by omega, by go_num, by simp, HT2, HLe2, by simpa using HO4, HL4⟩
            case measure => simp [intOf]; omega
          · by_cases c2 : st = 1
            · have q2 : (st == 1) = true := by simpa using c2
              have HC2 := Lib.hid c2
              clear c2
              have c3 : ¬ fr < tt := by have := HFT.out; omega
              have HT2 : Hid (L = Gp.parts step (l.take (k + 1))) := Lib.hid (by rw [HP1.out, Gp.part_keep (.inr HFT.out), if_neg (by have := HC2.out; have := HFT.out; unfold Sg.hasGl; simp; omega), List.append_nil])
              have HO2 := Lib.hid (OwnK.lo HO.out ((Lo.refl wr).alloc (.cells #[.int .i64 fr, .int .i64 tt, .int .i64 gl, .int .i64 st] 63)))
              have HL2 := Lib.hid (HL.out.alloc (.cells #[.int .i64 fr, .int .i64 tt, .int .i64 gl, .int .i64 st] 63))
              clear HP1 HSt1 HFr HT
              go_wp2_with fail
              go_roundw
              case rel => exact ⟨k + 1, L, q, d, by omega, by go_num, rfl, HT2, Lib.hid (by have := HLe.out; omega), HO2, HL2⟩
              case measure => simp [intOf]; omega
            · have q2 : (st == 1) = false := by simpa using c2
              have HC2 := Lib.hid c2
              clear c2
              have HT2 : Hid (L = Gp.parts step (l.take (k + 1))) := Lib.hid (by rw [HP1.out, Gp.part_keep (.inr HFT.out), if_neg (by have := HC2.out; unfold Sg.hasGl; simp; omega), List.append_nil])
              have HO2 := Lib.hid (OwnK.lo HO.out ((Lo.refl wr).alloc (.cells #[.int .i64 fr, .int .i64 tt, .int .i64 gl, .int .i64 st] 63)))
              have HL2 := Lib.hid (HL.out.alloc (.cells #[.int .i64 fr, .int .i64 tt, .int .i64 gl, .int .i64 st] 63))
              clear HP1 HSt1 HFr HT
              go_wp2_with fail
              go_roundw
              case rel => exact ⟨k + 1, L, q, d, by omega, by go_num, rfl, HT2, Lib.hid (by have := HLe.out; omega), HO2, HL2⟩
              case measure => simp [intOf]; omega
        · have q3 : (fr == tt) = false := by simpa using hft
          have hcut : ¬ (st = step ∨ fr = tt) := by rintro (k | k) <;> contradiction
          have HSt2 := Lib.hid (fun j hj h => HSt1.out j hcut hj h)
          have HPc := HP1.out
          rw [Gp.part_cut hcut] at HPc
          obtain ⟨M, hM⟩ : ∃ M, (tt - fr + 1).toNat = M := ⟨_, rfl⟩
          have hMi : tt - fr + 1 = (M : Int) := by omega
          dsimp only at HPc
          rw [hM] at HPc
          have HCs : Hid (∀ (j : Nat) (g : Int), fr + (j : Int) ≤ tt → g = gl + st * (j : Int) → Gp.cutTo step ⟨fr, tt, gl, st⟩ (j + 1) = Gp.cutTo step ⟨fr, tt, gl, st⟩ j ++ if g = 0 then [] else [⟨fr + (j : Int), fr + (j : Int), g, step⟩]) := Lib.hid (fun j g h hg => by rw [hg]; exact Gp.cut_step h)
          have HBd : Hid (∀ j : Nat, j < M → 0 ≤ gl + st * (j : Int) ∧ gl + st * (j : Int) ≤ 65535) := Lib.hid (fun j h => by
            rcases (show st = 0 ∨ st = 1 by omega) with e | e
            · rw [e]; simp; omega
            · rw [e] at a8 ⊢; simp at a8 ⊢; omega)
          obtain ⟨C, hC⟩ : ∃ C : Nat → List Ch.Span, C = Gp.cutTo step ⟨fr, tt, gl, st⟩ := ⟨_, rfl⟩
          have HC0 : Hid (C 0 = []) := Lib.hid (by rw [hC]; rfl)
          dsimp only at HSt2
          rw [← hC] at HPc HCs HSt2
          have HPC := Lib.hid HPc
          have HHL := HL
          clear hC HPc hM HP1 HSt1 a8 HT hcut
          rcases (show st = 0 ∨ st = 1 by omega) with rfl | rfl
          · go_wp2_with fail
            have HO1 := Lib.hid (OwnK.lo HO.out ((Lo.refl wr).alloc (.cells #[.int .i64 fr, .int .i64 tt, .int .i64 gl, .int .i64 0] 63)))
            have HL2 := Lib.hid (HL.out.alloc (.cells #[.int .i64 fr, .int .i64 tt, .int .i64 gl, .int .i64 0] 63))
            have HB2 : Hid ((wr.alloc (.cells #[.int .i64 fr, .int .i64 tt, .int .i64 gl, .int .i64 0] 63)).heap[wr.heap.size]? = some (.cells #[.int .i64 fr, .int .i64 tt, .int .i64 gl, .int .i64 0] 63)) := Lib.hid (new_block wr _)
            clear r0 r1 r2 r3
            obtain ⟨bx, hbx⟩ : ∃ bx, wr.heap.size = bx := ⟨_, rfl⟩
            have HBX : Hid (w.heap.size ≤ bx) := Lib.hid (by rw [← hbx]; exact HSZ.out)
            rw [hbx] at HFr HB2 ⊢
            clear hbx HSZ
            generalize (wr.alloc (.cells #[.int .i64 fr, .int .i64 tt, .int .i64 gl, .int .i64 0] 63)) = wr0 at *
            go_loopw [6, 9] (fun o ci W2 => ∃ (j : Nat) (L2 : List Ch.Span) (q2 : Option Addr) (d2 : Nat), j ≤ M ∧ ci = .int .i64 (fr + (j : Int)) ∧ o = .slice q2 L2.length d2 ∧ Hid (L2 = L ++ C j) ∧ Hid (L2.length ≤ 65536 + k) ∧ Hid (OwnK encS 63 4 W2 w.heap.size (.slice q2 L2.length d2) L2) ∧ Hid ((Value.slice q2 L2.length d2).ownBlock ≠ some bx) ∧ Hid (W2.heap[bx]? = some (.cells #[.int .i64 fr, .int .i64 tt, .int .i64 gl, .int .i64 0] 63)) ∧ Hid (Lo w W2))
              (fun _ ci _ => (tt + 1 - intOf ci).toNat)
            case atStart => exact ⟨0, L, q, d, Nat.zero_le _, by simp, rfl, Lib.hid (by rw [HC0.out, List.append_nil]), HLe, HO1, HFr, HB2, HL2⟩
            case round =>
              obtain ⟨j, L2, q2, d2, hj, rfl, rfl, HT2, HLe2, HO2, HF2, HB3, HL3⟩ := hrel
              have x0 := block_cell (i := 0) HB3.out rfl
              have x1 := block_cell (i := 1) HB3.out rfl
              have x2 := block_cell (i := 2) HB3.out rfl
              have x3 := block_cell (i := 3) HB3.out rfl
              by_cases hjlt : j < M
              · have hgb := HBd.out j hjlt
                have hGk : gl = gl + 0 * (j : Int) := by simp
                rw [← hGk] at hgb
                obtain ⟨g0, g1⟩ := hgb
                have hjt : fr + (j : Int) ≤ tt := by omega
                have HC1 := Lib.hid (HCs.out j (gl) hjt hGk)
                clear hGk
                by_cases hz : 0 < gl
                · have hz0 : ¬ gl = 0 := by omega
                  rw [if_neg hz0] at HC1
                  clear hz0
                  have HT3 : Hid (L2 ++ [⟨fr + (j : Int), fr + (j : Int), gl, step⟩] = L ++ C (j + 1)) := Lib.hid (by rw [HC1.out, HT2.out, List.append_assoc])
                  have HSZ2 := Lib.hid HL3.out.size
                  obtain ⟨i0, hi0, hz0, hz1, hz2⟩ := info_parts api_info
                  have HSt3 : Hid (65536 < (L2 ++ [(⟨fr + (j : Int), fr + (j : Int), gl, step⟩ : Ch.Span)]).length → RES = ([], 7)) := Lib.hid (fun h => HSt2.out (j + 1) (by omega) (by rw [← HT3.out]; exact h))
                  by_cases hbig : 65536 < L2.length + 1
                  · have hb1 : (65536 : Int) < (L2.length : Int) + 1 := by omega
                    have HRs := Lib.hid (HSt3.out (by rw [List.length_append]; simpa using hbig))
                    clear HT3 HSt3 HC1 HT2
                    go_wp2_with (at_builtin; refine wpList_append_own_at _ rfl _ _ 22 rfl w.heap.size 63 i0 (.agg #[.int .i64 0, .int .i64 0, .int .i64 0, .int .i64 0]) 4 32 Tryz.underlying22 hi0 hz0 hz1 hz2 rfl (by decide) _ _ _ rfl (World.ownsRow.alloc HO2.out _) ⟨wr.heap.size, 0, none⟩ 1 1 (encS ⟨fr + (j : Int), fr + (j : Int), gl, step⟩) rfl rfl (four_new _ ⟨fr + (j : Int), fr + (j : Int), gl, step⟩ 63) (encS_one _) (by have := HLe2.out; unfold maxLen; omega) (by have := HLe2.out; omega) (by have := HSZ2.out; simp; omega) ?_; intro v' w4 hown' hgrow _ hat; obtain ⟨g', cap', rfl⟩ := ownsRow_succ hown'; have HL4 := Lib.hid (app_lo HL3.out HO2.out hgrow))
                    go_ret2
                    rw [HRs.out]
                    exact GotSp.nil rfl HL4.out
                  · have hb1 : ¬ (65536 : Int) < (L2.length : Int) + 1 := by omega
                    clear HSt3 HC1 HT2
                    go_wp2_with (at_builtin; refine wpList_append_own_at _ rfl _ _ 22 rfl w.heap.size 63 i0 (.agg #[.int .i64 0, .int .i64 0, .int .i64 0, .int .i64 0]) 4 32 Tryz.underlying22 hi0 hz0 hz1 hz2 rfl (by decide) _ _ _ rfl (World.ownsRow.alloc HO2.out _) ⟨wr.heap.size, 0, none⟩ 1 1 (encS ⟨fr + (j : Int), fr + (j : Int), gl, step⟩) rfl rfl (four_new _ ⟨fr + (j : Int), fr + (j : Int), gl, step⟩ 63) (encS_one _) (by have := HLe2.out; unfold maxLen; omega) (by have := HLe2.out; omega) (by have := HSZ2.out; simp; omega) ?_; intro v' w4 hown' hgrow _ hat; obtain ⟨g', cap', rfl⟩ := ownsRow_succ hown'; have HL4 := Lib.hid (app_lo HL3.out HO2.out hgrow); have HK4 := Lib.hid (app_keep HB3.out HF2.out hgrow hat); have HO4 := Lib.hid hown')
                    go_roundw
                    case rel => exact ⟨j + 1, L2 ++ [⟨fr + (j : Int), fr + (j : Int), gl, step⟩], some ⟨g', 0, none⟩, cap', by omega, by go_num, by simp, HT3, Lib.hid (by rw [List.length_append]; simp; omega), Lib.hid (by unfold OwnK; rw [List.length_append, List.flatMap_append, List.flatMap_singleton]; exact HO4.out), Lib.hid HK4.out.2, Lib.hid HK4.out.1, HL4⟩
                    case measure => simp [intOf]; omega
                · have hz0 : gl = 0 := by omega
                  rw [if_pos hz0, List.append_nil] at HC1
                  have HT3 : Hid (L2 = L ++ C (j + 1)) := Lib.hid (by rw [HC1.out, HT2.out])
                  have HZ := Lib.hid hz0
                  clear hz0 HT2 HC1
                  by_cases hbig : 65536 < L2.length
                  · have hb1 : (65536 : Int) < (L2.length : Int) := by omega
                    have HRs := Lib.hid (HSt2.out (j + 1) (by omega) (by rw [← HT3.out]; exact hbig))
                    clear HT3
                    go_wp2_with fail
                    go_ret2
                    rw [HRs.out]
                    exact GotSp.nil rfl HL3.out
                  · have hb1 : ¬ (65536 : Int) < (L2.length : Int) := by omega
                    go_wp2_with fail
                    go_roundw
                    case rel => exact ⟨j + 1, L2, q2, d2, by omega, by go_num, rfl, HT3, HLe2, HO2, HF2, HB3, HL3⟩
                    case measure => simp [intOf]; omega
              · obtain rfl : j = M := by omega
                have HT3 : Hid (L2 = Gp.parts step (l.take (k + 1))) := Lib.hid (by rw [HT2.out, HPC.out])
                clear HT2 HPC HCs HBd HC0 HSt2
                go_wp2_with fail
                go_roundw
                case rel => exact ⟨k + 1, L2, q2, d2, by omega, by go_num, rfl, HT3, Lib.hid (by have := HLe2.out; omega), HO2, HL3⟩
                case measure => simp [intOf]; omega
          · go_wp2_with fail
            have HO1 := Lib.hid (OwnK.lo HO.out ((Lo.refl wr).alloc (.cells #[.int .i64 fr, .int .i64 tt, .int .i64 gl, .int .i64 1] 63)))
            have HL2 := Lib.hid (HL.out.alloc (.cells #[.int .i64 fr, .int .i64 tt, .int .i64 gl, .int .i64 1] 63))
            have HB2 : Hid ((wr.alloc (.cells #[.int .i64 fr, .int .i64 tt, .int .i64 gl, .int .i64 1] 63)).heap[wr.heap.size]? = some (.cells #[.int .i64 fr, .int .i64 tt, .int .i64 gl, .int .i64 1] 63)) := Lib.hid (new_block wr _)
            clear r0 r1 r2 r3
            obtain ⟨bx, hbx⟩ : ∃ bx, wr.heap.size = bx := ⟨_, rfl⟩
            have HBX : Hid (w.heap.size ≤ bx) := Lib.hid (by rw [← hbx]; exact HSZ.out)
            rw [hbx] at HFr HB2 ⊢
            clear hbx HSZ
            generalize (wr.alloc (.cells #[.int .i64 fr, .int .i64 tt, .int .i64 gl, .int .i64 1] 63)) = wr0 at *
            go_loopw [6, 9] (fun o ci W2 => ∃ (j : Nat) (L2 : List Ch.Span) (q2 : Option Addr) (d2 : Nat), j ≤ M ∧ ci = .int .i64 (fr + (j : Int)) ∧ o = .slice q2 L2.length d2 ∧ Hid (L2 = L ++ C j) ∧ Hid (L2.length ≤ 65536 + k) ∧ Hid (OwnK encS 63 4 W2 w.heap.size (.slice q2 L2.length d2) L2) ∧ Hid ((Value.slice q2 L2.length d2).ownBlock ≠ some bx) ∧ Hid (W2.heap[bx]? = some (.cells #[.int .i64 fr, .int .i64 tt, .int .i64 gl, .int .i64 1] 63)) ∧ Hid (Lo w W2))
              (fun _ ci _ => (tt + 1 - intOf ci).toNat)
            case atStart => exact ⟨0, L, q, d, Nat.zero_le _, by simp, rfl, Lib.hid (by rw [HC0.out, List.append_nil]), HLe, HO1, HFr, HB2, HL2⟩
            case round =>
              obtain ⟨j, L2, q2, d2, hj, rfl, rfl, HT2, HLe2, HO2, HF2, HB3, HL3⟩ := hrel
              have x0 := block_cell (i := 0) HB3.out rfl
              have x1 := block_cell (i := 1) HB3.out rfl
              have x2 := block_cell (i := 2) HB3.out rfl
              have x3 := block_cell (i := 3) HB3.out rfl
              by_cases hjlt : j < M
              · have hgb := HBd.out j hjlt
                obtain ⟨g, hg⟩ : ∃ g, gl + (fr + (j : Int) - fr) = g := ⟨_, rfl⟩
                have hGk : g = gl + 1 * (j : Int) := by omega
                rw [← hGk] at hgb
                obtain ⟨g0, g1⟩ := hgb
                have hjt : fr + (j : Int) ≤ tt := by omega
                have HC1 := Lib.hid (HCs.out j (g) hjt hGk)
                clear hGk
                by_cases hz : 0 < g
                · have hz0 : ¬ g = 0 := by omega
                  rw [if_neg hz0] at HC1
                  clear hz0
                  have HT3 : Hid (L2 ++ [⟨fr + (j : Int), fr + (j : Int), g, step⟩] = L ++ C (j + 1)) := Lib.hid (by rw [HC1.out, HT2.out, List.append_assoc])
                  have HSZ2 := Lib.hid HL3.out.size
                  obtain ⟨i0, hi0, hz0, hz1, hz2⟩ := info_parts api_info
                  have HSt3 : Hid (65536 < (L2 ++ [(⟨fr + (j : Int), fr + (j : Int), g, step⟩ : Ch.Span)]).length → RES = ([], 7)) := Lib.hid (fun h => HSt2.out (j + 1) (by omega) (by rw [← HT3.out]; exact h))
                  by_cases hbig : 65536 < L2.length + 1
                  · have hb1 : (65536 : Int) < (L2.length : Int) + 1 := by omega
                    have HRs := Lib.hid (HSt3.out (by rw [List.length_append]; simpa using hbig))
                    clear HT3 HSt3 HC1 HT2
                    go_wp2_with (at_builtin; refine wpList_append_own_at _ rfl _ _ 22 rfl w.heap.size 63 i0 (.agg #[.int .i64 0, .int .i64 0, .int .i64 0, .int .i64 0]) 4 32 Tryz.underlying22 hi0 hz0 hz1 hz2 rfl (by decide) _ _ _ rfl (World.ownsRow.alloc HO2.out _) ⟨wr.heap.size, 0, none⟩ 1 1 (encS ⟨fr + (j : Int), fr + (j : Int), g, step⟩) rfl rfl (four_new _ ⟨fr + (j : Int), fr + (j : Int), g, step⟩ 63) (encS_one _) (by have := HLe2.out; unfold maxLen; omega) (by have := HLe2.out; omega) (by have := HSZ2.out; simp; omega) ?_; intro v' w4 hown' hgrow _ hat; obtain ⟨g', cap', rfl⟩ := ownsRow_succ hown'; have HL4 := Lib.hid (app_lo HL3.out HO2.out hgrow))
                    go_ret2
                    rw [HRs.out]
                    exact GotSp.nil rfl HL4.out
                  · have hb1 : ¬ (65536 : Int) < (L2.length : Int) + 1 := by omega
                    clear HSt3 HC1 HT2
                    go_wp2_with (at_builtin; refine wpList_append_own_at _ rfl _ _ 22 rfl w.heap.size 63 i0 (.agg #[.int .i64 0, .int .i64 0, .int .i64 0, .int .i64 0]) 4 32 Tryz.underlying22 hi0 hz0 hz1 hz2 rfl (by decide) _ _ _ rfl (World.ownsRow.alloc HO2.out _) ⟨wr.heap.size, 0, none⟩ 1 1 (encS ⟨fr + (j : Int), fr + (j : Int), g, step⟩) rfl rfl (four_new _ ⟨fr + (j : Int), fr + (j : Int), g, step⟩ 63) (encS_one _) (by have := HLe2.out; unfold maxLen; omega) (by have := HLe2.out; omega) (by have := HSZ2.out; simp; omega) ?_; intro v' w4 hown' hgrow _ hat; obtain ⟨g', cap', rfl⟩ := ownsRow_succ hown'; have HL4 := Lib.hid (app_lo HL3.out HO2.out hgrow); have HK4 := Lib.hid (app_keep HB3.out HF2.out hgrow hat); have HO4 := Lib.hid hown')
                    go_roundw
                    case rel => exact ⟨j + 1, L2 ++ [⟨fr + (j : Int), fr + (j : Int), g, step⟩], some ⟨g', 0, none⟩, cap', by omega, by go_num, by simp, HT3, Lib.hid (by rw [List.length_append]; simp; omega), Lib.hid (by unfold OwnK; rw [List.length_append, List.flatMap_append, List.flatMap_singleton]; exact HO4.out), Lib.hid HK4.out.2, Lib.hid HK4.out.1, HL4⟩
                    case measure => simp [intOf]; omega
                · have hz0 : g = 0 := by omega
                  rw [if_pos hz0, List.append_nil] at HC1
                  have HT3 : Hid (L2 = L ++ C (j + 1)) := Lib.hid (by rw [HC1.out, HT2.out])
                  have HZ := Lib.hid hz0
                  clear hz0 HT2 HC1
                  by_cases hbig : 65536 < L2.length
                  · have hb1 : (65536 : Int) < (L2.length : Int) := by omega
                    have HRs := Lib.hid (HSt2.out (j + 1) (by omega) (by rw [← HT3.out]; exact hbig))
                    clear HT3
                    go_wp2_with fail
                    go_ret2
                    rw [HRs.out]
                    exact GotSp.nil rfl HL3.out
                  · have hb1 : ¬ (65536 : Int) < (L2.length : Int) := by omega
                    go_wp2_with fail
                    go_roundw
                    case rel => exact ⟨j + 1, L2, q2, d2, by omega, by go_num, rfl, HT3, HLe2, HO2, HF2, HB3, HL3⟩
                    case measure => simp [intOf]; omega
              · obtain rfl : j = M := by omega
                have HT3 : Hid (L2 = Gp.parts step (l.take (k + 1))) := Lib.hid (by rw [HT2.out, HPC.out])
                clear HT2 HPC HCs HBd HC0 HSt2
                go_wp2_with fail
                go_roundw
                case rel => exact ⟨k + 1, L2, q2, d2, by omega, by go_num, rfl, HT3, Lib.hid (by have := HLe2.out; omega), HO2, HL3⟩
                case measure => simp [intOf]; omega
    · obtain rfl : k = n := by omega
      have HE : Hid (L = Gp.parts step l) := Lib.hid (by rw [HT.out, HPn.out])
      rw [← HE.out] at HSd HSl
      by_cases hbig : 65536 < L.length
      · have hb1 : (65536 : Int) < (L.length : Int) := by omega
        have HRs := Lib.hid (HSl.out hbig)
        go_wp2_with fail
        go_ret2
        rw [HRs.out]
        exact GotSp.nil rfl HL.out
      · have hb1 : ¬ (65536 : Int) < (L.length : Int) := by omega
        have HRs := Lib.hid (HSd.out (by omega))
        have HS := Lib.hid (OwnK.row encS_len HO.out)
        go_wp2_with fail
        go_ret2
        rw [HRs.out]
        exact ⟨q, d, rfl, HS.out, HL.out⟩

/-- The document's Split. -/
theorem rsplit_any (l : List Ch.Span) (v : Value) (step : Int) (w : World) (h : SRow w v l) : Calls Tryz.prog 113 #[v, .int .i64 step] w fun e w' => GotSp (Gp.split l step) w e w' := by
  by_cases hc : Ch.isL l = false ∨ step < 0 ∨ 1 < step
  · rw [Gp.split_arg hc]; exact rsplit_arg l v step w h hc
  · have hl : Ch.isL l = true := by
      cases e : Ch.isL l with
      | true => rfl
      | false => exact absurd (.inl e) hc
    exact rsplit_ok l v step w h hl (by omega)
end Go.Proofs.YtppihpjcdieeoaaGreatDoor
/-
  The contract of the document's answer for layer 3, Bytes. No conditions beyond those stated.
-/
namespace Bn
theorem bytes_eq (v : Int) (n : Nat) : bytes v n = tail n (if v < 0 then v + ((256 ^ n : Nat) : Int) else v).toNat := rfl
end Bn
namespace Go.Proofs.YtppihpjcdieeoaaGreatDoor
open Go.RowKit

set_option maxHeartbeats 800000 in
/-- The loop of Bytes, from a number that is not below 0 on. -/
theorem rbytes_pos (u n : Nat) (w : World) (hn : n ≤ 4) (hu : u < 4294967296) :
    Calls Tryz.prog 22 #[.int .i64 u, .int .i64 n] w fun e w' => e = .returned (.string ⟨(Bn.tail n u).toArray⟩) ∧ Lo w w' := by
  have h0 : ¬ (u : Int) < 0 := by omega
  go_enter Tryz.func22, Tryz.ntmps22
  go_wp2_with fail
  go_loopw [0, 5, 6] (fun a o i W => ∃ (k m : Nat) (l : List UInt8), k ≤ n ∧ i = .int .i64 k ∧ a = .int .i64 m ∧ o = .string ⟨l.toArray⟩ ∧ Hid (m = u / 256 ^ k) ∧ Hid (l = Bn.tail k u) ∧ Lo w W) (fun _ _ i _ => n - (intOf i).toNat)
  case atStart => exact ⟨0, u, [], Nat.zero_le _, rfl, rfl, rfl, Lib.hid (by simp), Lib.hid rfl, Lo.refl _⟩
  case round =>
    obtain ⟨k, m, l, hk, rfl, rfl, rfl, Hmo, Hl, hlo⟩ := hrel
    have hmb : m < 4294967296 := by rw [Hmo.out]; exact Nat.lt_of_le_of_lt (Nat.div_le_self _ _) hu
    have hll : l.length ≤ 4 := by rw [Hl.out, Bn.tail_len]; omega
    by_cases hlt : k < n
    · have hone : ∀ W : World, (convert 70 9 (.slice (some ⟨W.heap.size, 0, none⟩) 1 1)).run Tryz.prog (W.alloc (.cells #[.int .u8 ((m : Int) % 256)] 5)) = .ok (.string ⟨[UInt8.ofNat ((m : Int) % 256).toNat].toArray⟩) (W.alloc (.cells #[.int .u8 ((m : Int) % 256)] 5)) := fun W => one_byte W _ (by omega) (by omega)
      go_wp2_with fail
      exact ⟨⟨k + 1, m / 256, UInt8.ofNat (m % 256) :: l, by omega, by go_num, by go_num, congrArg Value.string (Gk.cat_list [UInt8.ofNat (m % 256)] l), Lib.hid (by rw [Hmo.out, Nat.pow_succ, Nat.div_div_eq_div_mul]), Lib.hid (by rw [Bn.tail_cons, Bn.dig, Hmo.out, Hl.out]), hlo.alloc _⟩, by simp [intOf]; omega⟩
    · obtain rfl : k = n := by omega
      go_wp2_with fail
      go_ret
      exact ⟨congrArg (fun l : List UInt8 => Ending.returned (Value.string ⟨l.toArray⟩)) Hl.out, hlo⟩

set_option maxHeartbeats 800000 in
theorem rbytes_neg (x : Int) (u n : Nat) (w : World) (hn : n ≤ 4) (hu : u < 4294967296) (h0 : x < 0) (hx : x + ((256 ^ n : Nat) : Int) = u) (_hP1 : 256 ^ n ≤ 4294967296) :
    Calls Tryz.prog 22 #[.int .i64 x, .int .i64 n] w fun e w' => e = .returned (.string ⟨(Bn.tail n u).toArray⟩) ∧ Lo w w' := by
  have HP := Lib.hid (fun W => rpower_any n W hn)
  generalize 256 ^ n = P at *
  go_enter Tryz.func22, Tryz.ntmps22
  go_wp2_with fail
  refine (HP.out _).mono ?_
  rintro e w1 ⟨rfl, rfl⟩
  go_wp2_with fail
  go_loopw [0, 5, 6] (fun a o i W => ∃ (k m : Nat) (l : List UInt8), k ≤ n ∧ i = .int .i64 k ∧ a = .int .i64 m ∧ o = .string ⟨l.toArray⟩ ∧ Hid (m = u / 256 ^ k) ∧ Hid (l = Bn.tail k u) ∧ Lo w W) (fun _ _ i _ => n - (intOf i).toNat)
  case atStart => exact ⟨0, u, [], Nat.zero_le _, rfl, congrArg (Value.int .i64) (by omega), rfl, Lib.hid (by simp), Lib.hid rfl, Lo.refl _⟩
  case round =>
    obtain ⟨k, m, l, hk, rfl, rfl, rfl, Hmo, Hl, hlo⟩ := hrel
    have hmb : m < 4294967296 := by rw [Hmo.out]; exact Nat.lt_of_le_of_lt (Nat.div_le_self _ _) hu
    have hll : l.length ≤ 4 := by rw [Hl.out, Bn.tail_len]; omega
    by_cases hlt : k < n
    · have hone : ∀ W : World, (convert 70 9 (.slice (some ⟨W.heap.size, 0, none⟩) 1 1)).run Tryz.prog (W.alloc (.cells #[.int .u8 ((m : Int) % 256)] 5)) = .ok (.string ⟨[UInt8.ofNat ((m : Int) % 256).toNat].toArray⟩) (W.alloc (.cells #[.int .u8 ((m : Int) % 256)] 5)) := fun W => one_byte W _ (by omega) (by omega)
      go_wp2_with fail
      exact ⟨⟨k + 1, m / 256, UInt8.ofNat (m % 256) :: l, by omega, by go_num, by go_num, congrArg Value.string (Gk.cat_list [UInt8.ofNat (m % 256)] l), Lib.hid (by rw [Hmo.out, Nat.pow_succ, Nat.div_div_eq_div_mul]), Lib.hid (by rw [Bn.tail_cons, Bn.dig, Hmo.out, Hl.out]), hlo.alloc _⟩, by simp [intOf]; omega⟩
    · obtain rfl : k = n := by omega
      go_wp2_with fail
      go_ret
      exact ⟨congrArg (fun l : List UInt8 => Ending.returned (Value.string ⟨l.toArray⟩)) Hl.out, hlo⟩

theorem rbytes_any (x z : Int) (w : World) (hz : Bn.isSize z = true) (hf : Bn.fits x z = true) :
    Calls Tryz.prog 22 #[.int .i64 x, .int .i64 z.natAbs] w fun e w' => e = .returned (.string ⟨(Bn.bytes x z.natAbs).toArray⟩) ∧ Lo w w' := by
  have h4 := (Bn.isSize_wide hz).2
  have hP1 : 256 ^ z.natAbs ≤ 4294967296 := Nat.le_trans (Nat.pow_le_pow_right (by omega) h4) (by decide)
  have hge := Bn.fits_ge hf
  have hlt : x < ((256 ^ z.natAbs : Nat) : Int) := by
    unfold Bn.fits at hf
    generalize 256 ^ z.natAbs = P at *
    by_cases h : z < 0
    · rw [if_pos h] at hf; simp only [Bool.and_eq_true, decide_eq_true_eq] at hf; omega
    · rw [if_neg h] at hf; simp only [Bool.and_eq_true, decide_eq_true_eq] at hf; omega
  rw [Bn.bytes_eq]
  by_cases h0 : x < 0
  · rw [if_pos h0]
    exact rbytes_neg x _ z.natAbs w h4 (by omega) h0 (by omega) hP1
  · rw [if_neg h0]
    obtain ⟨u, rfl⟩ := Int.eq_ofNat_of_zero_le (show 0 ≤ x by omega)
    rw [Int.toNat_natCast]
    exact rbytes_pos u z.natAbs w h4 (by omega)
end Go.Proofs.YtppihpjcdieeoaaGreatDoor

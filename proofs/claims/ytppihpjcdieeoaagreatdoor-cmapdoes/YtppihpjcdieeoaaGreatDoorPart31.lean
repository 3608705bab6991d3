/-
  Facts that the walks rest on: CmRefGet, CmLawDoes, CmLaid. No conditions beyond those stated.
-/
import Derived.Test.YtppihpjcdieeoaaGreatDoorPart26
import Derived.Test.YtppihpjcdieeoaaGreatDoorPart30
import Derived.Deep.RegionHeld3
import Derived.Test.YtppihpjcdieeoaaGreatDoorPart24
import Derived.Test.YtppihpjcdieeoaaGreatDoorRows
import Derived.Test.YtppihpjcdieeoaaGreatDoorPart11
import Derived.Lib.LaidTab
import Derived.LaidMore
import Derived.ChangeSame
/-
  The contract of the document's Get (layer 11). Condition: at most 100000 bytes.
-/
namespace Go.Proofs.YtppihpjcdieeoaaGreatDoor
open Go.RowKit Go.Shelf

theorem got_four (s : List UInt8) (p : Nat) (W : World) : Calls Tryz.prog 31 #[.string ⟨((s.drop p).take 4).toArray⟩, .int .i64 4] W fun e w' => e = .returned (.int .i64 (He.fld s p 4)) ∧ W = w' := rone_any _ 4 W (by rw [List.length_take]; omega)

set_option maxRecDepth 100000 in
set_option maxHeartbeats 3200000 in
theorem rcmget_more (s : List UInt8) (w : World) (h : s.length < 4) : Calls Tryz.prog 9 #[.string ⟨s.toArray⟩] w (GotSp (Cm.get s) w) := by
  rw [Cm.get_more h]
  have hz : (s.length : Int) < 4 := by omega
  clear h
  go_enter Tryz.func9, Tryz.ntmps9
  go_wp2_with fail
  go_ret2
  exact GotSp.nil rfl (Lo.refl _)

set_option maxRecDepth 100000 in
set_option maxHeartbeats 3200000 in
theorem rcmget_form (s : List UInt8) (w : World) (h : 4 ≤ s.length) (h0 : He.fld s 0 2 ≠ 0) : Calls Tryz.prog 9 #[.string ⟨s.toArray⟩] w (GotSp (Cm.get s) w) := by
  rw [Cm.get_form h h0]
  have hz : ¬ (s.length : Int) < 4 := by omega
  have hz2 : (2 : Int) ≤ (s.length : Int) := by omega
  have hz4 : (4 : Int) ≤ (s.length : Int) := by omega
  have HO := Lib.hid (fun W => got_head s W)
  have hx := head_cut s
  generalize s.take 2 = t2 at *
  generalize He.fld s 0 2 = z at *
  have hne : (z != 0) = true := by simpa using h0
  clear h h0 hz4
  go_enter Tryz.func9, Tryz.ntmps9
  go_wp2_with fail
  refine (HO.out _).mono ?_
  rintro e wq ⟨rfl, rfl⟩
  clear HO
  go_wp2_with fail
  go_ret2
  exact GotSp.nil rfl (Lo.refl _)

set_option maxRecDepth 100000 in
set_option maxHeartbeats 3200000 in
theorem rcmget_long (s : List UInt8) (w : World) (h : 4 ≤ s.length) (h0 : He.fld s 0 2 = 0) (h2 : 64 < He.fld s 2 2) : Calls Tryz.prog 9 #[.string ⟨s.toArray⟩] w (GotSp (Cm.get s) w) := by
  rw [Cm.get_long h h0 h2]
  have hz : ¬ (s.length : Int) < 4 := by omega
  have hz2 : (2 : Int) ≤ (s.length : Int) := by omega
  have hz4 : (4 : Int) ≤ (s.length : Int) := by omega
  have HO := Lib.hid (fun W => got_head s W)
  have hx := head_cut s
  have HO2 := Lib.hid (fun W => got_one s 2 W (by omega))
  have hx2 : (⟨s.toArray⟩ : ByteArray).extract 2 4 = ⟨((s.drop 2).take 2).toArray⟩ := Gk.extract_list s 2 4
  rw [h0] at HO
  generalize s.take 2 = t2 at *
  generalize (s.drop 2).take 2 = t3 at *
  generalize He.fld s 2 2 = z at *
  clear h h0
  go_enter Tryz.func9, Tryz.ntmps9
  go_wp2_with fail
  refine (HO.out _).mono ?_
  rintro e wq ⟨rfl, rfl⟩
  clear HO
  go_wp2_with fail
  refine (HO2.out _).mono ?_
  rintro e wq ⟨rfl, rfl⟩
  clear HO2
  go_wp2_with fail
  go_ret2
  exact GotSp.nil rfl (Lo.refl _)

set_option maxRecDepth 100000 in
set_option maxHeartbeats 3200000 in
theorem rcmget_short (s : List UInt8) (w : World) (h : 4 ≤ s.length) (h0 : He.fld s 0 2 = 0) (h2 : He.fld s 2 2 ≤ 64) (h3 : (s.length : Int) < 4 + 8 * He.fld s 2 2) : Calls Tryz.prog 9 #[.string ⟨s.toArray⟩] w (GotSp (Cm.get s) w) := by
  rw [Cm.get_short h h0 h2 h3]
  have hz : ¬ (s.length : Int) < 4 := by omega
  have hz2 : (2 : Int) ≤ (s.length : Int) := by omega
  have hz4 : (4 : Int) ≤ (s.length : Int) := by omega
  have HO := Lib.hid (fun W => got_head s W)
  have hx := head_cut s
  have HO2 := Lib.hid (fun W => got_one s 2 W (by omega))
  have hx2 : (⟨s.toArray⟩ : ByteArray).extract 2 4 = ⟨((s.drop 2).take 2).toArray⟩ := Gk.extract_list s 2 4
  rw [h0] at HO
  generalize s.take 2 = t2 at *
  generalize (s.drop 2).take 2 = t3 at *
  obtain ⟨N, hN⟩ : ∃ N : Nat, He.fld s 2 2 = (N : Int) := ⟨(He.fld s 2 2).toNat, by have := Gp.word_le s 2; omega⟩
  rw [hN] at h2 h3 HO2
  obtain ⟨M, hM⟩ : ∃ M : Nat, M = 8 * N := ⟨_, rfl⟩
  obtain ⟨Q, hQ⟩ : ∃ Q : Nat, Q = 4 + M := ⟨_, rfl⟩
  have n1 : (8 : Int) * (N : Int) = (M : Int) := by omega
  have n2 : IntKind.i64.wrap (M : Int) = (M : Int) := IntWalk.i64_in _ (by omega)
  have n3 : (4 : Int) + (M : Int) = (Q : Int) := by omega
  have n4 : IntKind.i64.wrap (Q : Int) = (Q : Int) := IntWalk.i64_in _ (by omega)
  have n5 : ¬ (64 : Int) < (N : Int) := by omega
  have n6 : (s.length : Int) < (Q : Int) := by omega
  clear h h0 h2 h3 hN hM hQ
  go_enter Tryz.func9, Tryz.ntmps9
  go_wp2_with fail
  refine (HO.out _).mono ?_
  rintro e wq ⟨rfl, rfl⟩
  clear HO
  go_wp2_with fail
  refine (HO2.out _).mono ?_
  rintro e wq ⟨rfl, rfl⟩
  clear HO2
  go_wp2_with fail
  go_ret2
  exact GotSp.nil rfl (Lo.refl _)

set_option maxRecDepth 100000 in
set_option maxHeartbeats 3200000 in
theorem rcmget_walk (s : List UInt8) (w : World) (hs : s.length ≤ 100000) (h : 4 ≤ s.length) (h0 : He.fld s 0 2 = 0) (h2 : He.fld s 2 2 ≤ 64) (h3 : 4 + 8 * He.fld s 2 2 ≤ (s.length : Int)) : Calls Tryz.prog 9 #[.string ⟨s.toArray⟩] w (GotSp (Cm.get s) w) := by
  have HG0 := Lib.hid (fun h4 => Cm.get_none h h0 h2 h3 h4)
  have HG1 := Lib.hid (fun h4 => Cm.get_some h h0 h2 h3 h4)
  have HPB := Lib.hid (Cm.pick_bound s)
  have HPS := Lib.hid (Cm.pick_step s)
  have HP0 : Hid (Cm.pick s 0 = (0, 0)) := Lib.hid (Cm.pick_zero s)
  have HS := Lib.hid hs
  have hz : ¬ (s.length : Int) < 4 := by omega
  have hz2 : (2 : Int) ≤ (s.length : Int) := by omega
  have hz4 : (4 : Int) ≤ (s.length : Int) := by omega
  have HO := Lib.hid (fun W => got_head s W)
  have hx := head_cut s
  have HO2 := Lib.hid (fun W => got_one s 2 W (by omega))
  have hx2 : (⟨s.toArray⟩ : ByteArray).extract 2 4 = ⟨((s.drop 2).take 2).toArray⟩ := Gk.extract_list s 2 4
  rw [h0] at HO
  generalize s.take 2 = t2 at *
  generalize (s.drop 2).take 2 = t3 at *
  obtain ⟨N, hN⟩ : ∃ N : Nat, He.fld s 2 2 = (N : Int) := ⟨(He.fld s 2 2).toNat, by have := Gp.word_le s 2; omega⟩
  rw [hN] at h2 h3 HO2 HG0 HG1
  have hNt : ((N : Int)).toNat = N := by omega
  rw [hNt] at HG0 HG1
  clear hNt
  obtain ⟨M, hM⟩ : ∃ M : Nat, M = 8 * N := ⟨_, rfl⟩
  obtain ⟨Q, hQ⟩ : ∃ Q : Nat, Q = 4 + M := ⟨_, rfl⟩
  have n1 : (8 : Int) * (N : Int) = (M : Int) := by omega
  have n2 : IntKind.i64.wrap (M : Int) = (M : Int) := IntWalk.i64_in _ (by omega)
  have n3 : (4 : Int) + (M : Int) = (Q : Int) := by omega
  have n4 : IntKind.i64.wrap (Q : Int) = (Q : Int) := IntWalk.i64_in _ (by omega)
  have n5 : ¬ (64 : Int) < (N : Int) := by omega
  have n6 : ¬ (s.length : Int) < (Q : Int) := by omega
  have n7 : 4 + 8 * N ≤ s.length := by omega
  have n9 : decide (s.length < Q) = false := by simp only [decide_eq_false_iff_not]; omega
  have n8 : N ≤ 64 := by omega
  have HT : Hid (4 + 8 * N ≤ s.length) := Lib.hid n7
  clear h h0 h2 h3 hN hM hQ hs n7
  go_enter Tryz.func9, Tryz.ntmps9
  go_wp2_with fail
  refine (HO.out _).mono ?_
  rintro e wq ⟨rfl, rfl⟩
  clear HO
  go_wp2_with fail
  refine (HO2.out _).mono ?_
  rintro e wq ⟨rfl, rfl⟩
  clear HO2
  go_wp2_with fail
  clear hx hx2 n1 n2 n3 n4 n5 n6 n9 hz hz2 hz4
  go_loopw [5, 6, 7, 8, 9, 10] (fun sb sa si _ _ _ W => ∃ (k : Nat) (b a : Int), k ≤ N ∧ si = .int .i64 (k : Int) ∧ sb = .int .i64 b ∧ sa = .int .i64 a ∧ Hid (b = ((Cm.pick s k).1 : Int)) ∧ Hid (a = (Cm.pick s k).2) ∧ Hid (Lo w W)) (fun _ _ si _ _ _ _ => N - (intOf si).toNat)
  case atStart => exact ⟨0, 0, 0, Nat.zero_le _, rfl, rfl, rfl, Lib.hid (by rw [HP0.out]; rfl), Lib.hid (by rw [HP0.out]), Lib.hid (Lo.refl _)⟩
  case round =>
    obtain ⟨k, b, a, hk, rfl, rfl, rfl, HB, HA, HL⟩ := hrel
    by_cases hlt : k < N
    · have hT := HT.out
      have hS := HS.out
      obtain ⟨y, hy⟩ : ∃ y : Nat, y = 8 * k := ⟨_, rfl⟩
      obtain ⟨x, hx⟩ : ∃ x : Nat, x = 4 + y := ⟨_, rfl⟩
      have hxs : x + 8 ≤ s.length := by omega
      have hy1 : (8 : Int) * (k : Int) = (y : Int) := by omega
      have hx1 : (4 : Int) + (y : Int) = (x : Int) := by omega
      have e1 : (⟨s.toArray⟩ : ByteArray).extract x (x + 2) = ⟨((s.drop x).take 2).toArray⟩ := by rw [Gk.extract_list, Nat.add_sub_cancel_left]
      have e2 : (⟨s.toArray⟩ : ByteArray).extract (x + 2) (x + 4) = ⟨((s.drop (x + 2)).take 2).toArray⟩ := by rw [Gk.extract_list, show x + 4 - (x + 2) = 2 by omega]
      have e3 : (⟨s.toArray⟩ : ByteArray).extract (x + 4) (x + 8) = ⟨((s.drop (x + 4)).take 4).toArray⟩ := by rw [Gk.extract_list, show x + 8 - (x + 4) = 4 by omega]
      have C1 := Lib.hid (fun W => got_one s x W (by omega))
      have C2 := Lib.hid (fun W => got_one s (x + 2) W (by omega))
      have C3 := Lib.hid (fun W => got_four s (x + 4) W)
      have hgd : Cm.good s k = Cm.best (He.fld s x 2) (He.fld s (x + 2) 2) := by unfold Cm.good; rw [hx, hy, show 4 + 8 * k + 2 = 6 + 8 * k by omega]
      have hof : Cm.offAt s k = He.fld s (x + 4) 4 := by unfold Cm.offAt; rw [hx, hy, show 4 + 8 * k + 4 = 8 + 8 * k by omega]
      have CB : Hid (∀ W, Hid (Lo w W) → Calls Tryz.prog 19 #[.int .i64 (He.fld s x 2), .int .i64 (He.fld s (x + 2) 2)] W fun e w' => e = .returned (.int .i64 (Cm.good s k : Int)) ∧ Hid (Lo w w')) := Lib.hid (fun W hW => by rw [hgd]; exact (rbest_any _ _ W).mono fun e w' ⟨q1, q2⟩ => ⟨q1, Lib.hid (hW.out.trans q2)⟩)
      have hob : 0 ≤ He.fld s (x + 4) 4 ∧ He.fld s (x + 4) 4 ≤ 4294967295 := Gl.fld_bd s (x + 4) true
      rw [← hof] at hob C3
      have HC := Lib.hid (HPS.out k)
      have HC2 : Hid (Cm.can s k (Cm.pick s k).1 = (decide (b < (Cm.good s k : Int)) && decide (Cm.offAt s k + 2 ≤ (s.length : Int)) && Cm.fmt (He.fld s (Cm.offAt s k).toNat 2))) := Lib.hid (by unfold Cm.can; rw [HB.out]; congr 2; simp)
      obtain ⟨o, ho⟩ : ∃ o : Nat, Cm.offAt s k = (o : Int) := ⟨(Cm.offAt s k).toNat, by omega⟩
      rw [ho] at C3 hob HC2 HC
      rw [show ((o : Int)).toNat = o from rfl] at HC2
      have C4 := Lib.hid (fun (ho2 : o + 2 ≤ s.length) W => got_one s o W ho2)
      have e4 : (⟨s.toArray⟩ : ByteArray).extract o (o + 2) = ⟨((s.drop o).take 2).toArray⟩ := by rw [Gk.extract_list, Nat.add_sub_cancel_left]
      have CF := Lib.hid (fun W => rfmt_any (He.fld s o 2) W)
      generalize hgg : ((Cm.good s k : Nat) : Int) = g at *
      have HGG := Lib.hid hgg
      clear hgg
      generalize Cm.fmt (He.fld s o 2) = fm at *
      generalize He.fld s o 2 = f4 at *
      generalize He.fld s x 2 = f1 at *
      generalize He.fld s (x + 2) 2 = f2 at *
      generalize (s.drop x).take 2 = t1 at *
      generalize (s.drop (x + 2)).take 2 = t4 at *
      generalize (s.drop (x + 4)).take 4 = t5 at *
      generalize (s.drop o).take 2 = t6 at *
      have a0 : (0 : Int) ≤ (x : Int) := by omega
      have a1 : IntKind.i64.wrap (y : Int) = (y : Int) := IntWalk.i64_in _ (by omega)
      have a2 : IntKind.i64.wrap (x : Int) = (x : Int) := IntWalk.i64_in _ (by omega)
      have a3 : IntKind.i64.wrap ((x : Int) + 2) = (x : Int) + 2 := IntWalk.i64_in _ (by omega)
      have a4 : IntKind.i64.wrap ((x : Int) + 4) = (x : Int) + 4 := IntWalk.i64_in _ (by omega)
      have a5 : IntKind.i64.wrap ((x : Int) + 8) = (x : Int) + 8 := IntWalk.i64_in _ (by omega)
      have b2 : ((x : Int) + 2).toNat = x + 2 := by omega
      have b4 : ((x : Int) + 4).toNat = x + 4 := by omega
      have b8 : ((x : Int) + 8).toNat = x + 8 := by omega
      have d1 : (0 : Int) ≤ (x : Int) + 2 := by omega
      have d2 : (0 : Int) ≤ (x : Int) + 4 := by omega
      have d3 : (0 : Int) ≤ (x : Int) + 8 := by omega
      have d4 : (x : Int) ≤ (x : Int) + 2 := by omega
      have d5 : (x : Int) + 2 ≤ (x : Int) + 4 := by omega
      have d6 : (x : Int) + 4 ≤ (x : Int) + 8 := by omega
      have d7 : (x : Int) + 2 ≤ (s.length : Int) := by omega
      have d8 : (x : Int) + 4 ≤ (s.length : Int) := by omega
      have d9 : (x : Int) + 8 ≤ (s.length : Int) := by omega
      clear hx hy hgd hof ho hT hS
      go_wp2_with fail
      go_region_held3 (fun W => Hid (Lo w W)) (first | assumption | exact Lib.hid HL.out.drew)
        (first
          | (go_at_call_of 31 t1; refine (C1.out _).mono ?_; rintro e wq ⟨rfl, rfl⟩)
          | (go_at_call_of 31 t4; refine (C2.out _).mono ?_; rintro e wq ⟨rfl, rfl⟩)
          | (go_at_call 19; refine (CB.out _ (by assumption)).mono ?_; rintro e wB ⟨rfl, hSB⟩))
      all_goals
        have HL := hSB
        clear hSB C1 C2 CB e1 e2
        go_wp2_with fail
        refine (C3.out _).mono ?_
        rintro e wq ⟨rfl, rfl⟩
        clear C3 e3 a0 a1 a2 a3 a4 a5 b2 b4 b8 d1 d2 d3 d4 d5 d6 d7 d8 d9 hy1 hx1
        have a6 : IntKind.i64.wrap ((o : Int) + 2) = (o : Int) + 2 := IntWalk.i64_in _ (by omega)
        have b6 : ((o : Int) + 2).toNat = o + 2 := by omega
        have d1 : (0 : Int) ≤ (o : Int) + 2 := by omega
        have d2 : (o : Int) ≤ (o : Int) + 2 := by omega
        by_cases q1 : b < g
        · by_cases q2 : (o : Int) + 2 ≤ (s.length : Int)
          · have C5 := Lib.hid (C4.out (by omega))
            have HC3 : Hid (Cm.pick s (k + 1) = if fm = true then (Cm.good s k, (o : Int)) else Cm.pick s k) := Lib.hid (by rw [HC.out, HC2.out, decide_eq_true q1, decide_eq_true q2, Bool.true_and, Bool.true_and])
            clear C4 HC HC2
            cases fm with
            | true =>
              have HC4 := Lib.hid (HC3.out.trans (if_pos rfl))
              clear HC3
              go_wp2_with fail
              refine (C5.out _).mono ?_
              rintro e wq ⟨rfl, rfl⟩
              go_wp2_with fail
              refine (CF.out _).mono ?_
              rintro e wq ⟨rfl, rfl⟩
              clear CF C5 e4
              go_wp2_with fail
              go_roundw
              case rel => first | exact ⟨_, _, _, ⟨k + 1, by omega, by go_num, _, rfl, _, rfl, Lib.hid (by rw [HC4.out]; exact HGG.out.symm), Lib.hid (by rw [HC4.out])⟩, rfl, rfl, rfl⟩ | exact ⟨_, _, _, ⟨k + 1, by omega, by go_num, _, rfl, _, rfl, Lib.hid (by rw [HC4.out]; exact HGG.out.symm), Lib.hid (by rw [HC4.out]), HL⟩, rfl, rfl, rfl⟩ | exact ⟨k + 1, _, _, by omega, by go_num, rfl, rfl, Lib.hid (by rw [HC4.out]; exact HGG.out.symm), Lib.hid (by rw [HC4.out]), HL⟩ | ((repeat (refine Exists.intro _ ?_)); refine ⟨?rl, ?eqs⟩; (case eqs => repeat' (first | rfl | (refine ⟨rfl, ?_⟩))); (case rl => exact ⟨k + 1, _, _, by omega, by go_num, rfl, rfl, Lib.hid (by rw [HC4.out]; exact HGG.out.symm), Lib.hid (by rw [HC4.out]), HL⟩))
              case measure => simp [intOf]; omega
            | false =>
              have HC4 := Lib.hid (HC3.out.trans (if_neg (by simp)))
              clear HC3
              go_wp2_with fail
              refine (C5.out _).mono ?_
              rintro e wq ⟨rfl, rfl⟩
              go_wp2_with fail
              refine (CF.out _).mono ?_
              rintro e wq ⟨rfl, rfl⟩
              clear CF C5 e4
              go_wp2_with fail
              go_roundw
              case rel => first | exact ⟨_, _, _, ⟨k + 1, by omega, by go_num, _, rfl, _, rfl, Lib.hid (by rw [HC4.out]; exact HB.out), Lib.hid (by rw [HC4.out]; exact HA.out)⟩, rfl, rfl, rfl⟩ | exact ⟨_, _, _, ⟨k + 1, by omega, by go_num, _, rfl, _, rfl, Lib.hid (by rw [HC4.out]; exact HB.out), Lib.hid (by rw [HC4.out]; exact HA.out), HL⟩, rfl, rfl, rfl⟩ | exact ⟨k + 1, _, _, by omega, by go_num, rfl, rfl, Lib.hid (by rw [HC4.out]; exact HB.out), Lib.hid (by rw [HC4.out]; exact HA.out), HL⟩ | ((repeat (refine Exists.intro _ ?_)); refine ⟨?rl, ?eqs⟩; (case eqs => repeat' (first | rfl | (refine ⟨rfl, ?_⟩))); (case rl => exact ⟨k + 1, _, _, by omega, by go_num, rfl, rfl, Lib.hid (by rw [HC4.out]; exact HB.out), Lib.hid (by rw [HC4.out]; exact HA.out), HL⟩))
              case measure => simp [intOf]; omega
          · have HC4 := Lib.hid (HC.out.trans (if_neg (by rw [HC2.out, decide_eq_true q1, decide_eq_false q2]; simp)))
            clear C4 HC HC2 CF e4
            go_wp2_with fail
            go_roundw
            case rel => first | exact ⟨_, _, _, ⟨k + 1, by omega, by go_num, _, rfl, _, rfl, Lib.hid (by rw [HC4.out]; exact HB.out), Lib.hid (by rw [HC4.out]; exact HA.out)⟩, rfl, rfl, rfl⟩ | exact ⟨_, _, _, ⟨k + 1, by omega, by go_num, _, rfl, _, rfl, Lib.hid (by rw [HC4.out]; exact HB.out), Lib.hid (by rw [HC4.out]; exact HA.out), HL⟩, rfl, rfl, rfl⟩ | exact ⟨k + 1, _, _, by omega, by go_num, rfl, rfl, Lib.hid (by rw [HC4.out]; exact HB.out), Lib.hid (by rw [HC4.out]; exact HA.out), HL⟩ | ((repeat (refine Exists.intro _ ?_)); refine ⟨?rl, ?eqs⟩; (case eqs => repeat' (first | rfl | (refine ⟨rfl, ?_⟩))); (case rl => exact ⟨k + 1, _, _, by omega, by go_num, rfl, rfl, Lib.hid (by rw [HC4.out]; exact HB.out), Lib.hid (by rw [HC4.out]; exact HA.out), HL⟩))
            case measure => simp [intOf]; omega
        · have HC4 := Lib.hid (HC.out.trans (if_neg (by rw [HC2.out, decide_eq_false q1]; simp)))
          clear C4 HC HC2 CF e4
          go_wp2_with fail
          go_roundw
          case rel => first | exact ⟨_, _, _, ⟨k + 1, by omega, by go_num, _, rfl, _, rfl, Lib.hid (by rw [HC4.out]; exact HB.out), Lib.hid (by rw [HC4.out]; exact HA.out)⟩, rfl, rfl, rfl⟩ | exact ⟨_, _, _, ⟨k + 1, by omega, by go_num, _, rfl, _, rfl, Lib.hid (by rw [HC4.out]; exact HB.out), Lib.hid (by rw [HC4.out]; exact HA.out), HL⟩, rfl, rfl, rfl⟩ | exact ⟨k + 1, _, _, by omega, by go_num, rfl, rfl, Lib.hid (by rw [HC4.out]; exact HB.out), Lib.hid (by rw [HC4.out]; exact HA.out), HL⟩ | ((repeat (refine Exists.intro _ ?_)); refine ⟨?rl, ?eqs⟩; (case eqs => repeat' (first | rfl | (refine ⟨rfl, ?_⟩))); (case rl => exact ⟨k + 1, _, _, by omega, by go_num, rfl, rfl, Lib.hid (by rw [HC4.out]; exact HB.out), Lib.hid (by rw [HC4.out]; exact HA.out), HL⟩))
          case measure => simp [intOf]; omega
    · obtain rfl : k = N := by omega
      obtain ⟨pb1, pb2, pb3⟩ := HPB.out k
      have hS := HS.out
      by_cases hb0 : (Cm.pick s k).1 = 0
      · have hg := HG0.out hb0
        have HGF := Lib.hid hg
        have HB2 := HB.out
        rw [hb0] at HB2
        obtain rfl : b = 0 := HB2
        clear HG0 HG1 hg pb1 pb2 pb3 hb0 HPS HP0 hS HPB
        go_wp2_with fail
        go_ret2
        rw [HGF.out]
        exact GotSp.nil rfl HL.out
      · have hg := HG1.out hb0
        have hne : (b == 0) = false := by have := HB.out; rw [this]; simpa using hb0
        obtain ⟨o, ho⟩ : ∃ o : Nat, (Cm.pick s k).2 = (o : Int) := ⟨(Cm.pick s k).2.toNat, by omega⟩
        have hol := pb3 hb0
        rw [ho] at hol HA
        rw [ho, show ((o : Int)).toNat = o from rfl] at hg
        obtain rfl : a = (o : Int) := HA.out
        have CR := Lib.hid (fun W => rcread_any (s.drop o) W (by rw [List.length_drop]; omega))
        have e5 := Gk.extract_from s o
        unfold GotSp at *
        generalize Cm.read (s.drop o) = an at *
        obtain ⟨an1, an2⟩ := an
        dsimp only at CR
        have HGF := Lib.hid hg
        generalize s.drop o = so at *
        have g1 : (0 : Int) ≤ (o : Int) := by omega
        have g2 : (o : Int) ≤ (s.length : Int) := by omega
        clear HG0 HG1 hg pb1 pb2 pb3 hb0 HPS HP0 hS HPB HA HB ho hol
        go_wp2_with fail
        refine (CR.out _).mono ?_
        rintro e w9 ⟨p9, c9, rfl, hrow, lo⟩
        have HR := Lib.hid hrow
        have HL := Lib.hid (HL.out.trans lo)
        clear hrow lo CR
        go_wp2_with fail
        go_ret2
        rw [HGF.out]
        exact ⟨_, _, rfl, HR.out, HL.out⟩

theorem rcmget_any (s : List UInt8) (w : World) (hs : s.length ≤ 100000) : Calls Tryz.prog 9 #[.string ⟨s.toArray⟩] w (GotSp (Cm.get s) w) := by
  by_cases h : s.length < 4
  · exact rcmget_more s w h
  by_cases h0 : He.fld s 0 2 = 0
  · by_cases h2 : 64 < He.fld s 2 2
    · exact rcmget_long s w (by omega) h0 h2
    · by_cases h3 : (s.length : Int) < 4 + 8 * He.fld s 2 2
      · exact rcmget_short s w (by omega) h0 (by omega) h3
      · exact rcmget_walk s w hs (by omega) h0 (by omega) (by omega)
  · exact rcmget_form s w (by omega) h0
end Go.Proofs.YtppihpjcdieeoaaGreatDoor
/-
  The walk of the law CmapDoes. Condition: the row of ranked ids lies as it was laid.
-/
namespace Go.Proofs.YtppihpjcdieeoaaGreatDoor
open Go.RowKit Go.Shelf

set_option maxRecDepth 100000 in
set_option maxHeartbeats 3200000 in
theorem cmapDoes_far (s : List UInt8) (v : Value) (f c g : Int) (w : World) (h3 : 3000 < s.length) : Calls Tryz.prog 3 #[.string ⟨s.toArray⟩, v, .int .i64 f, .int .i64 c, .int .i64 g] w fun e w' => e = .returned (.bool true) ∧ Lo w w' := by
  have hsz : (ByteArray.mk s.toArray).size = s.length := rfl
  have hz : (3000 : Int) < (s.length : Int) := by omega
  generalize s.length = n at *
  go_enter Tryz.func3, Tryz.ntmps3
  go_wp2_with fail
  go_ret
  exact ⟨rfl, Lo.refl _⟩

set_option maxRecDepth 100000 in
set_option maxHeartbeats 6400000 in
theorem cmapDoes_ok (s : List UInt8) (v : Value) (l : List Ch.Span) (f c g : Int) (w : World) (ht : RTab w) (hr : SRow w v l) (wf : (Lit.int .i64 f).wf = true) (h3 : s.length ≤ 3000) : Calls Tryz.prog 3 #[.string ⟨s.toArray⟩, v, .int .i64 f, .int .i64 c, .int .i64 g] w fun e w' => e = .returned (.bool true) ∧ Lo w w' := by
  obtain ⟨wf1, wf2⟩ := cm_wf wf
  have hsz : (ByteArray.mk s.toArray).size = s.length := rfl
  have hz : ¬ (3000 : Int) < (s.length : Int) := by omega
  have HSh := Lib.hid (short11_any v l w hr)
  have HG := Lib.hid (fun W (hW : Lo w W) => cmget_any s W (by omega) (ht.lo hW))
  have HG2 := Lib.hid (fun W => rcmget_any s W (by omega))
  have HX := Lib.hid (fun W => cread_any s W (by omega))
  have HX2 := Lib.hid (fun W => rcread_any s W (by omega))
  have HP := Lib.hid (fun W h => cmput_any v l f W h wf1 wf2)
  have HP2 := Lib.hid (fun (u : Value) (W : World) h => rcput_any u l f W h)
  have HY := Lib.hid (fun W h => cglyph_any v l c g W h)
  have HY2 := Lib.hid (fun (u : Value) (W : World) h => rcglyph_any u l c g W h)
  have HD := Lib.hid (fun W (hW : Lo w W) => mapped_any W (ht.lo hW))
  have HB1 := Lib.hid (fun W (hW : Lo w W) => best_any f c W (ht.lo hW))
  have HB2 := Lib.hid (fun W => rbest_any f c W)
  have HSm := Lib.hid (fun (v u : Value) (W : World) h h2 => ssame_any (Cm.get s).1 v u W h h2)
  have HSm1 := Lib.hid (fun (v u : Value) (W : World) h h2 => ssame_any (Cm.read s).1 v u W h h2)
  have HSm2 := Lib.hid (fun (v u : Value) (W : World) h h2 => ssame_any l v u W h h2)
  unfold GotShort11 at HSh
  unfold GotSp at HG HG2 HX HX2
  unfold strErr at HP HP2
  generalize Cm.get s = y at *
  obtain ⟨m, e0⟩ := y
  generalize Cm.put l f = y at *
  obtain ⟨s0, e1⟩ := y
  generalize Cm.read s = y at *
  obtain ⟨m2, e2⟩ := y
  generalize Cm.glyph l c g = y at *
  obtain ⟨g0, e3⟩ := y
  generalize ((Cm.best f c : Nat) : Int) = bb at *
  dsimp only at HG HG2 HSm HP HP2 HX HX2 HSm1 HY HY2
  generalize s.length = n at *
  obtain ⟨p, cp, rfl, _⟩ := RowK.form hr
  have HR := Lib.hid hr
  have HL := Lib.hid (Lo.refl w)
  generalize hm : l.length = k at *
  have HM := Lib.hid hm
  clear hr hm wf wf1 wf2 ht
  go_enter Tryz.func3, Tryz.ntmps3
  go_wp2_with fail
  refine HSh.out.mono ?_
  rintro e w2 ⟨bs, rfl, hk60, lo⟩
  have HL := Lib.hid (HL.out.trans lo)
  have HR := Lib.hid (RowK.lo HR.out lo)
  clear lo HSh
  cases bs with
  | false =>
    clear HG HG2 HX HX2 HP HP2 HY HY2 HD HB1 HB2 HSm HSm1 HSm2
    go_wp2_with fail
    go_ret
    exact ⟨rfl, HL.out⟩
  | true =>
  have hf : k ≤ 60 := hk60 rfl
  clear hk60
  go_wp2_with (at_builtin; refine wpList_appK _ rfl (.tmp 36) (.tmp 37) _ rfl 63 4 32 _ Tryz.underlying22 api_info rfl (by omega) (by omega) encS_len encS_one w2.heap.size (.slice none 0 0) [] rfl (OwnK.none _ _ _ _ _) _ l rfl HR.out (by rw [HM.out]; simp; omega) (Nat.le_refl _) ?_; intro q1 cz w3 hown hlo; have HO := Lib.hid (OwnK.row encS_len hown); have lo := hlo w2 (Lo.refl _) (Nat.le_refl _); have HL := Lib.hid (HL.out.trans lo); have HR := Lib.hid (RowK.lo HR.out lo); clear hown hlo lo; rw [List.nil_append, List.length_nil, Nat.zero_add, HM.out] at HO; rw [List.length_nil, Nat.zero_add, HM.out])
  refine (HG.out _ HL.out).mono ?_
  rintro e wX ⟨p4, c4, rfl, hrow, lo⟩
  have HL := Lib.hid (HL.out.trans lo)
  have HR := Lib.hid (RowK.lo HR.out lo)
  have HO := Lib.hid (RowK.lo HO.out lo)
  have HA := Lib.hid hrow
  clear lo HG hrow
  go_wp2_with fail
  refine (HG2.out _).mono ?_
  rintro e wX ⟨p4, c4, rfl, hrow, lo⟩
  have HL := Lib.hid (HL.out.trans lo)
  have HR := Lib.hid (RowK.lo HR.out lo)
  have HO := Lib.hid (RowK.lo HO.out lo)
  have HA := Lib.hid (RowK.lo HA.out lo)
  have HB := Lib.hid hrow
  clear lo HG2 hrow
  go_wp2_with fail
  refine (HX.out _).mono ?_
  rintro e wX ⟨p4, c4, rfl, hrow, lo⟩
  have HL := Lib.hid (HL.out.trans lo)
  have HR := Lib.hid (RowK.lo HR.out lo)
  have HO := Lib.hid (RowK.lo HO.out lo)
  have HA := Lib.hid (RowK.lo HA.out lo)
  have HB := Lib.hid (RowK.lo HB.out lo)
  have HC := Lib.hid hrow
  clear lo HX hrow
  go_wp2_with fail
  refine (HX2.out _).mono ?_
  rintro e wX ⟨p4, c4, rfl, hrow, lo⟩
  have HL := Lib.hid (HL.out.trans lo)
  have HR := Lib.hid (RowK.lo HR.out lo)
  have HO := Lib.hid (RowK.lo HO.out lo)
  have HA := Lib.hid (RowK.lo HA.out lo)
  have HB := Lib.hid (RowK.lo HB.out lo)
  have HC := Lib.hid (RowK.lo HC.out lo)
  have HE := Lib.hid hrow
  clear lo HX2 hrow
  go_wp2_with fail
  refine (HP.out _ HR.out).mono ?_
  rintro e wX ⟨rfl, lo⟩
  have HL := Lib.hid (HL.out.trans lo)
  have HR := Lib.hid (RowK.lo HR.out lo)
  have HO := Lib.hid (RowK.lo HO.out lo)
  have HA := Lib.hid (RowK.lo HA.out lo)
  have HB := Lib.hid (RowK.lo HB.out lo)
  have HC := Lib.hid (RowK.lo HC.out lo)
  have HE := Lib.hid (RowK.lo HE.out lo)
  clear lo HP 
  go_wp2_with fail
  refine (HP2.out _ _ HO.out).mono ?_
  rintro e wX ⟨rfl, lo⟩
  have HL := Lib.hid (HL.out.trans lo)
  have HR := Lib.hid (RowK.lo HR.out lo)
  have HO := Lib.hid (RowK.lo HO.out lo)
  have HA := Lib.hid (RowK.lo HA.out lo)
  have HB := Lib.hid (RowK.lo HB.out lo)
  have HC := Lib.hid (RowK.lo HC.out lo)
  have HE := Lib.hid (RowK.lo HE.out lo)
  clear lo HP2 
  go_wp2_with fail
  refine (HY.out _ HR.out).mono ?_
  rintro e wX ⟨rfl, lo⟩
  have HL := Lib.hid (HL.out.trans lo)
  have HR := Lib.hid (RowK.lo HR.out lo)
  have HO := Lib.hid (RowK.lo HO.out lo)
  have HA := Lib.hid (RowK.lo HA.out lo)
  have HB := Lib.hid (RowK.lo HB.out lo)
  have HC := Lib.hid (RowK.lo HC.out lo)
  have HE := Lib.hid (RowK.lo HE.out lo)
  clear lo HY 
  go_wp2_with fail
  refine (HY2.out _ _ HO.out).mono ?_
  rintro e wX ⟨rfl, lo⟩
  have HL := Lib.hid (HL.out.trans lo)
  have HR := Lib.hid (RowK.lo HR.out lo)
  have HO := Lib.hid (RowK.lo HO.out lo)
  have HA := Lib.hid (RowK.lo HA.out lo)
  have HB := Lib.hid (RowK.lo HB.out lo)
  have HC := Lib.hid (RowK.lo HC.out lo)
  have HE := Lib.hid (RowK.lo HE.out lo)
  clear lo HY2 
  go_wp2_with fail
  refine (HD.out _ HL.out).mono ?_
  rintro e wX ⟨rfl, lo⟩
  have HL := Lib.hid (HL.out.trans lo)
  have HR := Lib.hid (RowK.lo HR.out lo)
  have HO := Lib.hid (RowK.lo HO.out lo)
  have HA := Lib.hid (RowK.lo HA.out lo)
  have HB := Lib.hid (RowK.lo HB.out lo)
  have HC := Lib.hid (RowK.lo HC.out lo)
  have HE := Lib.hid (RowK.lo HE.out lo)
  clear lo HD 
  go_wp2_with fail
  refine (HSm.out _ _ _ HA.out HB.out).mono ?_
  rintro e wX ⟨rfl, lo⟩
  have HL := Lib.hid (HL.out.trans lo)
  have HR := Lib.hid (RowK.lo HR.out lo)
  have HO := Lib.hid (RowK.lo HO.out lo)
  have HC := Lib.hid (RowK.lo HC.out lo)
  have HE := Lib.hid (RowK.lo HE.out lo)
  clear lo HSm HA HB
  go_wp2_with fail
  refine (HSm1.out _ _ _ HC.out HE.out).mono ?_
  rintro e wX ⟨rfl, lo⟩
  have HL := Lib.hid (HL.out.trans lo)
  have HR := Lib.hid (RowK.lo HR.out lo)
  have HO := Lib.hid (RowK.lo HO.out lo)
  clear lo HSm1 HC HE
  go_wp2_with fail
  refine (HB1.out _ HL.out).mono ?_
  rintro e wX ⟨rfl, lo⟩
  have HL := Lib.hid (HL.out.trans lo)
  have HR := Lib.hid (RowK.lo HR.out lo)
  have HO := Lib.hid (RowK.lo HO.out lo)
  clear lo HB1 
  go_wp2_with fail
  refine (HB2.out _).mono ?_
  rintro e wX ⟨rfl, lo⟩
  have HL := Lib.hid (HL.out.trans lo)
  have HR := Lib.hid (RowK.lo HR.out lo)
  have HO := Lib.hid (RowK.lo HO.out lo)
  clear lo HB2 
  go_wp2_with fail
  refine (HSm2.out _ _ _ HR.out HO.out).mono ?_
  rintro e wX ⟨rfl, lo⟩
  have HL := Lib.hid (HL.out.trans lo)
  clear lo HSm2 HR HO
  go_wp2_with fail
  go_ret
  exact ⟨by first | rfl | simp, HL.out⟩

theorem cmapDoes_walk (a : ByteArray) (v : Value) (l : List Ch.Span) (f c g : Int) (w : World) (ht : RTab w) (_w0 : a.size ≤ maxLen) (hr : SRow w v l) (wf : (Lit.int .i64 f).wf = true) (_wc : (Lit.int .i64 c).wf = true) (_wg : (Lit.int .i64 g).wf = true) : Calls Tryz.prog 3 #[.string a, v, .int .i64 f, .int .i64 c, .int .i64 g] w fun e w' => e = .returned (.bool true) ∧ Lo w w' := by
  rcases Nat.lt_or_ge 3000 a.data.toList.length with h3 | h3
  · exact cmapDoes_far a.data.toList v f c g w h3
  · exact cmapDoes_ok a.data.toList v l f c g w ht hr wf h3
end Go.Proofs.YtppihpjcdieeoaaGreatDoor
/-
  A row that lists the program's row of ranked ids as it is laid gives RTab. No other conditions.
-/
namespace Go.Proofs.YtppihpjcdieeoaaGreatDoor
open Go.ChangeShapes Go.WideShapes Go.RowKit

theorem pairs_flat (cs : List Value) (zs : List (Int × Int)) (hl : cs.length = 2 * zs.length) (h : ∀ i z, zs[i]? = some z → (cs.drop (i * 2)).take 2 = [.int .i64 z.1, .int .i64 z.2]) :
    cs = zs.flatMap fun z => [.int .i64 z.1, .int .i64 z.2] := by
  induction zs generalizing cs with
  | nil => simpa using hl
  | cons z zs ih =>
    have h0 := h 0 z (by simp)
    match cs, hl with
    | a :: b :: r, hl =>
      simp at h0
      obtain ⟨rfl, rfl⟩ := h0
      have := ih r (by simp at hl; omega) (fun i y hy => by
        have := h (i + 1) y (by simpa using hy)
        rw [show (i + 1) * 2 = i * 2 + 2 by omega] at this
        simpa using this)
      simp [List.flatMap_cons, ← this]

def rankPairs : List (Int × Int) := [(1, 0), (0, 0), (0, 1), (0, 2), (0, 3), (3, 1), (0, 4), (0, 6), (3, 10)]

theorem cells_of_ranks {H : Type} {enc : TypeId × Value → H} {w : World} {base : Nat} {sp : Nat → Bool} {held : Bool} {fuel : Nat} {cs : List Value} {p : List MemPlace}
    (h : DataW.trod enc Tryz.prog w base sp held fuel 64 cs = some (.agg (rankPairs.map fun z => .agg [.lit (.int .i64 z.1), .lit (.int .i64 z.2)]), p)) :
    cs = rankPairs.flatMap fun z => [.int .i64 z.1, .int .i64 z.2] := by
  have ce : Tryz.prog.cellsOf 57 = 2 := by kernel_rfl
  have ci : Tryz.prog.cellsOf 3 = 1 := by kernel_rfl
  have ct : Tryz.prog.cellsOf 64 = 18 := by kernel_rfl
  cases fuel with
  | zero => simp [DataW.trod] at h
  | succ fuel =>
    simp only [DataW.trod, Tryz.underlying64, ce, ct] at h
    split at h
    · rename_i hl
      obtain ⟨xs, hm, hx⟩ := Option.map_eq_some_iff.1 h
      have hxs : xs.map (·.1) = rankPairs.map fun z => (DataW.agg [.lit (.int .i64 z.1), .lit (.int .i64 z.2)] : DataW H) := by
        have := congrArg Prod.fst hx
        simpa using this
      refine pairs_flat cs rankPairs (by simpa [rankPairs] using hl) fun i z hz => ?_
      have hi : i < 9 := by
        have := (List.getElem?_eq_some_iff.1 hz).1
        simpa [rankPairs] using this
      obtain ⟨b, hb, hf⟩ := Lib.mapM_at hm i i (by simp [hi])
      obtain ⟨y0, y1, n, hy, hl2, h0, h1⟩ := trod_struct2 Tryz.underlying57 hf
      obtain ⟨z0, hc0, rfl, _⟩ := DataW.trod_int Tryz.underlying3 h0
      obtain ⟨z1, hc1, rfl, _⟩ := DataW.trod_int Tryz.underlying3 h1
      have h2 : (xs.map (·.1))[i]? = some (DataW.agg [.lit (.int .i64 z0), .lit (.int .i64 z1)] : DataW H) := by simp [hb, hy]
      rw [hxs] at h2
      simp only [List.getElem?_map, hz, Option.map_some, Option.some.injEq, DataW.agg.injEq, List.cons.injEq, DataW.lit.injEq, Lit.int.injEq, true_and, and_true] at h2
      obtain ⟨rfl, rfl⟩ := h2
      rw [ci] at hc0 hc1
      rw [ce] at hl2
      match hq : (cs.drop (i * 2)).take 2, hl2 with
      | [u, v], _ =>
        rw [hq] at hc0 hc1
        simp at hc0 hc1
        rw [hc0, hc1]
    · cases h

theorem rtab_of_laid {W : World} (h : laidMet Tryz.prog [("vinculum/cmap.ranked", Rows.laid_vinculum_cmap_ranked)] W) : RTab W := by
  obtain ⟨ps, ⟨g', t', cs, fuel, p, q, hg', ht', hvar, hd, _, _⟩, _⟩ := h
  obtain rfl := Option.some.inj ((show Tryz.prog.globalNamed "vinculum/cmap.ranked" = some 0 by kernel_rfl).symm.trans hg')
  obtain rfl := Option.some.inj ((show (Tryz.prog.globals[0]?).map (·.type) = some 64 by kernel_rfl).symm.trans ht')
  unfold RTab Lib.TabIs
  have hc : cs = (ranks.map fun z => Value.int .i64 z).toArray := by
    apply Array.ext'
    rw [cells_of_ranks hd]
    rfl
  rw [hvar, hc]
end Go.Proofs.YtppihpjcdieeoaaGreatDoor

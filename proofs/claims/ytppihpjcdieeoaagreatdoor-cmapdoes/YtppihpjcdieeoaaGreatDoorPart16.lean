/-
  Facts that the walks rest on: CmMerge4, CmStable. No conditions beyond those stated.
-/
import Derived.Test.YtppihpjcdieeoaaGreatDoorPart14
import Derived.Test.YtppihpjcdieeoaaGreatDoorPart15
/-
  The contract of the library's merge of two sorted runs of records (slices.symMergeCmpFunc at cmap.record), where both have two elements or more and the middle is in the second. No conditions beyond those stated.
-/
namespace Go.Proofs.YtppihpjcdieeoaaGreatDoor
open Go.RowKit Go.Shelf Go.Lib Go.Sort

set_option maxHeartbeats 3200000 in
set_option maxRecDepth 100000 in
theorem merge_right (g : Nat) (cb : Array Value) (blk off cap N : Nat) (d0 : Array Sy.Rec) (w0 : World) (eg : ∀ args w, (callFunc g args).run Tryz.prog w = .ok (.enter g args) w)
    (hcmp : CmpLays Tryz.prog g cb encCm 2 Sy.cf blk off N w0) (R : _root_.Go.Proofs.RowK encCm 2 w0 blk off d0) (hs : d0.size = N) (hsz : N < 4611686018427387904)
    (a m b mid : Nat) (d : Array Sy.Rec) (w : World) (hN : d.size = N) (S : SWK encCm 2 w0 blk off d w) (h0 : a + 1 < m) (h1 : m + 1 < b) (hbN : b ≤ N) (hS1 : SortedIn Sy.tl a m d) (hS2 : SortedIn Sy.tl m b d) (hA : Sy.Ahead a m b d) (hmid : mid = (a + b) / 2) (hmm : m ≤ mid)
    (HI0 : ∀ (x y z : Nat) (e : Array Sy.Rec) (W : World), x < y → y < z → z ≤ N → z - x < b - a → e.size = N → SWK encCm 2 w0 blk off e W → SortedIn Sy.tl x y e → SortedIn Sy.tl y z e → Sy.Ahead x y z e → Calls Tryz.prog 147 #[.slice (some ⟨blk, off, none⟩) N cap, .int .i64 x, .int .i64 y, .int .i64 z, .func (.func g) #[] cb] W fun e' w' => e' = .returned (.tuple #[]) ∧ ∃ d', SWK encCm 2 w0 blk off d' w' ∧ d'.size = N ∧ PermIn x z e d' ∧ SortedIn Sy.tl x z d') :
    Calls Tryz.prog 147 #[.slice (some ⟨blk, off, none⟩) N cap, .int .i64 a, .int .i64 m, .int .i64 b, .func (.func g) #[] cb] w fun e w' => e = .returned (.tuple #[]) ∧ ∃ d', SWK encCm 2 w0 blk off d' w' ∧ d'.size = N ∧ PermIn a b d d' ∧ SortedIn Sy.tl a b d' := by
  have mixed : Tryz.prog.follows .mixedOrders = true := by kernel_rfl
  have S0 : Aside (SWK encCm 2 w0 blk off d w) := S
  have HC : Aside _ := hcmp
  clear S hcmp
  have HR := Lib.hid (fun (i en : Nat) (e : Array Sy.Rec) (W : World) (he : e.size = N) (hS : SWK encCm 2 w0 blk off e W) (i1 : i < m) (i2 : m < en) (i3 : en ≤ b) => rotate_any g cb blk off cap N i m en d0 e w0 W R hs he hS i1 i2 (by omega) hsz)
  have HI := Lib.hid HI0
  clear HI0
  have HSo : Hid (∀ (i en : Nat), a ≤ i → i ≤ m → m ≤ en → en ≤ b → i + en = mid + m → (i = a ∨ en = b ∨ Sy.lt d[en]! d[i - 1]! = false) → (i = m ∨ en = m ∨ Sy.lt d[en - 1]! d[i]! = true) →
      ∀ d1 : Array Sy.Rec, (∀ t, d1[t]! = Sy.rsp m (m - i) (en - m) d t) → PermIn i en d d1 → d1.size = N →
      SortedIn Sy.tl a i d1 ∧ SortedIn Sy.tl i mid d1 ∧ Sy.Ahead a i mid d1 ∧ SortedIn Sy.tl mid en d1 ∧ SortedIn Sy.tl en b d1 ∧ Sy.Ahead mid en b d1 ∧
        ∀ d2 d3, PermIn a mid d1 d2 → SortedIn Sy.tl a mid d2 → PermIn mid b d2 d3 → SortedIn Sy.tl mid b d3 → PermIn a b d d3 ∧ SortedIn Sy.tl a b d3) :=
    Lib.hid (fun i en i1 i2 i3 i4 i5 i6 i7 d1 hd hp hz => by
      obtain ⟨k1, k2, k3, k4, k5, k6⟩ := Sy.halves hS1 hS2 hA i1 i2 i3 i4 i5 hd
      refine ⟨k1, k2, k3, k4, k5, k6, fun d2 d3 p2 s2 p3 s3 => ?_⟩
      obtain ⟨q1, q2⟩ := Sy.halves_whole (by omega) (by omega) (by omega) (Sy.halves_apart hS1 hS2 hA i1 i2 i3 i4 i5 hd i6 i7) p2 s2 p3 s3
      exact ⟨permIn_trans _ _ _ a b (permIn_mono d d1 i en a b i1 i4 (by omega) hp) q1, q2⟩)
  clear hS1 hS2 hA
  have q0 : ((m : Int) - (a : Int) == 1) = false := by simp; omega
  have q1 : ((b : Int) - (m : Int) == 1) = false := by simp; omega
  have m1 : a + b ≤ 2 * mid + 1 := by omega
  have m2 : 2 * mid ≤ a + b := by omega
  have emid : ((a : Int) + (b : Int)) / 2 = (mid : Int) := by omega
  have q2 : decide (mid < m) = false := decide_eq_false (by omega)
  obtain ⟨pp, hpp⟩ : ∃ pp, mid + m = pp + 1 := ⟨mid + m - 1, by omega⟩
  have ep : (mid : Int) + (m : Int) - 1 = (pp : Int) := by omega
  have HPP : Aside _ := hpp
  have HMid : Aside _ := hmid
  clear hmid hpp
  go_enter Tryz.func147, Tryz.ntmps147
  go_wp2_with fail
  go_loopg [20, 21] (m + b) (fun kx s20 s21 wr => ∃ (i j : Nat), s20 = .int .i64 i ∧ s21 = .int .i64 j ∧ a ≤ i ∧ i ≤ j ∧ j ≤ m ∧ j - i ≤ kx ∧ Aside (SWK encCm 2 w0 blk off d wr) ∧ Aside ((i = a ∨ Sy.lt d[pp + 1 - i]! d[i - 1]! = false) ∧ (j = m ∨ Sy.lt d[pp - j]! d[j]! = true)))
  case atStart => exact ⟨a, m, by go_num, rfl, Nat.le_refl _, by omega, Nat.le_refl _, by omega, S0, .inl rfl, .inl rfl⟩
  case round =>
    clear S0
    obtain ⟨i, j, rfl, rfl, hmi, hij, hjb, hk, S1, HQ⟩ := hrel
    have hpp := HPP.out
    by_cases hlt : i < j
    · clear HR HSo HI
      obtain ⟨h, hh⟩ : ∃ h, h = (i + j) / 2 := ⟨_, rfl⟩
      have eh : ((i : Int) + (j : Int)) / 2 = (h : Int) := by omega
      have b1 : i ≤ h := by omega
      have b2 : h < j := by omega
      obtain ⟨px, hpx⟩ : ∃ px, px = pp - h := ⟨_, rfl⟩
      have epx : (pp : Int) - (h : Int) = (px : Int) := by omega
      have bpx : px < N := by omega
      have zh : (h : Int) < (N : Int) := by omega
      have zp : (px : Int) < (N : Int) := by omega
      have rp : IntKind.i64.wrap (px : Int) = (px : Int) := by rw [IntKind.wrap_i64]; omega
      have hpx2 : pp + 1 - (h + 1) = px := by omega
      have HPX : Aside (pp - h = px ∧ pp + 1 - (h + 1) = px) := ⟨hpx.symm, hpx2⟩
      clear hh hpx hpx2 hpp
      have la := fun (n : Nat) (os : Array Obj) => (swk_at (S1.out.grown n os) R (by omega) (i := px) (by omega)).1.1
      have lb := fun (n : Nat) (os : Array Obj) => (swk_at (S1.out.grown n os) R (by omega) (i := px) (by omega)).1.2
      have lc := fun (n : Nat) (os : Array Obj) => (swk_at (S1.out.grown n os) R (by omega) (i := h) (by omega)).1.1
      have ld := fun (n : Nat) (os : Array Obj) => (swk_at (S1.out.grown n os) R (by omega) (i := h) (by omega)).1.2
      have hcg := fun (n : Nat) (os : Array Obj) => S1.out.cmp HC.out hN d[px]! d[h]! n os
      unfold encCm at hcg
      have hcf : Sy.cf d[px]! d[h]! < 0 ↔ Sy.lt d[px]! d[h]! = true := by unfold Sy.lt; rw [decide_eq_true_eq]
      have HL : Aside _ := hcf
      clear hcf
      generalize Sy.cf d[px]! d[h]! = c at hcg HL
      generalize hex : d[px]! = ex at la lb hcg
      generalize hey : d[h]! = ey at lc ld hcg
      clear hex hey
      obtain ⟨x1, x2, x3⟩ := ex
      obtain ⟨y1, y2, y3⟩ := ey
      dsimp only at la lb lc ld hcg
      by_cases hc : c < 0
      · have hcb : decide (c < 0) = true := decide_eq_true hc
        go_wp2_with fail
        go_quiet_grown (first | (go_at_fn g; refine Calls.grown_of (hcg _ _)))
        clear la lb lc ld hcg
        have S3 := Lib.hid (S1.out.grown nq osq)
        clear S1
        generalize grow (wr.drewN nq) osq = wq at S3 ⊢
        go_wp2_with fail
        go_roundg (h - i)
        case measure => omega
        case rel => exact ⟨i, h, rfl, by go_num, hmi, b1, by omega, Nat.le_refl _, S3.out, HQ.out.1, .inr (by rw [HPX.out.1]; exact HL.out.1 hc)⟩
      · have hcb : decide (c < 0) = false := decide_eq_false hc
        go_wp2_with fail
        go_quiet_grown (first | (go_at_fn g; refine Calls.grown_of (hcg _ _)))
        clear la lb lc ld hcg
        have S3 := Lib.hid (S1.out.grown nq osq)
        clear S1
        generalize grow (wr.drewN nq) osq = wq at S3 ⊢
        go_wp2_with fail
        go_roundg (j - (h + 1))
        case measure => omega
        case rel => exact ⟨h + 1, j, by go_num, rfl, by omega, by omega, hjb, Nat.le_refl _, S3.out, .inr (by rw [HPX.out.2]; show Sy.lt d[px]! d[h]! = false; cases hl : Sy.lt d[px]! d[h]! with | false => rfl | true => exact absurd (HL.out.2 hl) (by omega)), HQ.out.2⟩
    · obtain rfl : i = j := by omega
      obtain ⟨en, hen⟩ : ∃ en, en = pp + 1 - i := ⟨_, rfl⟩
      have een : (mid : Int) + (m : Int) - (i : Int) = (en : Int) := by omega
      have hie : i + en = mid + m := by omega
      have hai : a ≤ i := by omega
      have him : i ≤ m := by omega
      have hme : m ≤ en := by omega
      have heb : en ≤ b := by omega
      have HFin := Lib.hid (HSo.out i en hai him hme heb hie
        (by
          rcases HQ.out.1 with h | h
          · exact .inl (by omega)
          · exact .inr (.inr (by rw [hen]; exact h)))
        (by
          rcases HQ.out.2 with h | h
          · exact .inl (by omega)
          · exact .inr (.inr (by rw [show en - 1 = pp - i by omega]; exact h))))
      have HIE : Aside (i + en = mid + m) := hie
      clear HSo HQ hen hpp hie hij
      have hie2 : (i : Int) + (en : Int) = (mid : Int) + (m : Int) := by have := HIE.out; omega
      clear hie2
      by_cases r1 : i < m
      · by_cases r2 : m < en
        · have r3 : i < mid := by have := HIE.out; omega
          have r4 : mid < en := by have := HIE.out; omega
          by_cases a1 : a < i
          · by_cases b1 : en < b
            · go_wp2_with fail
              refine (HR.out i en d _ hN S1.out (by have := HIE.out; omega) (by have := HIE.out; omega) heb).mono ?_
              rintro e w1 ⟨rfl, d1, S', z1, P1', Q1'⟩
              have T1 := Lib.hid S'
              have P1 := Lib.hid P1'
              have Q1 := Lib.hid Q1'
              clear S' P1' Q1'
              have HF := Lib.hid (HFin.out d1 Q1.out P1.out z1)
              clear S1 HFin HR
              go_wp2_with fail
              refine (HI.out a i mid d1 _ (by have := HIE.out; omega) (by have := HIE.out; omega) (by have := HIE.out; omega) (by have := HIE.out; omega) z1 T1.out HF.out.1 HF.out.2.1 HF.out.2.2.1).mono ?_
              rintro e w1 ⟨rfl, d2, S', z2, P2', Q2'⟩
              have T2 := Lib.hid S'
              have P2 := Lib.hid P2'
              have Q2 := Lib.hid Q2'
              clear S' P2' Q2'
              clear T1
              go_wp2_with fail
              refine (HI.out mid en b d2 _ (by have := HIE.out; omega) (by have := HIE.out; omega) hbN (by have := HIE.out; omega) z2 T2.out (Sy.srt_same HF.out.2.2.2.1 (fun t h _ => P2.out.2.1 t (.inr h))) (Sy.srt_same HF.out.2.2.2.2.1 (fun t h _ => P2.out.2.1 t (.inr (by have := HIE.out; omega)))) (fun p q h1 h2 h3 h4 => by rw [P2.out.2.1 p (.inr h1), P2.out.2.1 q (.inr (by have := HIE.out; omega))]; exact HF.out.2.2.2.2.2.1 p q h1 h2 h3 h4)).mono ?_
              rintro e w1 ⟨rfl, d3, S', z3, P3', Q3'⟩
              have T3 := Lib.hid S'
              have P3 := Lib.hid P3'
              have Q3 := Lib.hid Q3'
              clear S' P3' Q3'
              have HE := Lib.hid (HF.out.2.2.2.2.2.2 d2 d3 P2.out Q2.out P3.out Q3.out)
              clear HF P2 Q2 P3 Q3
              go_wp2_with fail
              go_end0
              exact ⟨rfl, d3, T3.out, z3, HE.out.1, HE.out.2⟩
            · go_wp2_with fail
              refine (HR.out i en d _ hN S1.out (by have := HIE.out; omega) (by have := HIE.out; omega) heb).mono ?_
              rintro e w1 ⟨rfl, d1, S', z1, P1', Q1'⟩
              have T1 := Lib.hid S'
              have P1 := Lib.hid P1'
              have Q1 := Lib.hid Q1'
              clear S' P1' Q1'
              have HF := Lib.hid (HFin.out d1 Q1.out P1.out z1)
              clear S1 HFin HR
              go_wp2_with fail
              refine (HI.out a i mid d1 _ (by have := HIE.out; omega) (by have := HIE.out; omega) (by have := HIE.out; omega) (by have := HIE.out; omega) z1 T1.out HF.out.1 HF.out.2.1 HF.out.2.2.1).mono ?_
              rintro e w1 ⟨rfl, d2, S', z2, P2', Q2'⟩
              have T2 := Lib.hid S'
              have P2 := Lib.hid P2'
              have Q2 := Lib.hid Q2'
              clear S' P2' Q2'
              clear T1
              have P3 : Hid (PermIn mid b d2 d2) := Lib.hid (permIn_refl d2 mid b)
              have T3 := Lib.hid T2.out
              have z3 := z2
              have Q3 : Hid (SortedIn Sy.tl mid b d2) := Lib.hid (Sy.srt_same (Sy.srt_part HF.out.2.2.2.1 (Nat.le_refl _) (by have := HIE.out; omega)) (fun t h _ => P2.out.2.1 t (.inr h)))
              have HE := Lib.hid (HF.out.2.2.2.2.2.2 d2 d2 P2.out Q2.out P3.out Q3.out)
              clear HF P2 Q2 P3 Q3
              go_wp2_with fail
              go_end0
              exact ⟨rfl, d2, T3.out, z3, HE.out.1, HE.out.2⟩
          · by_cases b1 : en < b
            · go_wp2_with fail
              refine (HR.out i en d _ hN S1.out (by have := HIE.out; omega) (by have := HIE.out; omega) heb).mono ?_
              rintro e w1 ⟨rfl, d1, S', z1, P1', Q1'⟩
              have T1 := Lib.hid S'
              have P1 := Lib.hid P1'
              have Q1 := Lib.hid Q1'
              clear S' P1' Q1'
              have HF := Lib.hid (HFin.out d1 Q1.out P1.out z1)
              clear S1 HFin HR
              have P2 : Hid (PermIn a mid d1 d1) := Lib.hid (permIn_refl d1 a mid)
              have T2 := Lib.hid T1.out
              have z2 := z1
              have Q2 : Hid (SortedIn Sy.tl a mid d1) := Lib.hid (Sy.srt_part HF.out.2.1 (by have := HIE.out; omega) (Nat.le_refl _))
              clear T1
              go_wp2_with fail
              refine (HI.out mid en b d1 _ (by have := HIE.out; omega) (by have := HIE.out; omega) hbN (by have := HIE.out; omega) z2 T2.out (Sy.srt_same HF.out.2.2.2.1 (fun t h _ => P2.out.2.1 t (.inr h))) (Sy.srt_same HF.out.2.2.2.2.1 (fun t h _ => P2.out.2.1 t (.inr (by have := HIE.out; omega)))) (fun p q h1 h2 h3 h4 => by rw [P2.out.2.1 p (.inr h1), P2.out.2.1 q (.inr (by have := HIE.out; omega))]; exact HF.out.2.2.2.2.2.1 p q h1 h2 h3 h4)).mono ?_
              rintro e w1 ⟨rfl, d3, S', z3, P3', Q3'⟩
              have T3 := Lib.hid S'
              have P3 := Lib.hid P3'
              have Q3 := Lib.hid Q3'
              clear S' P3' Q3'
              have HE := Lib.hid (HF.out.2.2.2.2.2.2 d1 d3 P2.out Q2.out P3.out Q3.out)
              clear HF P2 Q2 P3 Q3
              go_wp2_with fail
              go_end0
              exact ⟨rfl, d3, T3.out, z3, HE.out.1, HE.out.2⟩
            · go_wp2_with fail
              refine (HR.out i en d _ hN S1.out (by have := HIE.out; omega) (by have := HIE.out; omega) heb).mono ?_
              rintro e w1 ⟨rfl, d1, S', z1, P1', Q1'⟩
              have T1 := Lib.hid S'
              have P1 := Lib.hid P1'
              have Q1 := Lib.hid Q1'
              clear S' P1' Q1'
              have HF := Lib.hid (HFin.out d1 Q1.out P1.out z1)
              clear S1 HFin HR
              have P2 : Hid (PermIn a mid d1 d1) := Lib.hid (permIn_refl d1 a mid)
              have T2 := Lib.hid T1.out
              have z2 := z1
              have Q2 : Hid (SortedIn Sy.tl a mid d1) := Lib.hid (Sy.srt_part HF.out.2.1 (by have := HIE.out; omega) (Nat.le_refl _))
              clear T1
              have P3 : Hid (PermIn mid b d1 d1) := Lib.hid (permIn_refl d1 mid b)
              have T3 := Lib.hid T2.out
              have z3 := z2
              have Q3 : Hid (SortedIn Sy.tl mid b d1) := Lib.hid (Sy.srt_same (Sy.srt_part HF.out.2.2.2.1 (Nat.le_refl _) (by have := HIE.out; omega)) (fun t h _ => P2.out.2.1 t (.inr h)))
              have HE := Lib.hid (HF.out.2.2.2.2.2.2 d1 d1 P2.out Q2.out P3.out Q3.out)
              clear HF P2 Q2 P3 Q3
              go_wp2_with fail
              go_end0
              exact ⟨rfl, d1, T3.out, z3, HE.out.1, HE.out.2⟩
        · have r3 : ¬ i < mid := by have := HIE.out; omega
          have r4 : mid < en := by have := HIE.out; omega
          have r5 : en < b := by omega
          by_cases a1 : a < i
          · have HF := Lib.hid (HFin.out d (fun t => (Sy.rsp_none (by have := HIE.out; omega) t).symm) (permIn_refl d i en) hN)
            have T1 := Lib.hid S1.out
            have z1 := hN
            clear S1 HFin HR
            have P2 : Hid (PermIn a mid d d) := Lib.hid (permIn_refl d a mid)
            have T2 := Lib.hid T1.out
            have z2 := z1
            have Q2 : Hid (SortedIn Sy.tl a mid d) := Lib.hid (Sy.srt_part HF.out.1 (Nat.le_refl _) (by have := HIE.out; omega))
            clear T1
            go_wp2_with fail
            refine (HI.out mid en b d _ (by have := HIE.out; omega) (by have := HIE.out; omega) hbN (by have := HIE.out; omega) z2 T2.out (Sy.srt_same HF.out.2.2.2.1 (fun t h _ => P2.out.2.1 t (.inr h))) (Sy.srt_same HF.out.2.2.2.2.1 (fun t h _ => P2.out.2.1 t (.inr (by have := HIE.out; omega)))) (fun p q h1 h2 h3 h4 => by rw [P2.out.2.1 p (.inr h1), P2.out.2.1 q (.inr (by have := HIE.out; omega))]; exact HF.out.2.2.2.2.2.1 p q h1 h2 h3 h4)).mono ?_
            rintro e w1 ⟨rfl, d3, S', z3, P3', Q3'⟩
            have T3 := Lib.hid S'
            have P3 := Lib.hid P3'
            have Q3 := Lib.hid Q3'
            clear S' P3' Q3'
            have HE := Lib.hid (HF.out.2.2.2.2.2.2 d d3 P2.out Q2.out P3.out Q3.out)
            clear HF P2 Q2 P3 Q3
            go_wp2_with fail
            go_end0
            exact ⟨rfl, d3, T3.out, z3, HE.out.1, HE.out.2⟩
          · have HF := Lib.hid (HFin.out d (fun t => (Sy.rsp_none (by have := HIE.out; omega) t).symm) (permIn_refl d i en) hN)
            have T1 := Lib.hid S1.out
            have z1 := hN
            clear S1 HFin HR
            have P2 : Hid (PermIn a mid d d) := Lib.hid (permIn_refl d a mid)
            have T2 := Lib.hid T1.out
            have z2 := z1
            have Q2 : Hid (SortedIn Sy.tl a mid d) := Lib.hid (Sy.srt_part HF.out.2.1 (by have := HIE.out; omega) (Nat.le_refl _))
            clear T1
            go_wp2_with fail
            refine (HI.out mid en b d _ (by have := HIE.out; omega) (by have := HIE.out; omega) hbN (by have := HIE.out; omega) z2 T2.out (Sy.srt_same HF.out.2.2.2.1 (fun t h _ => P2.out.2.1 t (.inr h))) (Sy.srt_same HF.out.2.2.2.2.1 (fun t h _ => P2.out.2.1 t (.inr (by have := HIE.out; omega)))) (fun p q h1 h2 h3 h4 => by rw [P2.out.2.1 p (.inr h1), P2.out.2.1 q (.inr (by have := HIE.out; omega))]; exact HF.out.2.2.2.2.2.1 p q h1 h2 h3 h4)).mono ?_
            rintro e w1 ⟨rfl, d3, S', z3, P3', Q3'⟩
            have T3 := Lib.hid S'
            have P3 := Lib.hid P3'
            have Q3 := Lib.hid Q3'
            clear S' P3' Q3'
            have HE := Lib.hid (HF.out.2.2.2.2.2.2 d d3 P2.out Q2.out P3.out Q3.out)
            clear HF P2 Q2 P3 Q3
            go_wp2_with fail
            go_end0
            exact ⟨rfl, d3, T3.out, z3, HE.out.1, HE.out.2⟩
      · have r4 : ¬ mid < en := by have := HIE.out; omega
        have a1 : a < i := by omega
        by_cases a2 : i < mid
        · have HF := Lib.hid (HFin.out d (fun t => (Sy.rsp_none (by have := HIE.out; omega) t).symm) (permIn_refl d i en) hN)
          have T1 := Lib.hid S1.out
          have z1 := hN
          clear S1 HFin HR
          go_wp2_with fail
          refine (HI.out a i mid d _ (by have := HIE.out; omega) (by have := HIE.out; omega) (by have := HIE.out; omega) (by have := HIE.out; omega) z1 T1.out HF.out.1 HF.out.2.1 HF.out.2.2.1).mono ?_
          rintro e w1 ⟨rfl, d2, S', z2, P2', Q2'⟩
          have T2 := Lib.hid S'
          have P2 := Lib.hid P2'
          have Q2 := Lib.hid Q2'
          clear S' P2' Q2'
          clear T1
          have P3 : Hid (PermIn mid b d2 d2) := Lib.hid (permIn_refl d2 mid b)
          have T3 := Lib.hid T2.out
          have z3 := z2
          have Q3 : Hid (SortedIn Sy.tl mid b d2) := Lib.hid (Sy.srt_same (Sy.srt_part HF.out.2.2.2.2.1 (by have := HIE.out; omega) (Nat.le_refl _)) (fun t h _ => P2.out.2.1 t (.inr h)))
          have HE := Lib.hid (HF.out.2.2.2.2.2.2 d2 d2 P2.out Q2.out P3.out Q3.out)
          clear HF P2 Q2 P3 Q3
          go_wp2_with fail
          go_end0
          exact ⟨rfl, d2, T3.out, z3, HE.out.1, HE.out.2⟩
        · have HF := Lib.hid (HFin.out d (fun t => (Sy.rsp_none (by have := HIE.out; omega) t).symm) (permIn_refl d i en) hN)
          have T1 := Lib.hid S1.out
          have z1 := hN
          clear S1 HFin HR
          have P2 : Hid (PermIn a mid d d) := Lib.hid (permIn_refl d a mid)
          have T2 := Lib.hid T1.out
          have z2 := z1
          have Q2 : Hid (SortedIn Sy.tl a mid d) := Lib.hid (Sy.srt_part HF.out.1 (Nat.le_refl _) (by have := HIE.out; omega))
          clear T1
          have P3 : Hid (PermIn mid b d d) := Lib.hid (permIn_refl d mid b)
          have T3 := Lib.hid T2.out
          have z3 := z2
          have Q3 : Hid (SortedIn Sy.tl mid b d) := Lib.hid (Sy.srt_same (Sy.srt_part HF.out.2.2.2.2.1 (by have := HIE.out; omega) (Nat.le_refl _)) (fun t h _ => P2.out.2.1 t (.inr h)))
          have HE := Lib.hid (HF.out.2.2.2.2.2.2 d d P2.out Q2.out P3.out Q3.out)
          clear HF P2 Q2 P3 Q3
          go_wp2_with fail
          go_end0
          exact ⟨rfl, d, T3.out, z3, HE.out.1, HE.out.2⟩
end Go.Proofs.YtppihpjcdieeoaaGreatDoor
/-
  The contract of the library's stable sort of a row of at most 64 records (slices.symMergeCmpFunc, slices.stableCmpFunc, slices.SortStableFunc at cmap.record). No conditions beyond those stated.
-/
namespace Go.Proofs.YtppihpjcdieeoaaGreatDoor
open Go.RowKit Go.Shelf Go.Lib Go.Sort

theorem merge_any (g : Nat) (cb : Array Value) (blk off cap N : Nat) (d0 : Array Sy.Rec) (w0 : World) (eg : ∀ args w, (callFunc g args).run Tryz.prog w = .ok (.enter g args) w)
    (hcmp : CmpLays Tryz.prog g cb encCm 2 Sy.cf blk off N w0) (R : _root_.Go.Proofs.RowK encCm 2 w0 blk off d0) (hs : d0.size = N) (hsz : N < 4611686018427387904) :
    ∀ (n a m b : Nat) (d : Array Sy.Rec) (w : World), b - a ≤ n → a < m → m < b → b ≤ N → d.size = N → SWK encCm 2 w0 blk off d w → SortedIn Sy.tl a m d → SortedIn Sy.tl m b d → Sy.Ahead a m b d →
    Calls Tryz.prog 147 #[.slice (some ⟨blk, off, none⟩) N cap, .int .i64 a, .int .i64 m, .int .i64 b, .func (.func g) #[] cb] w fun e w' => e = .returned (.tuple #[]) ∧ ∃ d', SWK encCm 2 w0 blk off d' w' ∧ d'.size = N ∧ PermIn a b d d' ∧ SortedIn Sy.tl a b d'
  | 0, a, m, b, d, w, hn, h1, h2, _, _, _, _, _, _ => by omega
  | n + 1, a, m, b, d, w, hn, h1, h2, h3, hN, S, s1, s2, hA => by
    have HI : ∀ (x y z : Nat) (e : Array Sy.Rec) (W : World), x < y → y < z → z ≤ N → z - x < b - a → e.size = N → SWK encCm 2 w0 blk off e W → SortedIn Sy.tl x y e → SortedIn Sy.tl y z e → Sy.Ahead x y z e →
        Calls Tryz.prog 147 #[.slice (some ⟨blk, off, none⟩) N cap, .int .i64 x, .int .i64 y, .int .i64 z, .func (.func g) #[] cb] W fun e' w' => e' = .returned (.tuple #[]) ∧ ∃ d', SWK encCm 2 w0 blk off d' w' ∧ d'.size = N ∧ PermIn x z e d' ∧ SortedIn Sy.tl x z d' :=
      fun x y z e W i1 i2 i3 i4 i5 i6 i7 i8 i9 => merge_any g cb blk off cap N d0 w0 eg hcmp R hs hsz n x y z e W (by omega) i1 i2 i3 i5 i6 i7 i8 i9
    by_cases c1 : m = a + 1
    · exact merge_one g cb blk off cap N d0 w0 eg hcmp R hs hsz a m b d w hN S c1 h2 h3 s2 hA
    · by_cases c2 : b = m + 1
      · exact merge_last g cb blk off cap N d0 w0 eg hcmp R hs hsz a m b d w hN S (by omega) c2 h3 s1 hA
      · by_cases c3 : (a + b) / 2 < m
        · exact merge_left g cb blk off cap N d0 w0 eg hcmp R hs hsz a m b ((a + b) / 2) d w hN S (by omega) (by omega) h3 s1 s2 hA rfl c3 HI
        · exact merge_right g cb blk off cap N d0 w0 eg hcmp R hs hsz a m b ((a + b) / 2) d w hN S (by omega) (by omega) h3 s1 s2 hA rfl (by omega) HI

set_option maxHeartbeats 3200000 in
set_option maxRecDepth 100000 in
theorem stable_any (g : Nat) (cb : Array Value) (blk off cap N : Nat) (d0 : Array Sy.Rec) (w0 : World) (eg : ∀ args w, (callFunc g args).run Tryz.prog w = .ok (.enter g args) w)
    (hcmp : CmpLays Tryz.prog g cb encCm 2 Sy.cf blk off N w0) (R : _root_.Go.Proofs.RowK encCm 2 w0 blk off d0) (hs : d0.size = N) (h64 : N ≤ 64)
    (d : Array Sy.Rec) (w : World) (hN : d.size = N) (S : SWK encCm 2 w0 blk off d w) (ht : ∀ t, t < N → d[t]!.2.2 = t) :
    Calls Tryz.prog 136 #[.slice (some ⟨blk, off, none⟩) N cap, .int .i64 N, .func (.func g) #[] cb] w fun e w' => e = .returned (.tuple #[]) ∧ ∃ d', SWK encCm 2 w0 blk off d' w' ∧ d'.size = N ∧ PermIn 0 N d d' ∧ SortedIn Sy.tl 0 N d' := by
  have S0 : Aside (SWK encCm 2 w0 blk off d w) := S
  have HT := Lib.hid ht
  have hsz : N < 4611686018427387904 := by omega
  have HIns := Lib.hid (fun (a b : Nat) (e : Array Sy.Rec) (W : World) (he : e.size = N) (hS : SWK encCm 2 w0 blk off e W) (i1 : a ≤ b) (i2 : b ≤ N) => ins_any g cb blk off cap N d0 w0 eg hcmp R hs hsz a b e W he hS i1 i2)
  have HMrg := Lib.hid (fun (a m b : Nat) (e : Array Sy.Rec) (W : World) (i1 : a < m) (i2 : m < b) (i3 : b ≤ N) (he : e.size = N) (hS : SWK encCm 2 w0 blk off e W) s1 s2 s3 => merge_any g cb blk off cap N d0 w0 eg hcmp R hs hsz (b - a) a m b e W (Nat.le_refl _) i1 i2 i3 he hS s1 s2 s3)
  clear S hcmp ht
  go_enter Tryz.func136, Tryz.ntmps136
  go_wp2_with fail
  go_loopg [7, 8] 4 (fun kx s7 s8 wr => ∃ (A B q : Nat) (dk : Array Sy.Rec), s7 = .int .i64 A ∧ s8 = .int .i64 B ∧ Aside (A = 20 * q ∧ B = A + 20 ∧ A ≤ N ∧ 4 ≤ q + kx) ∧ dk.size = N ∧ Aside (SWK encCm 2 w0 blk off dk wr) ∧ Aside (PermIn 0 N d dk) ∧ Aside (Sy.I1 N q d dk))
  case atStart => exact ⟨0, 20, 0, d, by go_num, by go_num, ⟨rfl, rfl, by omega, by omega⟩, hN, S0, permIn_refl d 0 N, Sy.I1_start HT.out⟩
  case round =>
    clear S0
    obtain ⟨A, B, q, dk, rfl, rfl, HA, hds, S1, HP, HJ⟩ := hrel
    by_cases hlt : B ≤ N
    · go_wp2_with fail
      refine (HIns.out A B dk _ hds S1.out (by have := HA.out; omega) (by have := HA.out; omega)).mono ?_
      rintro e w1 ⟨rfl, S'⟩
      have S2 := Lib.hid S'
      clear S' S1
      have hins := Sy.ins_sorted (a := A) (b := B) (d := dk) (by have := HA.out; omega) (by omega) (by rw [HA.out.1]; exact Sy.I1_rise HT.out HJ.out hlt)
      have HI2 := Lib.hid hins
      clear hins
      go_wp2_with fail
      go_roundg (gk - 1)
      case measure => have := HA.out; omega
      case rel => exact ⟨B, B + 20, q + 1, _, rfl, by go_num, ⟨by have := HA.out; omega, rfl, hlt, by have := HA.out; omega⟩, by rw [HI2.out.1.1]; exact hds, S2.out, permIn_trans _ _ _ 0 N HP.out (permIn_mono _ _ A B 0 N (Nat.zero_le _) hlt (by omega) HI2.out.1),
        by have h := HA.out; have e1 : A = 20 * q := h.1; subst e1; exact Sy.I1_step HJ.out hds hlt (by omega) (by omega) (.inl (by omega)) HI2.out.1 HI2.out.2⟩
    · go_wp2_with fail
      refine (HIns.out A N dk _ hds S1.out (by have := HA.out; omega) (by have := HA.out; omega)).mono ?_
      rintro e w1 ⟨rfl, S'⟩
      have S2 := Lib.hid S'
      clear S' S1
      have hins := Sy.ins_sorted (a := A) (b := N) (d := dk) (by have := HA.out; omega) (by omega) (by rw [HA.out.1]; exact Sy.I1_rise HT.out HJ.out (Nat.le_refl _))
      have HI2 := Lib.hid hins
      have HP2 : Hid (PermIn 0 N d (insertionSort Sy.lt dk A N)) := Lib.hid (permIn_trans _ _ _ 0 N HP.out (permIn_mono _ _ A N 0 N (Nat.zero_le _) (Nat.le_refl _) (by omega) hins.1))
      have HJ2 : Hid (Sy.I1 N (q + 1) d (insertionSort Sy.lt dk A N)) := Lib.hid (by have h := HA.out; have e1 : A = 20 * q := h.1; subst e1; exact Sy.I1_step HJ.out hds (Nat.le_refl _) h.2.2.1 (by omega) (.inr rfl) hins.1 hins.2)
      have HB : Hid (N ≤ 20 * (q + 1)) := Lib.hid (by have := HA.out; omega)
      have z2 : (insertionSort Sy.lt dk A N).size = N := by rw [hins.1.1]; exact hds
      clear hins HI2 HA HP HJ hds
      generalize insertionSort Sy.lt dk A N = dk at *
      go_wp2_with fail
      go_loopg [6] 3 (fun kx s6 wr => ∃ (k : Int) (dk : Array Sy.Rec), s6 = .int .i64 k ∧ dk.size = N ∧ Aside (SWK encCm 2 w0 blk off dk wr) ∧ Aside (PermIn 0 N d dk) ∧ Aside ((k = 20 ∧ kx = 3 ∧ Sy.J20 N 0 dk) ∨ (k = 40 ∧ kx = 2 ∧ Sy.J40 N 0 dk) ∨ (k = 80 ∧ kx = 1 ∧ ∀ i j, i < j → j < N → i / 80 = j / 80 → Sy.tl dk[j]! dk[i]! = false)))
      case atStart => exact ⟨20, dk, rfl, z2, S2.out, HP2.out, .inl ⟨rfl, rfl, Sy.J20_start HJ2.out.1 (fun i j a b c => HJ2.out.2.1 i j a b (by have := HB.out; omega) c)⟩⟩
      case round =>
        clear S2 HP2 HJ2 HB z2
        obtain ⟨k, dk, rfl, hds, S1, HP, HK⟩ := hrel
        rcases HK.out with ⟨rfl, rfl, HJ'⟩ | ⟨rfl, rfl, HJ'⟩ | ⟨rfl, rfl, HJ'⟩
        · have HJ := Lib.hid HJ'
          clear HJ' HK
          by_cases hlt2 : 20 < N
          · have hb2 : decide (20 < N) = true := decide_eq_true hlt2
            have hb3 : decide (40 ≤ N) = decide (40 ≤ N) := rfl
            go_wp2_with fail
            go_loopg [7, 8] 4 (fun kx s7 s8 wr => ∃ (A B q : Nat) (dk : Array Sy.Rec), s7 = .int .i64 A ∧ s8 = .int .i64 B ∧ Aside (A = 40 * q ∧ B = A + 40 ∧ A ≤ N ∧ 4 ≤ q + kx) ∧ dk.size = N ∧ Aside (SWK encCm 2 w0 blk off dk wr) ∧ Aside (PermIn 0 N d dk) ∧ Aside (Sy.J20 N q dk))
            case atStart => exact ⟨0, 40, 0, dk, by go_num, by go_num, ⟨rfl, rfl, by omega, by omega⟩, hds, S1, HP.out, HJ.out⟩
            case round =>
              clear S1 HP HJ hds
              obtain ⟨A, B, q, dk, rfl, rfl, HA, hds, S1, HP, HJ⟩ := hrel
              obtain ⟨M, hM⟩ : ∃ M, M = A + 20 := ⟨_, rfl⟩
              have eM : (A : Int) + 20 = (M : Int) := by omega
              have HM : Aside (M = A + 20) := hM
              have bM : M ≤ 200 := by have := HA.out; omega
              have HPa : Hid (∀ z, z ≤ N → A + 20 < z → z ≤ A + 40 → SortedIn Sy.tl A M dk ∧ SortedIn Sy.tl M z dk ∧ Sy.Ahead A M z dk) := Lib.hid (fun z z1 z2 z3 => by
                have h := HA.out; have e1 : A = 40 * q := h.1; subst e1; subst hM; exact Sy.J20_parts HJ.out z1 z2 z3)
              have HSt : Hid (∀ z d', z ≤ N → A + 20 < z → z ≤ A + 40 → (z = A + 40 ∨ z = N) → PermIn A z dk d' → SortedIn Sy.tl A z d' → Sy.J20 N (q + 1) d') := Lib.hid (fun z d' z1 z2 z3 z4 p s => by
                have h := HA.out; have e1 : A = 40 * q := h.1; subst e1; exact Sy.J20_step HJ.out hds z1 z2 z3 z4 p s)
              clear hM
              by_cases hlt3 : B ≤ N
              · have hAM : A < M := by have := HM.out; omega
                have hMB : M < B := by have := HM.out; have := HA.out; omega
                go_wp2_with fail
                refine (HMrg.out A M B dk _ (by have := HA.out; omega) (by have := HA.out; omega) (by have := HA.out; omega) hds S1.out (HPa.out B hlt3 (by have := HA.out; omega) (by have := HA.out; omega)).1 (HPa.out B hlt3 (by have := HA.out; omega) (by have := HA.out; omega)).2.1 (HPa.out B hlt3 (by have := HA.out; omega) (by have := HA.out; omega)).2.2).mono ?_
                rintro e w1 ⟨rfl, d', S', z', P', Q'⟩
                have S2 := Lib.hid S'
                have P2 := Lib.hid P'
                have Q2 := Lib.hid Q'
                clear S' P' Q' S1
                go_wp2_with fail
                go_roundg (gk - 1)
                case measure => have := HA.out; omega
                case rel => exact ⟨B, B + 40, q + 1, d', rfl, by go_num, ⟨by have := HA.out; omega, rfl, hlt3, by have := HA.out; omega⟩, z', S2.out, permIn_trans _ _ _ 0 N HP.out (permIn_mono _ _ A B 0 N (Nat.zero_le _) hlt3 (by omega) P2.out),
                  HSt.out B d' hlt3 (by have := HA.out; omega) (by have := HA.out; omega) (.inl (by have := HA.out; omega)) P2.out Q2.out⟩
              · by_cases hlt4 : M < N
                · have hAM : A < M := by have := HM.out; omega
                  go_wp2_with fail
                  refine (HMrg.out A M N dk _ (by have := HA.out; omega) (by have := HA.out; omega) (by have := HA.out; omega) hds S1.out (HPa.out N (Nat.le_refl _) (by have := HM.out; omega) (by have := HA.out; omega)).1 (HPa.out N (Nat.le_refl _) (by have := HM.out; omega) (by have := HA.out; omega)).2.1 (HPa.out N (Nat.le_refl _) (by have := HM.out; omega) (by have := HA.out; omega)).2.2).mono ?_
                  rintro e w1 ⟨rfl, d', S', z', P', Q'⟩
                  have S2 := Lib.hid S'
                  have P2 := Lib.hid P'
                  have Q2 := Lib.hid Q'
                  clear S' P' Q' S1
                  have HE := Lib.hid (Sy.J20_end (HSt.out N d' (Nat.le_refl _) (by have := HM.out; omega) (by have := HA.out; omega) (.inr rfl) P2.out Q2.out) (by have := HA.out; omega))
                  go_wp2_with fail
                  go_roundg 2
                  case measure => omega
                  case rel => exact ⟨40, d', by go_num, z', S2.out, permIn_trans _ _ _ 0 N HP.out (permIn_mono _ _ A N 0 N (Nat.zero_le _) (Nat.le_refl _) (by omega) P2.out), .inr (.inl ⟨by go_num, rfl, Sy.J40_start HE.out.1 HE.out.2⟩)⟩
                · have HE := Lib.hid (Sy.J20_end (Sy.J20_idle HJ.out (by have := HM.out; have := HA.out; omega)) (by have := HM.out; have := HA.out; omega))
                  go_wp2_with fail
                  go_roundg 2
                  case measure => omega
                  case rel => exact ⟨40, dk, by go_num, hds, S1.out, HP.out, .inr (.inl ⟨by go_num, rfl, Sy.J40_start HE.out.1 HE.out.2⟩)⟩
          · have HF : Hid (SortedIn Sy.tl 0 N dk) := Lib.hid (fun i j a b c => HJ.out.2.2.2 i j b c (by omega) (by omega))
            go_wp2_with fail
            go_end0
            exact ⟨rfl, dk, S1.out, hds, HP.out, HF.out⟩
        · have HJ := Lib.hid HJ'
          clear HJ' HK
          by_cases hlt2 : 40 < N
          · have hb2 : decide (40 < N) = true := decide_eq_true hlt2
            have hb3 : decide (80 ≤ N) = decide (80 ≤ N) := rfl
            go_wp2_with fail
            go_loopg [7, 8] 4 (fun kx s7 s8 wr => ∃ (A B q : Nat) (dk : Array Sy.Rec), s7 = .int .i64 A ∧ s8 = .int .i64 B ∧ Aside (A = 80 * q ∧ B = A + 80 ∧ A ≤ N ∧ 4 ≤ q + kx) ∧ dk.size = N ∧ Aside (SWK encCm 2 w0 blk off dk wr) ∧ Aside (PermIn 0 N d dk) ∧ Aside (Sy.J40 N q dk))
            case atStart => exact ⟨0, 80, 0, dk, by go_num, by go_num, ⟨rfl, rfl, by omega, by omega⟩, hds, S1, HP.out, HJ.out⟩
            case round =>
              clear S1 HP HJ hds
              obtain ⟨A, B, q, dk, rfl, rfl, HA, hds, S1, HP, HJ⟩ := hrel
              obtain ⟨M, hM⟩ : ∃ M, M = A + 40 := ⟨_, rfl⟩
              have eM : (A : Int) + 40 = (M : Int) := by omega
              have HM : Aside (M = A + 40) := hM
              have bM : M ≤ 200 := by have := HA.out; omega
              have HPa : Hid (∀ z, z ≤ N → A + 40 < z → z ≤ A + 80 → SortedIn Sy.tl A M dk ∧ SortedIn Sy.tl M z dk ∧ Sy.Ahead A M z dk) := Lib.hid (fun z z1 z2 z3 => by
                have h := HA.out; have e1 : A = 80 * q := h.1; subst e1; subst hM; exact Sy.J40_parts HJ.out z1 z2 z3)
              have HSt : Hid (∀ z d', z ≤ N → A + 40 < z → z ≤ A + 80 → (z = A + 80 ∨ z = N) → PermIn A z dk d' → SortedIn Sy.tl A z d' → Sy.J40 N (q + 1) d') := Lib.hid (fun z d' z1 z2 z3 z4 p s => by
                have h := HA.out; have e1 : A = 80 * q := h.1; subst e1; exact Sy.J40_step HJ.out hds z1 z2 z3 z4 p s)
              clear hM
              by_cases hlt3 : B ≤ N
              · have hAM : A < M := by have := HM.out; omega
                have hMB : M < B := by have := HM.out; have := HA.out; omega
                go_wp2_with fail
                refine (HMrg.out A M B dk _ (by have := HA.out; omega) (by have := HA.out; omega) (by have := HA.out; omega) hds S1.out (HPa.out B hlt3 (by have := HA.out; omega) (by have := HA.out; omega)).1 (HPa.out B hlt3 (by have := HA.out; omega) (by have := HA.out; omega)).2.1 (HPa.out B hlt3 (by have := HA.out; omega) (by have := HA.out; omega)).2.2).mono ?_
                rintro e w1 ⟨rfl, d', S', z', P', Q'⟩
                have S2 := Lib.hid S'
                have P2 := Lib.hid P'
                have Q2 := Lib.hid Q'
                clear S' P' Q' S1
                go_wp2_with fail
                go_roundg (gk - 1)
                case measure => have := HA.out; omega
                case rel => exact ⟨B, B + 80, q + 1, d', rfl, by go_num, ⟨by have := HA.out; omega, rfl, hlt3, by have := HA.out; omega⟩, z', S2.out, permIn_trans _ _ _ 0 N HP.out (permIn_mono _ _ A B 0 N (Nat.zero_le _) hlt3 (by omega) P2.out),
                  HSt.out B d' hlt3 (by have := HA.out; omega) (by have := HA.out; omega) (.inl (by have := HA.out; omega)) P2.out Q2.out⟩
              · by_cases hlt4 : M < N
                · have hAM : A < M := by have := HM.out; omega
                  go_wp2_with fail
                  refine (HMrg.out A M N dk _ (by have := HA.out; omega) (by have := HA.out; omega) (by have := HA.out; omega) hds S1.out (HPa.out N (Nat.le_refl _) (by have := HM.out; omega) (by have := HA.out; omega)).1 (HPa.out N (Nat.le_refl _) (by have := HM.out; omega) (by have := HA.out; omega)).2.1 (HPa.out N (Nat.le_refl _) (by have := HM.out; omega) (by have := HA.out; omega)).2.2).mono ?_
                  rintro e w1 ⟨rfl, d', S', z', P', Q'⟩
                  have S2 := Lib.hid S'
                  have P2 := Lib.hid P'
                  have Q2 := Lib.hid Q'
                  clear S' P' Q' S1
                  have HE := Lib.hid (Sy.J40_end (HSt.out N d' (Nat.le_refl _) (by have := HM.out; omega) (by have := HA.out; omega) (.inr rfl) P2.out Q2.out) (by have := HA.out; omega))
                  go_wp2_with fail
                  go_roundg 1
                  case measure => omega
                  case rel => exact ⟨80, d', by go_num, z', S2.out, permIn_trans _ _ _ 0 N HP.out (permIn_mono _ _ A N 0 N (Nat.zero_le _) (Nat.le_refl _) (by omega) P2.out), .inr (.inr ⟨by go_num, rfl, HE.out.2⟩)⟩
                · have HE := Lib.hid (Sy.J40_end (Sy.J40_idle HJ.out (by have := HM.out; have := HA.out; omega)) (by have := HM.out; have := HA.out; omega))
                  go_wp2_with fail
                  go_roundg 1
                  case measure => omega
                  case rel => exact ⟨80, dk, by go_num, hds, S1.out, HP.out, .inr (.inr ⟨by go_num, rfl, HE.out.2⟩)⟩
          · have HF : Hid (SortedIn Sy.tl 0 N dk) := Lib.hid (fun i j a b c => HJ.out.2.2.2 i j b c (by omega) (by omega))
            go_wp2_with fail
            go_end0
            exact ⟨rfl, dk, S1.out, hds, HP.out, HF.out⟩
        · have HF : Hid (SortedIn Sy.tl 0 N dk) := Lib.hid (fun i j a b c => HJ' i j b c (by omega))
          clear HJ' HK
          have hlt2 : ¬ 80 < N := by omega
          go_wp2_with fail
          go_end0
          exact ⟨rfl, dk, S1.out, hds, HP.out, HF.out⟩

set_option maxHeartbeats 800000 in
set_option maxRecDepth 100000 in
theorem sortStable_any (g : Nat) (cb : Array Value) (blk off cap N : Nat) (d0 : Array Sy.Rec) (w0 : World) (eg : ∀ args w, (callFunc g args).run Tryz.prog w = .ok (.enter g args) w)
    (hcmp : CmpLays Tryz.prog g cb encCm 2 Sy.cf blk off N w0) (R : _root_.Go.Proofs.RowK encCm 2 w0 blk off d0) (hs : d0.size = N) (h64 : N ≤ 64)
    (d : Array Sy.Rec) (w : World) (hN : d.size = N) (S : SWK encCm 2 w0 blk off d w) (ht : ∀ t, t < N → d[t]!.2.2 = t) :
    Calls Tryz.prog 103 #[.slice (some ⟨blk, off, none⟩) N cap, .func (.func g) #[] cb] w fun e w' => e = .returned (.tuple #[]) ∧ ∃ d', SWK encCm 2 w0 blk off d' w' ∧ d'.size = N ∧ PermIn 0 N d d' ∧ SortedIn Sy.tl 0 N d' := by
  have HC := Lib.hid (stable_any g cb blk off cap N d0 w0 eg hcmp R hs h64 d w hN S ht)
  clear hcmp S ht
  go_enter Tryz.func103, Tryz.ntmps103
  go_wp2_with fail
  refine (HC.out).mono ?_
  rintro e w1 ⟨rfl, h⟩
  have H := Lib.hid h
  clear h HC
  go_wp2_with fail
  go_end0
  exact ⟨rfl, H.out⟩
end Go.Proofs.YtppihpjcdieeoaaGreatDoor

/-
  Facts that the walks rest on: CmMerge1, CmMerge2, CmMerge3. No conditions beyond those stated.
-/
import Derived.Test.YtppihpjcdieeoaaGreatDoorPart14
/-
  The contract of the library's merge of two sorted runs of records (slices.symMergeCmpFunc at cmap.record), where the first one has one element. No conditions beyond those stated.
-/
namespace Go.Proofs.YtppihpjcdieeoaaGreatDoor
open Go.RowKit Go.Shelf Go.Lib Go.Sort

set_option maxHeartbeats 1600000 in
set_option maxRecDepth 100000 in
theorem merge_one (g : Nat) (cb : Array Value) (blk off cap N : Nat) (d0 : Array Sy.Rec) (w0 : World) (eg : ∀ args w, (callFunc g args).run Tryz.prog w = .ok (.enter g args) w)
    (hcmp : CmpLays Tryz.prog g cb encCm 2 Sy.cf blk off N w0) (R : _root_.Go.Proofs.RowK encCm 2 w0 blk off d0) (hs : d0.size = N) (hsz : N < 4611686018427387904)
    (a m b : Nat) (d : Array Sy.Rec) (w : World) (hN : d.size = N) (S : SWK encCm 2 w0 blk off d w) (h1 : m = a + 1) (h2 : m < b) (h3 : b ≤ N) (hS : SortedIn Sy.tl m b d) (hA : Sy.Ahead a m b d) :
    Calls Tryz.prog 147 #[.slice (some ⟨blk, off, none⟩) N cap, .int .i64 a, .int .i64 m, .int .i64 b, .func (.func g) #[] cb] w fun e w' => e = .returned (.tuple #[]) ∧ ∃ d', SWK encCm 2 w0 blk off d' w' ∧ d'.size = N ∧ PermIn a b d d' ∧ SortedIn Sy.tl a b d' := by
  have mixed : Tryz.prog.follows .mixedOrders = true := by kernel_rfl
  have S0 : Aside (SWK encCm 2 w0 blk off d w) := S
  have HC : Aside _ := hcmp
  clear S hcmp
  have HSo := Lib.hid (fun (i : Nat) (i1 : m ≤ i) (i2 : i ≤ b) (l1 : i = m ∨ Sy.lt d[i - 1]! d[a]! = true) (l2 : i = b ∨ Sy.lt d[i]! d[a]! = false) =>
    (⟨Sy.up_perm a b (i - 1 - a) a d (Nat.le_refl _) (by omega) (by omega), Sy.up_sorted (i := i) (a := a) (b := b) (d := d) (h1 ▸ hS) (h1 ▸ hA) (by omega) (by omega) i2 (h1 ▸ l1) l2⟩ : PermIn a b d (Sy.up a (i - 1 - a) d) ∧ SortedIn Sy.tl a b (Sy.up a (i - 1 - a) d)))
  clear hS hA
  have q1 : (m : Int) - (a : Int) = 1 := by omega
  have H1 : Aside (m = a + 1) := h1
  have za : (a : Int) < (N : Int) := by omega
  have z1 : a < m := by omega
  clear h1
  go_enter Tryz.func147, Tryz.ntmps147
  go_wp2_with fail
  go_loopg [10, 11] (b - m) (fun kx s10 s11 wr => ∃ (i j : Nat), s10 = .int .i64 i ∧ s11 = .int .i64 j ∧ m ≤ i ∧ i ≤ j ∧ j ≤ b ∧ j - i ≤ kx ∧ Aside (SWK encCm 2 w0 blk off d wr) ∧ Aside ((i = m ∨ Sy.lt d[i - 1]! d[a]! = true) ∧ (j = b ∨ Sy.lt d[j]! d[a]! = false)))
  case atStart => exact ⟨m, b, rfl, rfl, Nat.le_refl _, by omega, Nat.le_refl _, Nat.le_refl _, S0, .inl rfl, .inl rfl⟩
  case round =>
    clear S0
    obtain ⟨i, j, rfl, rfl, hmi, hij, hjb, hk, S1, HQ⟩ := hrel
    by_cases hlt : i < j
    · obtain ⟨h, hh⟩ : ∃ h, h = (i + j) / 2 := ⟨_, rfl⟩
      have eh : ((i : Int) + (j : Int)) / 2 = (h : Int) := by omega
      have b1 : i ≤ h := by omega
      have b2 : h < j := by omega
      have zh : (h : Int) < (N : Int) := by omega
      clear hh
      have la := fun (n : Nat) (os : Array Obj) => (swk_at (S1.out.grown n os) R (by omega) (i := h) (by omega)).1.1
      have lb := fun (n : Nat) (os : Array Obj) => (swk_at (S1.out.grown n os) R (by omega) (i := h) (by omega)).1.2
      have lc := fun (n : Nat) (os : Array Obj) => (swk_at (S1.out.grown n os) R (by omega) (i := a) (by omega)).1.1
      have ld := fun (n : Nat) (os : Array Obj) => (swk_at (S1.out.grown n os) R (by omega) (i := a) (by omega)).1.2
      have hcg := fun (n : Nat) (os : Array Obj) => S1.out.cmp HC.out hN d[h]! d[a]! n os
      unfold encCm at hcg
      have hiff := Sy.lt_iff d[h]! d[a]!
      have hcf : Sy.cf d[h]! d[a]! < 0 ↔ Sy.lt d[h]! d[a]! = true := by unfold Sy.lt; rw [decide_eq_true_eq]
      clear hiff
      have HL : Aside _ := hcf
      clear hcf
      generalize Sy.cf d[h]! d[a]! = c at hcg HL
      generalize hex : d[h]! = ex at la lb hcg
      generalize hey : d[a]! = ey at lc ld hcg
      have HX : Aside _ := hex
      have HY : Aside _ := hey
      clear hex hey
      obtain ⟨x1, x2, x3⟩ := ex
      obtain ⟨y1, y2, y3⟩ := ey
      dsimp only at la lb lc ld hcg
      by_cases hc : c < 0
      · have hcb : decide (c < 0) = true := decide_eq_true hc
        go_wp2_with fail
        go_quiet_grown (first | (go_at_fn g; refine Calls.grown_of (hcg _ _)))
        clear la lb lc ld hcg
        have S3 := Lib.hid (S1.out.grown nq osq)
        clear S1
        generalize grow (wr.drewN nq) osq = wq at S3 ⊢
        go_wp2_with fail
        go_roundg (j - (h + 1))
        case measure => omega
        case rel => exact ⟨h + 1, j, by go_num, rfl, by omega, by omega, hjb, Nat.le_refl _, S3.out, .inr (HL.out.1 hc), HQ.out.2⟩
      · have hcb : decide (c < 0) = false := decide_eq_false hc
        go_wp2_with fail
        go_quiet_grown (first | (go_at_fn g; refine Calls.grown_of (hcg _ _)))
        clear la lb lc ld hcg
        have S3 := Lib.hid (S1.out.grown nq osq)
        clear S1
        generalize grow (wr.drewN nq) osq = wq at S3 ⊢
        go_wp2_with fail
        go_roundg (h - i)
        case measure => omega
        case rel => exact ⟨i, h, rfl, by go_num, hmi, b1, by omega, Nat.le_refl _, S3.out, HQ.out.1, .inr (by cases hl : Sy.lt d[h]! d[a]! with | false => rfl | true => exact absurd (HL.out.2 hl) (by omega))⟩
    · obtain rfl : j = i := by omega
      obtain ⟨P1, P2⟩ := HSo.out j hmi hjb HQ.out.1 HQ.out.2
      have HP : Aside _ := P1
      have HP2 : Aside _ := P2
      clear P1 P2 HSo HQ
      go_wp2_with fail
      go_loopg [13] (j - 1 - a) (fun kx s13 wr2 => ∃ (k : Nat) (dk : Array Sy.Rec), s13 = .int .i64 k ∧ k + kx = j - 1 ∧ dk.size = N ∧ Aside (SWK encCm 2 w0 blk off dk wr2) ∧ Aside (Sy.up k kx dk = Sy.up a (j - 1 - a) d))
      case atStart => exact ⟨a, d, rfl, by omega, hN, S1, rfl⟩
      case round =>
        clear S1
        obtain ⟨k, dk, rfl, hkk, hds, S1, HU⟩ := hrel
        by_cases hlt2 : k < j - 1
        · obtain ⟨ky, rfl⟩ : ∃ ky, gk = ky + 1 := ⟨gk - 1, by omega⟩
          have ltz : (k : Int) < (j : Int) - 1 := by omega
          have ea : ((k : Int) + 1).toNat = k + 1 := by omega
          have pa : (0 : Int) ≤ (k : Int) + 1 := by omega
          have ba : (k : Int) + 1 < (N : Int) := by omega
          have bk : (k : Int) < (N : Int) := by omega
          have ra : IntKind.i64.wrap ((k : Int) + 1) = (k : Int) + 1 := by rw [IntKind.wrap_i64]; omega
          have S2 : Aside (SWK encCm 2 w0 blk off (swp dk (k) (k + 1)) _) := swk_swap S1.out R (k) (k + 1) (by omega) (by omega)
          obtain ⟨⟨la, lb⟩, fa, fb⟩ := swk_at S1.out R (by omega) (i := k) (by omega)
          obtain ⟨⟨lc, ld⟩, fc, fd⟩ := swk_at S1.out R (by omega) (i := k + 1) (by omega)
          generalize dk[k]! = cI at S2 la lb
          generalize dk[k + 1]! = cJ at S2 lc ld
          obtain ⟨x1, x2, x3⟩ := cI
          obtain ⟨y1, y2, y3⟩ := cJ
          dsimp only at S2 la lb lc ld
          clear S1
          go_wp2_with fail
          go_big_region_o
          clear la lb lc ld fa fb fc fd
          go_wp2
          go_roundg ky
          case measure => omega
          case rel => exact ⟨k + 1, swp dk k (k + 1), by go_num, by omega, by rw [size_swp]; exact hds, S2, HU.out⟩
        · obtain rfl : gk = 0 := by omega
          have ltz : ¬ (k : Int) < (j : Int) - 1 := by omega
          go_wp2
          try simp only [Exit.inBlock, Exit.then]
          refine bodyPost_ret (results_none rfl _ _ _) rfl ?_
          refine ⟨rfl, dk, S1.out, hds, ?_, ?_⟩
          · rw [show dk = _ from HU.out]; exact HP.out
          · rw [show dk = _ from HU.out]; exact HP2.out
end Go.Proofs.YtppihpjcdieeoaaGreatDoor
/-
  The contract of the library's merge of two sorted runs of records (slices.symMergeCmpFunc at cmap.record), where the second one has one element. No conditions beyond those stated.
-/
namespace Go.Proofs.YtppihpjcdieeoaaGreatDoor
open Go.RowKit Go.Shelf Go.Lib Go.Sort

set_option maxHeartbeats 1600000 in
set_option maxRecDepth 100000 in
theorem merge_last (g : Nat) (cb : Array Value) (blk off cap N : Nat) (d0 : Array Sy.Rec) (w0 : World) (eg : ∀ args w, (callFunc g args).run Tryz.prog w = .ok (.enter g args) w)
    (hcmp : CmpLays Tryz.prog g cb encCm 2 Sy.cf blk off N w0) (R : _root_.Go.Proofs.RowK encCm 2 w0 blk off d0) (hs : d0.size = N) (hsz : N < 4611686018427387904)
    (a m b : Nat) (d : Array Sy.Rec) (w : World) (hN : d.size = N) (S : SWK encCm 2 w0 blk off d w) (h0 : a + 1 < m) (h1 : b = m + 1) (h3 : b ≤ N) (hS : SortedIn Sy.tl a m d) (hA : Sy.Ahead a m b d) :
    Calls Tryz.prog 147 #[.slice (some ⟨blk, off, none⟩) N cap, .int .i64 a, .int .i64 m, .int .i64 b, .func (.func g) #[] cb] w fun e w' => e = .returned (.tuple #[]) ∧ ∃ d', SWK encCm 2 w0 blk off d' w' ∧ d'.size = N ∧ PermIn a b d d' ∧ SortedIn Sy.tl a b d' := by
  have mixed : Tryz.prog.follows .mixedOrders = true := by kernel_rfl
  have S0 : Aside (SWK encCm 2 w0 blk off d w) := S
  have HC : Aside _ := hcmp
  clear S hcmp
  have HSo := Lib.hid (fun (i : Nat) (i1 : a ≤ i) (i2 : i ≤ m) (l1 : i = a ∨ Sy.lt d[m]! d[i - 1]! = false) (l2 : i = m ∨ Sy.lt d[m]! d[i]! = true) =>
    (⟨Sy.down_perm a b (m - i) m d (by omega) (by omega) (by omega), h1 ▸ Sy.down_sorted (i := i) (a := a) (m := m) (d := d) hS (h1 ▸ hA) (by omega) i1 i2 l1 l2⟩ : PermIn a b d (Sy.down m (m - i) d) ∧ SortedIn Sy.tl a b (Sy.down m (m - i) d)))
  clear hS hA
  have q0 : ((m : Int) - (a : Int) == 1) = false := by simp; omega
  have q1 : (b : Int) - (m : Int) = 1 := by omega
  have H1 : Aside (b = m + 1) := h1
  have za : (m : Int) < (N : Int) := by omega
  have z1 : m < b := by omega
  clear h1
  go_enter Tryz.func147, Tryz.ntmps147
  go_wp2_with fail
  go_loopg [14, 15] (m - a) (fun kx s14 s15 wr => ∃ (i j : Nat), s14 = .int .i64 i ∧ s15 = .int .i64 j ∧ a ≤ i ∧ i ≤ j ∧ j ≤ m ∧ j - i ≤ kx ∧ Aside (SWK encCm 2 w0 blk off d wr) ∧ Aside ((i = a ∨ Sy.lt d[m]! d[i - 1]! = false) ∧ (j = m ∨ Sy.lt d[m]! d[j]! = true)))
  case atStart => exact ⟨a, m, rfl, rfl, Nat.le_refl _, by omega, Nat.le_refl _, Nat.le_refl _, S0, .inl rfl, .inl rfl⟩
  case round =>
    clear S0
    obtain ⟨i, j, rfl, rfl, hmi, hij, hjb, hk, S1, HQ⟩ := hrel
    by_cases hlt : i < j
    · obtain ⟨h, hh⟩ : ∃ h, h = (i + j) / 2 := ⟨_, rfl⟩
      have eh : ((i : Int) + (j : Int)) / 2 = (h : Int) := by omega
      have b1 : i ≤ h := by omega
      have b2 : h < j := by omega
      have zh : (h : Int) < (N : Int) := by omega
      clear hh
      have la := fun (n : Nat) (os : Array Obj) => (swk_at (S1.out.grown n os) R (by omega) (i := m) (by omega)).1.1
      have lb := fun (n : Nat) (os : Array Obj) => (swk_at (S1.out.grown n os) R (by omega) (i := m) (by omega)).1.2
      have lc := fun (n : Nat) (os : Array Obj) => (swk_at (S1.out.grown n os) R (by omega) (i := h) (by omega)).1.1
      have ld := fun (n : Nat) (os : Array Obj) => (swk_at (S1.out.grown n os) R (by omega) (i := h) (by omega)).1.2
      have hcg := fun (n : Nat) (os : Array Obj) => S1.out.cmp HC.out hN d[m]! d[h]! n os
      unfold encCm at hcg
      have hcf : Sy.cf d[m]! d[h]! < 0 ↔ Sy.lt d[m]! d[h]! = true := by unfold Sy.lt; rw [decide_eq_true_eq]
      have HL : Aside _ := hcf
      clear hcf
      generalize Sy.cf d[m]! d[h]! = c at hcg HL
      generalize hex : d[m]! = ex at la lb hcg
      generalize hey : d[h]! = ey at lc ld hcg
      have HX : Aside _ := hex
      have HY : Aside _ := hey
      clear hex hey
      obtain ⟨x1, x2, x3⟩ := ex
      obtain ⟨y1, y2, y3⟩ := ey
      dsimp only at la lb lc ld hcg
      by_cases hc : c < 0
      · have hcb : decide (c < 0) = true := decide_eq_true hc
        go_wp2_with fail
        go_quiet_grown (first | (go_at_fn g; refine Calls.grown_of (hcg _ _)))
        clear la lb lc ld hcg
        have S3 := Lib.hid (S1.out.grown nq osq)
        clear S1
        generalize grow (wr.drewN nq) osq = wq at S3 ⊢
        go_wp2_with fail
        go_roundg (h - i)
        case measure => omega
        case rel => exact ⟨i, h, rfl, by go_num, hmi, b1, by omega, Nat.le_refl _, S3.out, HQ.out.1, .inr (HL.out.1 hc)⟩
      · have hcb : decide (c < 0) = false := decide_eq_false hc
        go_wp2_with fail
        go_quiet_grown (first | (go_at_fn g; refine Calls.grown_of (hcg _ _)))
        clear la lb lc ld hcg
        have S3 := Lib.hid (S1.out.grown nq osq)
        clear S1
        generalize grow (wr.drewN nq) osq = wq at S3 ⊢
        go_wp2_with fail
        go_roundg (j - (h + 1))
        case measure => omega
        case rel => exact ⟨h + 1, j, by go_num, rfl, by omega, by omega, hjb, Nat.le_refl _, S3.out, .inr (by show Sy.lt d[m]! d[h]! = false; cases hl : Sy.lt d[m]! d[h]! with | false => rfl | true => exact absurd (HL.out.2 hl) (by omega)), HQ.out.2⟩
    · obtain rfl : j = i := by omega
      obtain ⟨P1, P2⟩ := HSo.out j hmi hjb HQ.out.1 HQ.out.2
      have HP : Aside _ := P1
      have HP2 : Aside _ := P2
      clear P1 P2 HSo HQ
      go_wp2_with fail
      go_loopg [17] (m - j) (fun kx s17 wr2 => ∃ (k : Nat) (dk : Array Sy.Rec), s17 = .int .i64 k ∧ j + kx = k ∧ k ≤ m ∧ dk.size = N ∧ Aside (SWK encCm 2 w0 blk off dk wr2) ∧ Aside (Sy.down k kx dk = Sy.down m (m - j) d))
      case atStart => exact ⟨m, d, rfl, by omega, Nat.le_refl _, hN, S1, rfl⟩
      case round =>
        clear S1
        obtain ⟨k, dk, rfl, hkk, hkm, hds, S1, HU⟩ := hrel
        by_cases hlt2 : j < k
        · obtain ⟨ky, rfl⟩ : ∃ ky, gk = ky + 1 := ⟨gk - 1, by omega⟩
          obtain ⟨kp, rfl⟩ : ∃ kp, k = kp + 1 := ⟨k - 1, by omega⟩
          have ltz : (j : Int) < (kp : Int) + 1 := by omega
          have ea : ((kp : Int) + 1).toNat = kp + 1 := by omega
          have pa : (0 : Int) ≤ (kp : Int) + 1 := by omega
          have ba : (kp : Int) + 1 < (N : Int) := by omega
          have bk : (kp : Int) < (N : Int) := by omega
          have ra : IntKind.i64.wrap (kp : Int) = (kp : Int) := by rw [IntKind.wrap_i64]; omega
          have S2 : Aside (SWK encCm 2 w0 blk off (swp dk (kp + 1) (kp)) _) := swk_swap S1.out R (kp + 1) (kp) (by omega) (by omega)
          obtain ⟨⟨la, lb⟩, fa, fb⟩ := swk_at S1.out R (by omega) (i := kp + 1) (by omega)
          obtain ⟨⟨lc, ld⟩, fc, fd⟩ := swk_at S1.out R (by omega) (i := kp) (by omega)
          generalize dk[kp + 1]! = cI at S2 la lb
          generalize dk[kp]! = cJ at S2 lc ld
          obtain ⟨x1, x2, x3⟩ := cI
          obtain ⟨y1, y2, y3⟩ := cJ
          dsimp only at S2 la lb lc ld
          clear S1
          go_wp2_with fail
          go_big_region_o
          clear la lb lc ld fa fb fc fd
          go_wp2
          go_roundg ky
          case measure => omega
          case rel => exact ⟨kp, swp dk (kp + 1) kp, by go_num, by omega, by omega, by rw [size_swp]; exact hds, S2, HU.out⟩
        · obtain rfl : gk = 0 := by omega
          have ltz : ¬ (j : Int) < (k : Int) := by omega
          go_wp2
          try simp only [Exit.inBlock, Exit.then]
          refine bodyPost_ret (results_none rfl _ _ _) rfl ?_
          refine ⟨rfl, dk, S1.out, hds, ?_, ?_⟩
          · rw [show dk = _ from HU.out]; exact HP.out
          · rw [show dk = _ from HU.out]; exact HP2.out
end Go.Proofs.YtppihpjcdieeoaaGreatDoor
/-
  The contract of the library's merge of two sorted runs of records (slices.symMergeCmpFunc at cmap.record), where both have two elements or more and the middle is in the first. No conditions beyond those stated.
-/
namespace Go.Proofs.YtppihpjcdieeoaaGreatDoor
open Go.RowKit Go.Shelf Go.Lib Go.Sort

set_option maxHeartbeats 3200000 in
set_option maxRecDepth 100000 in
theorem merge_left (g : Nat) (cb : Array Value) (blk off cap N : Nat) (d0 : Array Sy.Rec) (w0 : World) (eg : ∀ args w, (callFunc g args).run Tryz.prog w = .ok (.enter g args) w)
    (hcmp : CmpLays Tryz.prog g cb encCm 2 Sy.cf blk off N w0) (R : _root_.Go.Proofs.RowK encCm 2 w0 blk off d0) (hs : d0.size = N) (hsz : N < 4611686018427387904)
    (a m b mid : Nat) (d : Array Sy.Rec) (w : World) (hN : d.size = N) (S : SWK encCm 2 w0 blk off d w) (h0 : a + 1 < m) (h1 : m + 1 < b) (hbN : b ≤ N) (hS1 : SortedIn Sy.tl a m d) (hS2 : SortedIn Sy.tl m b d) (hA : Sy.Ahead a m b d) (hmid : mid = (a + b) / 2) (hmm : mid < m)
    (HI0 : ∀ (x y z : Nat) (e : Array Sy.Rec) (W : World), x < y → y < z → z ≤ N → z - x < b - a → e.size = N → SWK encCm 2 w0 blk off e W → SortedIn Sy.tl x y e → SortedIn Sy.tl y z e → Sy.Ahead x y z e → Calls Tryz.prog 147 #[.slice (some ⟨blk, off, none⟩) N cap, .int .i64 x, .int .i64 y, .int .i64 z, .func (.func g) #[] cb] W fun e' w' => e' = .returned (.tuple #[]) ∧ ∃ d', SWK encCm 2 w0 blk off d' w' ∧ d'.size = N ∧ PermIn x z e d' ∧ SortedIn Sy.tl x z d') :
    Calls Tryz.prog 147 #[.slice (some ⟨blk, off, none⟩) N cap, .int .i64 a, .int .i64 m, .int .i64 b, .func (.func g) #[] cb] w fun e w' => e = .returned (.tuple #[]) ∧ ∃ d', SWK encCm 2 w0 blk off d' w' ∧ d'.size = N ∧ PermIn a b d d' ∧ SortedIn Sy.tl a b d' := by
  have mixed : Tryz.prog.follows .mixedOrders = true := by kernel_rfl
  have S0 : Aside (SWK encCm 2 w0 blk off d w) := S
  have HC : Aside _ := hcmp
  clear S hcmp
  have HR := Lib.hid (fun (i en : Nat) (e : Array Sy.Rec) (W : World) (he : e.size = N) (hS : SWK encCm 2 w0 blk off e W) (i1 : i < m) (i2 : m < en) (i3 : en ≤ b) => rotate_any g cb blk off cap N i m en d0 e w0 W R hs he hS i1 i2 (by omega) hsz)
  have HI := Lib.hid HI0
  clear HI0
  have HSo : Hid (∀ (i en : Nat), a ≤ i → i ≤ m → m ≤ en → en ≤ b → i + en = mid + m → (i = a ∨ en = b ∨ Sy.lt d[en]! d[i - 1]! = false) → (i = m ∨ en = m ∨ Sy.lt d[en - 1]! d[i]! = true) →
      ∀ d1 : Array Sy.Rec, (∀ t, d1[t]! = Sy.rsp m (m - i) (en - m) d t) → PermIn i en d d1 → d1.size = N →
      SortedIn Sy.tl a i d1 ∧ SortedIn Sy.tl i mid d1 ∧ Sy.Ahead a i mid d1 ∧ SortedIn Sy.tl mid en d1 ∧ SortedIn Sy.tl en b d1 ∧ Sy.Ahead mid en b d1 ∧
        ∀ d2 d3, PermIn a mid d1 d2 → SortedIn Sy.tl a mid d2 → PermIn mid b d2 d3 → SortedIn Sy.tl mid b d3 → PermIn a b d d3 ∧ SortedIn Sy.tl a b d3) :=
    Lib.hid (fun i en i1 i2 i3 i4 i5 i6 i7 d1 hd hp hz => by
      obtain ⟨k1, k2, k3, k4, k5, k6⟩ := Sy.halves hS1 hS2 hA i1 i2 i3 i4 i5 hd
      refine ⟨k1, k2, k3, k4, k5, k6, fun d2 d3 p2 s2 p3 s3 => ?_⟩
      obtain ⟨q1, q2⟩ := Sy.halves_whole (by omega) (by omega) (by omega) (Sy.halves_apart hS1 hS2 hA i1 i2 i3 i4 i5 hd i6 i7) p2 s2 p3 s3
      exact ⟨permIn_trans _ _ _ a b (permIn_mono d d1 i en a b i1 i4 (by omega) hp) q1, q2⟩)
  clear hS1 hS2 hA
  have q0 : ((m : Int) - (a : Int) == 1) = false := by simp; omega
  have q1 : ((b : Int) - (m : Int) == 1) = false := by simp; omega
  have m1 : a + b ≤ 2 * mid + 1 := by omega
  have m2 : 2 * mid ≤ a + b := by omega
  have emid : ((a : Int) + (b : Int)) / 2 = (mid : Int) := by omega
  have est : (mid : Int) + (m : Int) - (b : Int) = ((mid + m - b : Nat) : Int) := by omega
  obtain ⟨pp, hpp⟩ : ∃ pp, mid + m = pp + 1 := ⟨mid + m - 1, by omega⟩
  have ep : (mid : Int) + (m : Int) - 1 = (pp : Int) := by omega
  have HPP : Aside _ := hpp
  have HMid : Aside _ := hmid
  clear hmid hpp
  go_enter Tryz.func147, Tryz.ntmps147
  go_wp2_with fail
  go_loopg [20, 21] (m + b) (fun kx s20 s21 wr => ∃ (i j : Nat), s20 = .int .i64 i ∧ s21 = .int .i64 j ∧ (mid + m - b) ≤ i ∧ i ≤ j ∧ j ≤ mid ∧ j - i ≤ kx ∧ Aside (SWK encCm 2 w0 blk off d wr) ∧ Aside ((i = (mid + m - b) ∨ Sy.lt d[pp + 1 - i]! d[i - 1]! = false) ∧ (j = mid ∨ Sy.lt d[pp - j]! d[j]! = true)))
  case atStart => exact ⟨(mid + m - b), mid, by go_num, rfl, Nat.le_refl _, by omega, Nat.le_refl _, by omega, S0, .inl rfl, .inl rfl⟩
  case round =>
    clear S0
    obtain ⟨i, j, rfl, rfl, hmi, hij, hjb, hk, S1, HQ⟩ := hrel
    have hpp := HPP.out
    by_cases hlt : i < j
    · clear HR HSo HI
      obtain ⟨h, hh⟩ : ∃ h, h = (i + j) / 2 := ⟨_, rfl⟩
      have eh : ((i : Int) + (j : Int)) / 2 = (h : Int) := by omega
      have b1 : i ≤ h := by omega
      have b2 : h < j := by omega
      obtain ⟨px, hpx⟩ : ∃ px, px = pp - h := ⟨_, rfl⟩
      have epx : (pp : Int) - (h : Int) = (px : Int) := by omega
      have bpx : px < N := by omega
      have zh : (h : Int) < (N : Int) := by omega
      have zp : (px : Int) < (N : Int) := by omega
      have rp : IntKind.i64.wrap (px : Int) = (px : Int) := by rw [IntKind.wrap_i64]; omega
      have hpx2 : pp + 1 - (h + 1) = px := by omega
      have HPX : Aside (pp - h = px ∧ pp + 1 - (h + 1) = px) := ⟨hpx.symm, hpx2⟩
      clear hh hpx hpx2 hpp
      have la := fun (n : Nat) (os : Array Obj) => (swk_at (S1.out.grown n os) R (by omega) (i := px) (by omega)).1.1
      have lb := fun (n : Nat) (os : Array Obj) => (swk_at (S1.out.grown n os) R (by omega) (i := px) (by omega)).1.2
      have lc := fun (n : Nat) (os : Array Obj) => (swk_at (S1.out.grown n os) R (by omega) (i := h) (by omega)).1.1
      have ld := fun (n : Nat) (os : Array Obj) => (swk_at (S1.out.grown n os) R (by omega) (i := h) (by omega)).1.2
      have hcg := fun (n : Nat) (os : Array Obj) => S1.out.cmp HC.out hN d[px]! d[h]! n os
      unfold encCm at hcg
      have hcf : Sy.cf d[px]! d[h]! < 0 ↔ Sy.lt d[px]! d[h]! = true := by unfold Sy.lt; rw [decide_eq_true_eq]
      have HL : Aside _ := hcf
      clear hcf
      generalize Sy.cf d[px]! d[h]! = c at hcg HL
      generalize hex : d[px]! = ex at la lb hcg
      generalize hey : d[h]! = ey at lc ld hcg
      clear hex hey
      obtain ⟨x1, x2, x3⟩ := ex
      obtain ⟨y1, y2, y3⟩ := ey
      dsimp only at la lb lc ld hcg
      by_cases hc : c < 0
      · have hcb : decide (c < 0) = true := decide_eq_true hc
        go_wp2_with fail
        go_quiet_grown (first | (go_at_fn g; refine Calls.grown_of (hcg _ _)))
        clear la lb lc ld hcg
        have S3 := Lib.hid (S1.out.grown nq osq)
        clear S1
        generalize grow (wr.drewN nq) osq = wq at S3 ⊢
        go_wp2_with fail
        go_roundg (h - i)
        case measure => omega
        case rel => exact ⟨i, h, rfl, by go_num, hmi, b1, by omega, Nat.le_refl _, S3.out, HQ.out.1, .inr (by rw [HPX.out.1]; exact HL.out.1 hc)⟩
      · have hcb : decide (c < 0) = false := decide_eq_false hc
        go_wp2_with fail
        go_quiet_grown (first | (go_at_fn g; refine Calls.grown_of (hcg _ _)))
        clear la lb lc ld hcg
        have S3 := Lib.hid (S1.out.grown nq osq)
        clear S1
        generalize grow (wr.drewN nq) osq = wq at S3 ⊢
        go_wp2_with fail
        go_roundg (j - (h + 1))
        case measure => omega
        case rel => exact ⟨h + 1, j, by go_num, rfl, by omega, by omega, hjb, Nat.le_refl _, S3.out, .inr (by rw [HPX.out.2]; show Sy.lt d[px]! d[h]! = false; cases hl : Sy.lt d[px]! d[h]! with | false => rfl | true => exact absurd (HL.out.2 hl) (by omega)), HQ.out.2⟩
    · obtain rfl : i = j := by omega
      obtain ⟨en, hen⟩ : ∃ en, en = pp + 1 - i := ⟨_, rfl⟩
      have een : (mid : Int) + (m : Int) - (i : Int) = (en : Int) := by omega
      have hie : i + en = mid + m := by omega
      have hai : a ≤ i := by omega
      have him : i ≤ m := by omega
      have hme : m ≤ en := by omega
      have heb : en ≤ b := by omega
      have HFin := Lib.hid (HSo.out i en hai him hme heb hie
        (by
          rcases HQ.out.1 with h | h
          · exact .inr (.inl (by omega))
          · exact .inr (.inr (by rw [hen]; exact h)))
        (by
          rcases HQ.out.2 with h | h
          · exact .inr (.inl (by omega))
          · exact .inr (.inr (by rw [show en - 1 = pp - i by omega]; exact h))))
      have HIE : Aside (i + en = mid + m) := hie
      clear HSo HQ hen hpp hie hij
      have hie2 : (i : Int) + (en : Int) = (mid : Int) + (m : Int) := by have := HIE.out; omega
      clear hie2
      by_cases r1 : i < m
      · by_cases r2 : m < en
        · have r3 : i < mid := by have := HIE.out; omega
          have r4 : mid < en := by have := HIE.out; omega
          by_cases a1 : a < i
          · by_cases b1 : en < b
            · go_wp2_with fail
              refine (HR.out i en d _ hN S1.out (by have := HIE.out; omega) (by have := HIE.out; omega) heb).mono ?_
              rintro e w1 ⟨rfl, d1, S', z1, P1', Q1'⟩
              have T1 := Lib.hid S'
              have P1 := Lib.hid P1'
              have Q1 := Lib.hid Q1'
              clear S' P1' Q1'
              have HF := Lib.hid (HFin.out d1 Q1.out P1.out z1)
              clear S1 HFin HR
              go_wp2_with fail
              refine (HI.out a i mid d1 _ (by have := HIE.out; omega) (by have := HIE.out; omega) (by have := HIE.out; omega) (by have := HIE.out; omega) z1 T1.out HF.out.1 HF.out.2.1 HF.out.2.2.1).mono ?_
              rintro e w1 ⟨rfl, d2, S', z2, P2', Q2'⟩
              have T2 := Lib.hid S'
              have P2 := Lib.hid P2'
              have Q2 := Lib.hid Q2'
              clear S' P2' Q2'
              clear T1
              go_wp2_with fail
              refine (HI.out mid en b d2 _ (by have := HIE.out; omega) (by have := HIE.out; omega) hbN (by have := HIE.out; omega) z2 T2.out (Sy.srt_same HF.out.2.2.2.1 (fun t h _ => P2.out.2.1 t (.inr h))) (Sy.srt_same HF.out.2.2.2.2.1 (fun t h _ => P2.out.2.1 t (.inr (by have := HIE.out; omega)))) (fun p q h1 h2 h3 h4 => by rw [P2.out.2.1 p (.inr h1), P2.out.2.1 q (.inr (by have := HIE.out; omega))]; exact HF.out.2.2.2.2.2.1 p q h1 h2 h3 h4)).mono ?_
              rintro e w1 ⟨rfl, d3, S', z3, P3', Q3'⟩
              have T3 := Lib.hid S'
              have P3 := Lib.hid P3'
              have Q3 := Lib.hid Q3'
              clear S' P3' Q3'
              have HE := Lib.hid (HF.out.2.2.2.2.2.2 d2 d3 P2.out Q2.out P3.out Q3.out)
              clear HF P2 Q2 P3 Q3
              go_wp2_with fail
              go_end0
              exact ⟨rfl, d3, T3.out, z3, HE.out.1, HE.out.2⟩
            · go_wp2_with fail
              refine (HR.out i en d _ hN S1.out (by have := HIE.out; omega) (by have := HIE.out; omega) heb).mono ?_
              rintro e w1 ⟨rfl, d1, S', z1, P1', Q1'⟩
              have T1 := Lib.hid S'
              have P1 := Lib.hid P1'
              have Q1 := Lib.hid Q1'
              clear S' P1' Q1'
              have HF := Lib.hid (HFin.out d1 Q1.out P1.out z1)
              clear S1 HFin HR
              go_wp2_with fail
              refine (HI.out a i mid d1 _ (by have := HIE.out; omega) (by have := HIE.out; omega) (by have := HIE.out; omega) (by have := HIE.out; omega) z1 T1.out HF.out.1 HF.out.2.1 HF.out.2.2.1).mono ?_
              rintro e w1 ⟨rfl, d2, S', z2, P2', Q2'⟩
              have T2 := Lib.hid S'
              have P2 := Lib.hid P2'
              have Q2 := Lib.hid Q2'
              clear S' P2' Q2'
              clear T1
              have P3 : Hid (PermIn mid b d2 d2) := Lib.hid (permIn_refl d2 mid b)
              have T3 := Lib.hid T2.out
              have z3 := z2
              have Q3 : Hid (SortedIn Sy.tl mid b d2) := Lib.hid (Sy.srt_same (Sy.srt_part HF.out.2.2.2.1 (Nat.le_refl _) (by have := HIE.out; omega)) (fun t h _ => P2.out.2.1 t (.inr h)))
              have HE := Lib.hid (HF.out.2.2.2.2.2.2 d2 d2 P2.out Q2.out P3.out Q3.out)
              clear HF P2 Q2 P3 Q3
              go_wp2_with fail
              go_end0
              exact ⟨rfl, d2, T3.out, z3, HE.out.1, HE.out.2⟩
          · by_cases b1 : en < b
            · go_wp2_with fail
              refine (HR.out i en d _ hN S1.out (by have := HIE.out; omega) (by have := HIE.out; omega) heb).mono ?_
              rintro e w1 ⟨rfl, d1, S', z1, P1', Q1'⟩
              have T1 := Lib.hid S'
              have P1 := Lib.hid P1'
              have Q1 := Lib.hid Q1'
              clear S' P1' Q1'
              have HF := Lib.hid (HFin.out d1 Q1.out P1.out z1)
              clear S1 HFin HR
              have P2 : Hid (PermIn a mid d1 d1) := Lib.hid (permIn_refl d1 a mid)
              have T2 := Lib.hid T1.out
              have z2 := z1
              have Q2 : Hid (SortedIn Sy.tl a mid d1) := Lib.hid (Sy.srt_part HF.out.2.1 (by have := HIE.out; omega) (Nat.le_refl _))
              clear T1
              go_wp2_with fail
              refine (HI.out mid en b d1 _ (by have := HIE.out; omega) (by have := HIE.out; omega) hbN (by have := HIE.out; omega) z2 T2.out (Sy.srt_same HF.out.2.2.2.1 (fun t h _ => P2.out.2.1 t (.inr h))) (Sy.srt_same HF.out.2.2.2.2.1 (fun t h _ => P2.out.2.1 t (.inr (by have := HIE.out; omega)))) (fun p q h1 h2 h3 h4 => by rw [P2.out.2.1 p (.inr h1), P2.out.2.1 q (.inr (by have := HIE.out; omega))]; exact HF.out.2.2.2.2.2.1 p q h1 h2 h3 h4)).mono ?_
              rintro e w1 ⟨rfl, d3, S', z3, P3', Q3'⟩
              have T3 := Lib.hid S'
              have P3 := Lib.hid P3'
              have Q3 := Lib.hid Q3'
              clear S' P3' Q3'
              have HE := Lib.hid (HF.out.2.2.2.2.2.2 d1 d3 P2.out Q2.out P3.out Q3.out)
              clear HF P2 Q2 P3 Q3
              go_wp2_with fail
              go_end0
              exact ⟨rfl, d3, T3.out, z3, HE.out.1, HE.out.2⟩
            · go_wp2_with fail
              refine (HR.out i en d _ hN S1.out (by have := HIE.out; omega) (by have := HIE.out; omega) heb).mono ?_
              rintro e w1 ⟨rfl, d1, S', z1, P1', Q1'⟩
              have T1 := Lib.hid S'
              have P1 := Lib.hid P1'
              have Q1 := Lib.hid Q1'
              clear S' P1' Q1'
              have HF := Lib.hid (HFin.out d1 Q1.out P1.out z1)
              clear S1 HFin HR
              have P2 : Hid (PermIn a mid d1 d1) := Lib.hid (permIn_refl d1 a mid)
              have T2 := Lib.hid T1.out
              have z2 := z1
              have Q2 : Hid (SortedIn Sy.tl a mid d1) := Lib.hid (Sy.srt_part HF.out.2.1 (by have := HIE.out; omega) (Nat.le_refl _))
              clear T1
              have P3 : Hid (PermIn mid b d1 d1) := Lib.hid (permIn_refl d1 mid b)
              have T3 := Lib.hid T2.out
              have z3 := z2
              have Q3 : Hid (SortedIn Sy.tl mid b d1) := Lib.hid (Sy.srt_same (Sy.srt_part HF.out.2.2.2.1 (Nat.le_refl _) (by have := HIE.out; omega)) (fun t h _ => P2.out.2.1 t (.inr h)))
              have HE := Lib.hid (HF.out.2.2.2.2.2.2 d1 d1 P2.out Q2.out P3.out Q3.out)
              clear HF P2 Q2 P3 Q3
              go_wp2_with fail
              go_end0
              exact ⟨rfl, d1, T3.out, z3, HE.out.1, HE.out.2⟩
        · have r3 : ¬ i < mid := by have := HIE.out; omega
          have r4 : mid < en := by have := HIE.out; omega
          have r5 : en < b := by omega
          by_cases a1 : a < i
          · have HF := Lib.hid (HFin.out d (fun t => (Sy.rsp_none (by have := HIE.out; omega) t).symm) (permIn_refl d i en) hN)
            have T1 := Lib.hid S1.out
            have z1 := hN
            clear S1 HFin HR
            have P2 : Hid (PermIn a mid d d) := Lib.hid (permIn_refl d a mid)
            have T2 := Lib.hid T1.out
            have z2 := z1
            have Q2 : Hid (SortedIn Sy.tl a mid d) := Lib.hid (Sy.srt_part HF.out.1 (Nat.le_refl _) (by have := HIE.out; omega))
            clear T1
            go_wp2_with fail
            refine (HI.out mid en b d _ (by have := HIE.out; omega) (by have := HIE.out; omega) hbN (by have := HIE.out; omega) z2 T2.out (Sy.srt_same HF.out.2.2.2.1 (fun t h _ => P2.out.2.1 t (.inr h))) (Sy.srt_same HF.out.2.2.2.2.1 (fun t h _ => P2.out.2.1 t (.inr (by have := HIE.out; omega)))) (fun p q h1 h2 h3 h4 => by rw [P2.out.2.1 p (.inr h1), P2.out.2.1 q (.inr (by have := HIE.out; omega))]; exact HF.out.2.2.2.2.2.1 p q h1 h2 h3 h4)).mono ?_
            rintro e w1 ⟨rfl, d3, S', z3, P3', Q3'⟩
            have T3 := Lib.hid S'
            have P3 := Lib.hid P3'
            have Q3 := Lib.hid Q3'
            clear S' P3' Q3'
            have HE := Lib.hid (HF.out.2.2.2.2.2.2 d d3 P2.out Q2.out P3.out Q3.out)
            clear HF P2 Q2 P3 Q3
            go_wp2_with fail
            go_end0
            exact ⟨rfl, d3, T3.out, z3, HE.out.1, HE.out.2⟩
          · have HF := Lib.hid (HFin.out d (fun t => (Sy.rsp_none (by have := HIE.out; omega) t).symm) (permIn_refl d i en) hN)
            have T1 := Lib.hid S1.out
            have z1 := hN
            clear S1 HFin HR
            have P2 : Hid (PermIn a mid d d) := Lib.hid (permIn_refl d a mid)
            have T2 := Lib.hid T1.out
            have z2 := z1
            have Q2 : Hid (SortedIn Sy.tl a mid d) := Lib.hid (Sy.srt_part HF.out.2.1 (by have := HIE.out; omega) (Nat.le_refl _))
            clear T1
            go_wp2_with fail
            refine (HI.out mid en b d _ (by have := HIE.out; omega) (by have := HIE.out; omega) hbN (by have := HIE.out; omega) z2 T2.out (Sy.srt_same HF.out.2.2.2.1 (fun t h _ => P2.out.2.1 t (.inr h))) (Sy.srt_same HF.out.2.2.2.2.1 (fun t h _ => P2.out.2.1 t (.inr (by have := HIE.out; omega)))) (fun p q h1 h2 h3 h4 => by rw [P2.out.2.1 p (.inr h1), P2.out.2.1 q (.inr (by have := HIE.out; omega))]; exact HF.out.2.2.2.2.2.1 p q h1 h2 h3 h4)).mono ?_
            rintro e w1 ⟨rfl, d3, S', z3, P3', Q3'⟩
            have T3 := Lib.hid S'
            have P3 := Lib.hid P3'
            have Q3 := Lib.hid Q3'
            clear S' P3' Q3'
            have HE := Lib.hid (HF.out.2.2.2.2.2.2 d d3 P2.out Q2.out P3.out Q3.out)
            clear HF P2 Q2 P3 Q3
            go_wp2_with fail
            go_end0
            exact ⟨rfl, d3, T3.out, z3, HE.out.1, HE.out.2⟩
      · have r4 : ¬ mid < en := by have := HIE.out; omega
        have a1 : a < i := by omega
        by_cases a2 : i < mid
        · have HF := Lib.hid (HFin.out d (fun t => (Sy.rsp_none (by have := HIE.out; omega) t).symm) (permIn_refl d i en) hN)
          have T1 := Lib.hid S1.out
          have z1 := hN
          clear S1 HFin HR
          go_wp2_with fail
          refine (HI.out a i mid d _ (by have := HIE.out; omega) (by have := HIE.out; omega) (by have := HIE.out; omega) (by have := HIE.out; omega) z1 T1.out HF.out.1 HF.out.2.1 HF.out.2.2.1).mono ?_
          rintro e w1 ⟨rfl, d2, S', z2, P2', Q2'⟩
          have T2 := Lib.hid S'
          have P2 := Lib.hid P2'
          have Q2 := Lib.hid Q2'
          clear S' P2' Q2'
          clear T1
          have P3 : Hid (PermIn mid b d2 d2) := Lib.hid (permIn_refl d2 mid b)
          have T3 := Lib.hid T2.out
          have z3 := z2
          have Q3 : Hid (SortedIn Sy.tl mid b d2) := Lib.hid (Sy.srt_same (Sy.srt_part HF.out.2.2.2.2.1 (by have := HIE.out; omega) (Nat.le_refl _)) (fun t h _ => P2.out.2.1 t (.inr h)))
          have HE := Lib.hid (HF.out.2.2.2.2.2.2 d2 d2 P2.out Q2.out P3.out Q3.out)
          clear HF P2 Q2 P3 Q3
          go_wp2_with fail
          go_end0
          exact ⟨rfl, d2, T3.out, z3, HE.out.1, HE.out.2⟩
        · have HF := Lib.hid (HFin.out d (fun t => (Sy.rsp_none (by have := HIE.out; omega) t).symm) (permIn_refl d i en) hN)
          have T1 := Lib.hid S1.out
          have z1 := hN
          clear S1 HFin HR
          have P2 : Hid (PermIn a mid d d) := Lib.hid (permIn_refl d a mid)
          have T2 := Lib.hid T1.out
          have z2 := z1
          have Q2 : Hid (SortedIn Sy.tl a mid d) := Lib.hid (Sy.srt_part HF.out.1 (Nat.le_refl _) (by have := HIE.out; omega))
          clear T1
          have P3 : Hid (PermIn mid b d d) := Lib.hid (permIn_refl d mid b)
          have T3 := Lib.hid T2.out
          have z3 := z2
          have Q3 : Hid (SortedIn Sy.tl mid b d) := Lib.hid (Sy.srt_same (Sy.srt_part HF.out.2.2.2.2.1 (by have := HIE.out; omega) (Nat.le_refl _)) (fun t h _ => P2.out.2.1 t (.inr h)))
          have HE := Lib.hid (HF.out.2.2.2.2.2.2 d d P2.out Q2.out P3.out Q3.out)
          clear HF P2 Q2 P3 Q3
          go_wp2_with fail
          go_end0
          exact ⟨rfl, d, T3.out, z3, HE.out.1, HE.out.2⟩
end Go.Proofs.YtppihpjcdieeoaaGreatDoor

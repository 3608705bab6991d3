/-
  Facts that the walks rest on: CmRefA, CmRefBest. No conditions beyond those stated.
-/
import Derived.Test.YtppihpjcdieeoaaGreatDoorPart23
import Derived.Test.YtppihpjcdieeoaaGreatDoorPart28
import Derived.Test.YtppihpjcdieeoaaGreatDoorSgRefPut
import Derived.Test.YtppihpjcdieeoaaGreatDoorPart29
import Derived.Test.YtppihpjcdieeoaaGreatDoorGround
import Derived.Test.YtppihpjcdieeoaaGreatDoorPart01
/-
  The contracts of the document's format, write, Put and Glyph (layer 11). No conditions beyond those stated.
-/
namespace Go.Proofs.YtppihpjcdieeoaaGreatDoor
open Go.RowKit Go.Shelf

set_option maxRecDepth 100000 in
set_option maxHeartbeats 1600000 in
theorem rfmt_any (n : Int) (w : World) : Calls Tryz.prog 32 #[.int .i64 n] w fun e w' => e = .returned (.bool (Cm.fmt n)) ∧ w = w' := by
  by_cases c0 : n = 0
  · subst c0
    rw [show Cm.fmt 0 = true from rfl]
    go_enter Tryz.func32, Tryz.ntmps32
    go_wp2_with fail
    go_ret
    exact ⟨rfl, rfl⟩
  by_cases c4 : n = 4
  · subst c4
    rw [show Cm.fmt 4 = true from rfl]
    clear c0
    go_enter Tryz.func32, Tryz.ntmps32
    go_wp2_with fail
    go_ret
    exact ⟨rfl, rfl⟩
  by_cases c6 : n = 6
  · subst c6
    rw [show Cm.fmt 6 = true from rfl]
    clear c0 c4
    go_enter Tryz.func32, Tryz.ntmps32
    go_wp2_with fail
    go_ret
    exact ⟨rfl, rfl⟩
  by_cases c12 : n = 12
  · subst c12
    rw [show Cm.fmt 12 = true from rfl]
    clear c0 c4 c6
    go_enter Tryz.func32, Tryz.ntmps32
    go_wp2_with fail
    go_ret
    exact ⟨rfl, rfl⟩
  by_cases c13 : n = 13
  · subst c13
    rw [show Cm.fmt 13 = true from rfl]
    clear c0 c4 c6 c12
    go_enter Tryz.func32, Tryz.ntmps32
    go_wp2_with fail
    go_ret
    exact ⟨rfl, rfl⟩
  have hf : Cm.fmt n = false := by unfold Cm.fmt; simp [c0, c4, c6, c12, c13]
  rw [hf]
  have n0 : (n == 0) = false := by simpa using c0
  have n4 : (n == 4) = false := by simpa using c4
  have n6 : (n == 6) = false := by simpa using c6
  have n12 : (n == 12) = false := by simpa using c12
  have n13 : (n == 13) = false := by simpa using c13
  clear c0 c4 c6 c12 c13 hf
  go_enter Tryz.func32, Tryz.ntmps32
  go_wp2_with fail
  go_ret
  exact ⟨rfl, rfl⟩

set_option maxRecDepth 100000 in
set_option maxHeartbeats 1600000 in
theorem rwrite_any (v : Value) (l : List Ch.Span) (n : Int) (w : World) (h : SRow w v l) : Calls Tryz.prog 38 #[v, .int .i64 n] w fun e w' => e = strErr (Cm.write l n) ∧ Lo w w' := by
  have H0 := Lib.hid (rputSmall_any v l w h)
  have H6 := Lib.hid (rputTrimmed_any v l w h)
  have H4 := Lib.hid (rput9_any v l w h)
  have H10 := Lib.hid (rgput_any v l n w h)
  obtain ⟨p, cp, rfl, _⟩ := RowK.form h
  clear h
  unfold Cm.write
  unfold strErr at *
  by_cases c0 : n = 0
  · subst c0
    rw [if_pos rfl]
    clear H6 H4 H10
    generalize Ch.putSmall l = a at *
    go_enter Tryz.func38, Tryz.ntmps38
    go_wp2_with fail
    refine (H0.out).mono ?_
    rintro e w2 ⟨rfl, lo⟩
    have HL := Lib.hid lo
    clear lo H0
    go_wp2_with fail
    go_ret2
    exact ⟨rfl, HL.out⟩
  by_cases c6 : n = 6
  · subst c6
    rw [if_neg (by omega), if_pos rfl]
    clear c0 H0 H4 H10
    generalize Ch.putTrimmed l = a at *
    go_enter Tryz.func38, Tryz.ntmps38
    go_wp2_with fail
    refine (H6.out).mono ?_
    rintro e w2 ⟨rfl, lo⟩
    have HL := Lib.hid lo
    clear lo H6
    go_wp2_with fail
    go_ret2
    exact ⟨rfl, HL.out⟩
  by_cases c4 : n = 4
  · subst c4
    rw [if_neg (by omega), if_neg (by omega), if_pos rfl]
    clear c0 c6 H0 H6 H10
    generalize Sg.put l = a at *
    go_enter Tryz.func38, Tryz.ntmps38
    go_wp2_with fail
    refine (H4.out).mono ?_
    rintro e w2 ⟨rfl, lo⟩
    have HL := Lib.hid lo
    clear lo H4
    go_wp2_with fail
    go_ret2
    exact ⟨rfl, HL.out⟩
  rw [if_neg c0, if_neg c6, if_neg c4]
  have n0 : (n == 0) = false := by simpa using c0
  have n4 : (n == 4) = false := by simpa using c4
  have n6 : (n == 6) = false := by simpa using c6
  clear c0 c4 c6 H0 H4 H6
  generalize Gp.put l n = a at *
  go_enter Tryz.func38, Tryz.ntmps38
  go_wp2_with fail
  refine (H10.out).mono ?_
  rintro e w2 ⟨rfl, lo⟩
  have HL := Lib.hid lo
  clear lo H10
  go_wp2_with fail
  go_ret2
  exact ⟨rfl, HL.out⟩

set_option maxRecDepth 100000 in
set_option maxHeartbeats 1600000 in
theorem rcput_any (v : Value) (l : List Ch.Span) (n : Int) (w : World) (h : SRow w v l) : Calls Tryz.prog 13 #[v, .int .i64 n] w fun e w' => e = strErr (Cm.put l n) ∧ Lo w w' := by
  have HF := Lib.hid (rfmt_any n w)
  have HW := Lib.hid (rwrite_any v l n w h)
  obtain ⟨p, cp, rfl, _⟩ := RowK.form h
  clear h
  unfold strErr at *
  cases hf : Cm.fmt n with
  | false =>
    rw [Cm.put_bad hf]
    rw [hf] at HF
    clear hf HW
    go_enter Tryz.func13, Tryz.ntmps13
    go_wp2_with fail
    refine (HF.out).mono ?_
    rintro e w2 ⟨rfl, rfl⟩
    clear HF
    go_wp2_with fail
    go_ret2
    exact ⟨rfl, Lo.refl _⟩
  | true =>
    rw [hf] at HF
    by_cases hw : (Cm.write l n).2 = 0
    · have hlw := Cm.len_write l n
      rw [Cm.put_good hf hw]
      rw [hw] at HW
      clear hw
      generalize (Cm.write l n).1 = s at *
      have hrec := Cm.recFor_len n
      by_cases c0 : n = 0
      · subst c0
        obtain ⟨hd, hh⟩ : ∃ q, q = ([0, 0, 0, 1] ++ [0, 1, 0, 0, 0, 0, 0, 12] : List UInt8) := ⟨_, rfl⟩
        have c1 : (⟨#[0, 0, 0, 1]⟩ : ByteArray) ++ ⟨#[0, 1, 0, 0, 0, 0, 0, 12]⟩ = ⟨hd.toArray⟩ := by rw [hh]; rfl
        have hl : hd.length = 12 := by rw [hh]; rfl
        have e1 : (ByteArray.mk hd.toArray).size = 12 := hl
        have c2 := Gk.cat_list hd s
        have hle : 12 + s.length ≤ 9223372036854775807 := by omega
        rw [show ([0, 0, 0, 1] ++ Cm.recFor 0 : List UInt8) = hd from by rw [hh]; unfold Cm.recFor; first | rfl | (rw [if_pos (by omega)]) | (rw [if_neg (by omega), if_pos (by omega)]) | (rw [if_neg (by omega), if_neg (by omega)])]
        clear hh hl hrec hf
        go_enter Tryz.func13, Tryz.ntmps13
        go_wp2_with fail
        refine (HF.out).mono ?_
        rintro e w2 ⟨rfl, rfl⟩
        clear HF
        go_wp2_with fail
        refine (HW.out).mono ?_
        rintro e w3 ⟨rfl, lo⟩
        have HL := Lib.hid lo
        clear lo HW
        go_wp2_with fail
        go_ret2
        exact ⟨rfl, HL.out⟩
      by_cases c4 : n = 4
      · subst c4
        obtain ⟨hd, hh⟩ : ∃ q, q = ([0, 0, 0, 1] ++ [0, 3, 0, 1, 0, 0, 0, 12] : List UInt8) := ⟨_, rfl⟩
        have c1 : (⟨#[0, 0, 0, 1]⟩ : ByteArray) ++ ⟨#[0, 3, 0, 1, 0, 0, 0, 12]⟩ = ⟨hd.toArray⟩ := by rw [hh]; rfl
        have hl : hd.length = 12 := by rw [hh]; rfl
        have e1 : (ByteArray.mk hd.toArray).size = 12 := hl
        have c2 := Gk.cat_list hd s
        have hle : 12 + s.length ≤ 9223372036854775807 := by omega
        rw [show ([0, 0, 0, 1] ++ Cm.recFor 4 : List UInt8) = hd from by rw [hh]; unfold Cm.recFor; first | rfl | (rw [if_pos (by omega)]) | (rw [if_neg (by omega), if_pos (by omega)]) | (rw [if_neg (by omega), if_neg (by omega)])]
        clear hh hl hrec hf
        go_enter Tryz.func13, Tryz.ntmps13
        go_wp2_with fail
        refine (HF.out).mono ?_
        rintro e w2 ⟨rfl, rfl⟩
        clear HF
        go_wp2_with fail
        refine (HW.out).mono ?_
        rintro e w3 ⟨rfl, lo⟩
        have HL := Lib.hid lo
        clear lo HW
        go_wp2_with fail
        go_ret2
        exact ⟨rfl, HL.out⟩
      by_cases c6 : n = 6
      · subst c6
        obtain ⟨hd, hh⟩ : ∃ q, q = ([0, 0, 0, 1] ++ [0, 3, 0, 1, 0, 0, 0, 12] : List UInt8) := ⟨_, rfl⟩
        have c1 : (⟨#[0, 0, 0, 1]⟩ : ByteArray) ++ ⟨#[0, 3, 0, 1, 0, 0, 0, 12]⟩ = ⟨hd.toArray⟩ := by rw [hh]; rfl
        have hl : hd.length = 12 := by rw [hh]; rfl
        have e1 : (ByteArray.mk hd.toArray).size = 12 := hl
        have c2 := Gk.cat_list hd s
        have hle : 12 + s.length ≤ 9223372036854775807 := by omega
        rw [show ([0, 0, 0, 1] ++ Cm.recFor 6 : List UInt8) = hd from by rw [hh]; unfold Cm.recFor; first | rfl | (rw [if_pos (by omega)]) | (rw [if_neg (by omega), if_pos (by omega)]) | (rw [if_neg (by omega), if_neg (by omega)])]
        clear hh hl hrec hf
        go_enter Tryz.func13, Tryz.ntmps13
        go_wp2_with fail
        refine (HF.out).mono ?_
        rintro e w2 ⟨rfl, rfl⟩
        clear HF
        go_wp2_with fail
        refine (HW.out).mono ?_
        rintro e w3 ⟨rfl, lo⟩
        have HL := Lib.hid lo
        clear lo HW
        go_wp2_with fail
        go_ret2
        exact ⟨rfl, HL.out⟩
      have n0 : (n == 0) = false := by simpa using c0
      have n4 : (n == 4) = false := by simpa using c4
      have n6 : (n == 6) = false := by simpa using c6
      obtain ⟨hd, hh⟩ : ∃ q, q = ([0, 0, 0, 1] ++ [0, 3, 0, 10, 0, 0, 0, 12] : List UInt8) := ⟨_, rfl⟩
      have c1 : (⟨#[0, 0, 0, 1]⟩ : ByteArray) ++ ⟨#[0, 3, 0, 10, 0, 0, 0, 12]⟩ = ⟨hd.toArray⟩ := by rw [hh]; rfl
      have hl : hd.length = 12 := by rw [hh]; rfl
      have e1 : (ByteArray.mk hd.toArray).size = 12 := hl
      have c2 := Gk.cat_list hd s
      have hle : 12 + s.length ≤ 9223372036854775807 := by omega
      rw [show ([0, 0, 0, 1] ++ Cm.recFor n : List UInt8) = hd from by rw [hh]; unfold Cm.recFor; first | rfl | (rw [if_pos (by omega)]) | (rw [if_neg (by omega), if_pos (by omega)]) | (rw [if_neg (by omega), if_neg (by omega)])]
      clear hh hl hrec hf
      go_enter Tryz.func13, Tryz.ntmps13
      go_wp2_with fail
      refine (HF.out).mono ?_
      rintro e w2 ⟨rfl, rfl⟩
      clear HF
      go_wp2_with fail
      refine (HW.out).mono ?_
      rintro e w3 ⟨rfl, lo⟩
      have HL := Lib.hid lo
      clear lo HW
      go_wp2_with fail
      go_ret2
      exact ⟨rfl, HL.out⟩
    · rw [Cm.put_err hf hw]
      generalize Cm.write l n = a at *
      obtain ⟨a1, a2⟩ := a
      dsimp only at *
      have hne : (a2 != 0) = true := by simpa using hw
      clear hw hf
      go_enter Tryz.func13, Tryz.ntmps13
      go_wp2_with fail
      refine (HF.out).mono ?_
      rintro e w2 ⟨rfl, rfl⟩
      clear HF
      go_wp2_with fail
      refine (HW.out).mono ?_
      rintro e w3 ⟨rfl, lo⟩
      have HL := Lib.hid lo
      clear lo HW
      go_wp2_with fail
      go_ret2
      exact ⟨rfl, HL.out⟩

set_option maxHeartbeats 800000 in
theorem rcglyph_any (v : Value) (l : List Ch.Span) (c g : Int) (w : World) (h : SRow w v l) : Calls Tryz.prog 15 #[v, .int .i64 c, .int .i64 g] w fun e w' => e = .returned (.tuple #[.int .i64 (Cm.glyph l c g).1, .int .i64 (Cm.glyph l c g).2]) ∧ Lo w w' := by
  have HI := Lib.hid (fun W hW => ris_any v l W hW)
  have HLk := Lib.hid (fun W hW => rLook_any v l c W hW)
  have HR := Lib.hid h
  obtain ⟨p, cp, rfl, _⟩ := RowK.form h
  clear h
  unfold Cm.glyph
  cases hl : Ch.isL l with
  | false =>
    rw [hl] at HI
    clear hl HLk
    go_enter Tryz.func15, Tryz.ntmps15
    go_wp2_with fail
    refine (HI.out _ HR.out).mono ?_
    rintro e w2 ⟨rfl, lo⟩
    have HL := Lib.hid lo
    clear lo HI
    go_wp2_with fail
    go_ret2
    exact ⟨rfl, HL.out⟩
  | true =>
    rw [hl] at HI
    have hlk : Ch.Look l c = Ch.look l c := by unfold Ch.Look; rw [hl]; rfl
    rw [hlk] at HLk
    rw [if_neg (by simp)]
    clear hl hlk
    generalize Ch.look l c = k at *
    by_cases c1 : k = 0
    · rw [if_pos (.inl c1)]
      subst c1
      go_enter Tryz.func15, Tryz.ntmps15
      go_wp2_with fail
      refine (HI.out _ HR.out).mono ?_
      rintro e w2 ⟨rfl, lo⟩
      have HL := Lib.hid lo
      clear lo HI
      go_wp2_with fail
      refine (HLk.out _ (RowK.lo HR.out HL.out)).mono ?_
      rintro e w3 ⟨rfl, lo⟩
      have HL3 := Lib.hid (HL.out.trans lo)
      clear lo HLk
      go_wp2_with fail
      go_ret2
      exact ⟨rfl, HL3.out⟩
    · by_cases c2 : g ≤ k
      · rw [if_pos (.inr c2)]
        have hz : (k == 0) = false := by simpa using c1
        clear c1
        go_enter Tryz.func15, Tryz.ntmps15
        go_wp2_with fail
        refine (HI.out _ HR.out).mono ?_
        rintro e w2 ⟨rfl, lo⟩
        have HL := Lib.hid lo
        clear lo HI
        go_wp2_with fail
        refine (HLk.out _ (RowK.lo HR.out HL.out)).mono ?_
        rintro e w3 ⟨rfl, lo⟩
        have HL3 := Lib.hid (HL.out.trans lo)
        clear lo HLk
        go_wp2_with fail
        go_ret2
        exact ⟨rfl, HL3.out⟩
      · rw [if_neg (by omega)]
        have hz : (k == 0) = false := by simpa using c1
        clear c1
        go_enter Tryz.func15, Tryz.ntmps15
        go_wp2_with fail
        refine (HI.out _ HR.out).mono ?_
        rintro e w2 ⟨rfl, lo⟩
        have HL := Lib.hid lo
        clear lo HI
        go_wp2_with fail
        refine (HLk.out _ (RowK.lo HR.out HL.out)).mono ?_
        rintro e w3 ⟨rfl, lo⟩
        have HL3 := Lib.hid (HL.out.trans lo)
        clear lo HLk
        go_wp2_with fail
        go_ret2
        exact ⟨rfl, HL3.out⟩
end Go.Proofs.YtppihpjcdieeoaaGreatDoor
/-
  The contract of the document's Best (layer 11). No conditions beyond those stated.
-/
namespace Go.Proofs.YtppihpjcdieeoaaGreatDoor
open Go.RowKit

/-- The nine pairs lie at block B, each in a block of its own. -/
def Tab9 (B : Nat) (W : World) : Prop := ∀ k x, Cm.bests[k]? = some x → ∃ c, W.cell? ⟨B, k, none⟩ = some (.slice (some ⟨c, 0, none⟩) 2 2) ∧ W.cell? ⟨c, 0, none⟩ = some (.int .i64 x.1) ∧ W.cell? ⟨c, 1, none⟩ = some (.int .i64 x.2)
def rtwo (w : World) (a b : Int) : World := w.alloc (.cells #[.int .i64 a, .int .i64 b] 3)
theorem rtwo_at (w : World) (a b : Int) : (rtwo w a b).cell? ⟨w.heap.size, 0, none⟩ = some (.int .i64 a) ∧ (rtwo w a b).cell? ⟨w.heap.size, 1, none⟩ = some (.int .i64 b) := by
  have h := new_block w (.cells #[.int .i64 a, .int .i64 b] 3)
  exact ⟨block_cell h rfl, block_cell h rfl⟩
theorem rtwo_lo (w : World) (a b : Int) : Lo w (rtwo w a b) ∧ (rtwo w a b).heap.size = w.heap.size + 1 := ⟨(Lo.refl w).alloc _, by unfold rtwo; simp⟩
def nine (w : World) : World := rtwo (rtwo (rtwo (rtwo (rtwo (rtwo (rtwo (rtwo (rtwo w 1 0) 0 0) 0 1) 0 2) 0 3) 3 1) 0 4) 0 6) 3 10
def nineAll (w : World) : World := (nine w).alloc (.cells #[.slice (some ⟨w.heap.size, 0, none⟩) 2 2, .slice (some ⟨w.heap.size + 1, 0, none⟩) 2 2, .slice (some ⟨w.heap.size + 2, 0, none⟩) 2 2, .slice (some ⟨w.heap.size + 3, 0, none⟩) 2 2, .slice (some ⟨w.heap.size + 4, 0, none⟩) 2 2, .slice (some ⟨w.heap.size + 5, 0, none⟩) 2 2, .slice (some ⟨w.heap.size + 6, 0, none⟩) 2 2, .slice (some ⟨w.heap.size + 7, 0, none⟩) 2 2, .slice (some ⟨w.heap.size + 8, 0, none⟩) 2 2] 52)
theorem nine_at (w : World) : Tab9 (w.heap.size + 9) (nineAll w) ∧ Lo w (nineAll w) := by
  obtain ⟨w1, e1⟩ : ∃ q, q = rtwo w 1 0 := ⟨_, rfl⟩
  obtain ⟨w2, e2⟩ : ∃ q, q = rtwo w1 0 0 := ⟨_, rfl⟩
  obtain ⟨w3, e3⟩ : ∃ q, q = rtwo w2 0 1 := ⟨_, rfl⟩
  obtain ⟨w4, e4⟩ : ∃ q, q = rtwo w3 0 2 := ⟨_, rfl⟩
  obtain ⟨w5, e5⟩ : ∃ q, q = rtwo w4 0 3 := ⟨_, rfl⟩
  obtain ⟨w6, e6⟩ : ∃ q, q = rtwo w5 3 1 := ⟨_, rfl⟩
  obtain ⟨w7, e7⟩ : ∃ q, q = rtwo w6 0 4 := ⟨_, rfl⟩
  obtain ⟨w8, e8⟩ : ∃ q, q = rtwo w7 0 6 := ⟨_, rfl⟩
  obtain ⟨w9, e9⟩ : ∃ q, q = rtwo w8 3 10 := ⟨_, rfl⟩
  have hn : nine w = w9 := by unfold nine; rw [← e1, ← e2, ← e3, ← e4, ← e5, ← e6, ← e7, ← e8, ← e9]
  have a1 := rtwo_at w 1 0
  have a2 := rtwo_at w1 0 0
  have a3 := rtwo_at w2 0 1
  have a4 := rtwo_at w3 0 2
  have a5 := rtwo_at w4 0 3
  have a6 := rtwo_at w5 3 1
  have a7 := rtwo_at w6 0 4
  have a8 := rtwo_at w7 0 6
  have a9 := rtwo_at w8 3 10
  obtain ⟨l1, s1⟩ := rtwo_lo w 1 0
  obtain ⟨l2, s2⟩ := rtwo_lo w1 0 0
  obtain ⟨l3, s3⟩ := rtwo_lo w2 0 1
  obtain ⟨l4, s4⟩ := rtwo_lo w3 0 2
  obtain ⟨l5, s5⟩ := rtwo_lo w4 0 3
  obtain ⟨l6, s6⟩ := rtwo_lo w5 3 1
  obtain ⟨l7, s7⟩ := rtwo_lo w6 0 4
  obtain ⟨l8, s8⟩ := rtwo_lo w7 0 6
  obtain ⟨l9, s9⟩ := rtwo_lo w8 3 10
  rw [← e1] at a1 l1 s1
  rw [← e2] at a2 l2 s2
  rw [← e3] at a3 l3 s3
  rw [← e4] at a4 l4 s4
  rw [← e5] at a5 l5 s5
  rw [← e6] at a6 l6 s6
  rw [← e7] at a7 l7 s7
  rw [← e8] at a8 l8 s8
  rw [← e9] at a9 l9 s9
  unfold nineAll
  rw [hn]
  clear hn e1 e2 e3 e4 e5 e6 e7 e8 e9
  have hz : w9.heap.size = w.heap.size + 9 := by omega
  have hb := new_block w9 (.cells #[.slice (some ⟨w.heap.size, 0, none⟩) 2 2, .slice (some ⟨w.heap.size + 1, 0, none⟩) 2 2, .slice (some ⟨w.heap.size + 2, 0, none⟩) 2 2, .slice (some ⟨w.heap.size + 3, 0, none⟩) 2 2, .slice (some ⟨w.heap.size + 4, 0, none⟩) 2 2, .slice (some ⟨w.heap.size + 5, 0, none⟩) 2 2, .slice (some ⟨w.heap.size + 6, 0, none⟩) 2 2, .slice (some ⟨w.heap.size + 7, 0, none⟩) 2 2, .slice (some ⟨w.heap.size + 8, 0, none⟩) 2 2] 52)
  rw [hz] at hb
  have m9 : Lo w9 (w9.alloc (.cells #[.slice (some ⟨w.heap.size, 0, none⟩) 2 2, .slice (some ⟨w.heap.size + 1, 0, none⟩) 2 2, .slice (some ⟨w.heap.size + 2, 0, none⟩) 2 2, .slice (some ⟨w.heap.size + 3, 0, none⟩) 2 2, .slice (some ⟨w.heap.size + 4, 0, none⟩) 2 2, .slice (some ⟨w.heap.size + 5, 0, none⟩) 2 2, .slice (some ⟨w.heap.size + 6, 0, none⟩) 2 2, .slice (some ⟨w.heap.size + 7, 0, none⟩) 2 2, .slice (some ⟨w.heap.size + 8, 0, none⟩) 2 2] 52)) := (Lo.refl w9).alloc _
  generalize w9.alloc (.cells #[.slice (some ⟨w.heap.size, 0, none⟩) 2 2, .slice (some ⟨w.heap.size + 1, 0, none⟩) 2 2, .slice (some ⟨w.heap.size + 2, 0, none⟩) 2 2, .slice (some ⟨w.heap.size + 3, 0, none⟩) 2 2, .slice (some ⟨w.heap.size + 4, 0, none⟩) 2 2, .slice (some ⟨w.heap.size + 5, 0, none⟩) 2 2, .slice (some ⟨w.heap.size + 6, 0, none⟩) 2 2, .slice (some ⟨w.heap.size + 7, 0, none⟩) 2 2, .slice (some ⟨w.heap.size + 8, 0, none⟩) 2 2] 52) = W at *
  have m8 := l9.trans m9
  have m7 := l8.trans m8
  have m6 := l7.trans m7
  have m5 := l6.trans m6
  have m4 := l5.trans m5
  have m3 := l4.trans m4
  have m2 := l3.trans m3
  have m1 := l2.trans m2
  have m0 := l1.trans m1
  refine ⟨fun k x hx => ?_, m0⟩
  have hk : k < 9 := by have := (List.getElem?_eq_some_iff.1 hx).1; simpa [Cm.bests] using this
  have up : ∀ {u : World} {c i : Nat} {v : Value}, Lo u W → u.cell? ⟨c, i, none⟩ = some v → W.cell? ⟨c, i, none⟩ = some v := fun l h => (l.cell (World.block_lt_of_cell? _ _ h)).trans h
  obtain rfl | rfl | rfl | rfl | rfl | rfl | rfl | rfl | rfl : k = 0 ∨ k = 1 ∨ k = 2 ∨ k = 3 ∨ k = 4 ∨ k = 5 ∨ k = 6 ∨ k = 7 ∨ k = 8 := by omega
  · cases hx; exact ⟨_, block_cell hb rfl, up m1 a1.1, up m1 a1.2⟩
  · cases hx; rw [show w1.heap.size = w.heap.size + 1 by omega] at a2; exact ⟨_, block_cell hb rfl, up m2 a2.1, up m2 a2.2⟩
  · cases hx; rw [show w2.heap.size = w.heap.size + 2 by omega] at a3; exact ⟨_, block_cell hb rfl, up m3 a3.1, up m3 a3.2⟩
  · cases hx; rw [show w3.heap.size = w.heap.size + 3 by omega] at a4; exact ⟨_, block_cell hb rfl, up m4 a4.1, up m4 a4.2⟩
  · cases hx; rw [show w4.heap.size = w.heap.size + 4 by omega] at a5; exact ⟨_, block_cell hb rfl, up m5 a5.1, up m5 a5.2⟩
  · cases hx; rw [show w5.heap.size = w.heap.size + 5 by omega] at a6; exact ⟨_, block_cell hb rfl, up m6 a6.1, up m6 a6.2⟩
  · cases hx; rw [show w6.heap.size = w.heap.size + 6 by omega] at a7; exact ⟨_, block_cell hb rfl, up m7 a7.1, up m7 a7.2⟩
  · cases hx; rw [show w7.heap.size = w.heap.size + 7 by omega] at a8; exact ⟨_, block_cell hb rfl, up m8 a8.1, up m8 a8.2⟩
  · cases hx; rw [show w8.heap.size = w.heap.size + 8 by omega] at a9; exact ⟨_, block_cell hb rfl, up m9 a9.1, up m9 a9.2⟩

set_option maxRecDepth 100000 in
set_option maxHeartbeats 1600000 in
theorem rbest_any (p q : Int) (w : World) : Calls Tryz.prog 19 #[.int .i64 p, .int .i64 q] w fun e w' => e = .returned (.int .i64 (Cm.best p q : Int)) ∧ Lo w w' := by
  have HB := Lib.hid (fun (i : Nat) (x : Int × Int) (h : Cm.bests[i]? = some x) (h1 : x.1 = p) (h2 : x.2 = q) (h3 : ∀ k y, k < i → Cm.bests[k]? = some y → ¬ (y.1 = p ∧ y.2 = q)) => Cm.best_hit h h1 h2 h3)
  have HN : Hid ((∀ k y, k < 9 → Cm.bests[k]? = some y → ¬ (y.1 = p ∧ y.2 = q)) → Cm.best p q = 0) := Lib.hid (fun h => Cm.best_none fun y hy => by
    obtain ⟨k, hk⟩ := List.getElem?_of_mem hy
    exact h k y (by have := (List.getElem?_eq_some_iff.1 hk).1; simpa [Cm.bests] using this) hk)
  have HX : Hid (∀ i, i < 9 → ∃ a b, Cm.bests[i]? = some (a, b)) := Lib.hid (fun i hi => ⟨_, _, List.getElem?_eq_getElem (by simpa [Cm.bests] using hi)⟩)
  have H9 := Lib.hid (nine_at w)
  unfold nineAll nine rtwo at H9
  generalize Cm.best p q = z at *
  go_enter Tryz.func19, Tryz.ntmps19
  go_wp2_with fail
  go_loopw [6] (fun s6 W => ∃ i : Nat, s6 = .int .i64 i ∧ i ≤ 9 ∧ Hid (∀ k y, k < i → Cm.bests[k]? = some y → ¬ (y.1 = p ∧ y.2 = q)) ∧ Hid (Tab9 (w.heap.size + 9) W) ∧ Hid (Lo w W)) (fun s6 _ => 9 - (intOf s6).toNat)
  case atStart => exact ⟨0, rfl, by omega, Lib.hid (fun k y hk => by omega), Lib.hid H9.out.1, Lib.hid H9.out.2⟩
  case round =>
    obtain ⟨i, rfl, hi, HI, HT, HL⟩ := hrel
    clear H9
    by_cases hlt : i < 9
    · obtain ⟨a, b, hab⟩ := HX.out i hlt
      obtain ⟨c, r0, r1, r2⟩ := HT.out i _ hab
      dsimp only at r1 r2
      have HAB := Lib.hid hab
      have hlt2 : (i : Int) < 9 := by omega
      clear hab HX
      by_cases h1 : a = p
      · by_cases h2 : b = q
        · have HE := Lib.hid (HB.out i _ HAB.out h1 h2 HI.out)
          subst h1 h2
          clear HB HN HI
          go_wp2_with fail
          go_ret
          exact ⟨ret_int (by rw [HE.out]; simp), HL.out⟩
        · have HI2 : Hid (∀ k y, k < i + 1 → Cm.bests[k]? = some y → ¬ (y.1 = p ∧ y.2 = q)) := Lib.hid (fun k y hk hy => by
            by_cases c : k < i
            · exact HI.out k y c hy
            · obtain rfl : k = i := by omega
              rw [HAB.out] at hy; cases hy; exact fun h => h2 h.2)
          clear HB HN HI
          go_wp2_with fail
          go_roundw
          case rel => exact ⟨i + 1, by go_num, by omega, HI2, HT, HL⟩
          case measure => simp [intOf]; omega
      · have HI2 : Hid (∀ k y, k < i + 1 → Cm.bests[k]? = some y → ¬ (y.1 = p ∧ y.2 = q)) := Lib.hid (fun k y hk hy => by
          by_cases c : k < i
          · exact HI.out k y c hy
          · obtain rfl : k = i := by omega
            rw [HAB.out] at hy; cases hy; exact fun h => h1 h.1)
        clear HB HN HI
        go_wp2_with fail
        go_roundw
        case rel => exact ⟨i + 1, by go_num, by omega, HI2, HT, HL⟩
        case measure => simp [intOf]; omega
    · obtain rfl : i = 9 := by omega
      have HE := Lib.hid (HN.out HI.out)
      clear HB HN HI HX
      go_wp2_with fail
      go_ret
      exact ⟨ret_int (by rw [HE.out]; rfl), HL.out⟩
end Go.Proofs.YtppihpjcdieeoaaGreatDoor

/-
  The walk of the law SegmentWraps. No conditions beyond those stated.
-/
import Derived.Test.YtfnpindohoflaaaSgParted
import Derived.Test.YtfnpindohoflaaaPlain
import Derived.Test.YtfnpindohoflaaaChLook2
namespace Sg
open Bn He Ch
theorem wraps_put {fr d : Int} (h0 : 0 ≤ fr) (h1 : fr ≤ 65535) (h3 : 0 ≤ d) (h4 : d ≤ 65535) : Bn.put [2, 2, 2, 2, 2, 2, 2, 2, 2, 2, 2, 2] [4, 24, 0, 2, 2, 0, 0, 65535, 0, fr, d, 0] = (flat 2 (wraps fr d), 0) := by
  have := Gl.put_rep (size := 2) (by decide) (xs := wraps fr d) (fun v hv => by
    unfold wraps at hv
    simp only [List.mem_cons, List.not_mem_nil, or_false] at hv
    exact fits2 (by omega) (by omega))
  exact this
theorem wraps_look {fr d : Int} (h0 : 0 ≤ fr) (h1 : fr ≤ 65535) (h3 : 0 ≤ d) (h4 : d ≤ 65535) (c : Int) : Look (near fr 65535 d) c = if fr ≤ c ∧ c ≤ 65535 then (c + d) % 65536 else 0 := by
  have hg := get_wraps h0 h1 h3 h4
  have hr := (get_right (s := flat 2 (wraps fr d)) (by rw [hg])).1
  rw [hg] at hr
  unfold Look
  rw [if_pos hr, near_look h0 h1 (by omega) h3 h4]
end Sg
namespace Go.Proofs.Ytfnpindohoflaaa
open Go.RowKit

theorem row_lit (w : World) (B : Nat) (hB : B = w.heap.size) (l : List Int) (cs : Array Value) (hc : cs = (l.map (Value.int .i64)).toArray) (hl : l.length ≤ 1000000) : Row (w.alloc (.cells cs 3)) (.slice (some ⟨B, 0, none⟩) l.length l.length) l := by
  subst hB hc
  refine .inr ⟨w.heap.size, 0, l.length, rfl, by omega, Nat.le_refl _, by simp, fun i hi => ?_⟩
  rw [Nat.zero_add]
  refine block_cell (new_block w _) ?_
  simp [List.getD, hi]

set_option maxRecDepth 100000 in
set_option maxHeartbeats 3200000 in
theorem segmentWraps_in (fr d c : Int) (w : World) (h0 : 0 ≤ fr) (h1 : fr ≤ 65535) (h3 : 0 ≤ d) (h4 : d ≤ 65535) : Calls Try.prog 6 #[.int .i64 fr, .int .i64 d, .int .i64 c] w fun e w' => e = .returned (.bool true) ∧ Lo w w' := by
  have HP := Lib.hid (fun (v u : Value) (W : World) (hv : Row W v [2, 2, 2, 2, 2, 2, 2, 2, 2, 2, 2, 2]) (hu : Row W u [4, 24, 0, 2, 2, 0, 0, 65535, 0, fr, d, 0]) => put_any _ _ v u W hv hu (by simp))
  have HG := Lib.hid (fun W => sget_any (He.flat 2 (Sg.wraps fr d)) W (by rw [He.flat_len]; simp [Sg.wraps]))
  have HK := Lib.hid (fun (v : Value) (W : World) (h : SRow W v (Sg.near fr 65535 d)) => clook_any v _ c W h)
  have HD := Lib.hid (fun W => parted_any W)
  have hln := Sg.near_len fr 65535 d
  rw [Sg.wraps_put h0 h1 h3 h4] at HP
  rw [Sg.get_wraps h0 h1 h3 h4] at HG
  rw [Sg.wraps_look h0 h1 h3 h4] at HK
  unfold strErr at HP
  unfold GotSp at HG
  dsimp only at HP HG
  generalize He.flat 2 (Sg.wraps fr d) = s at *
  generalize Sg.near fr 65535 d = l at *
  generalize hn : l.length = n at *
  have hmod : fr ≤ c → c ≤ 65535 → Int.tmod (c + d) 65536 = (c + d) % 65536 := fun a b => Int.tmod_eq_emod_of_nonneg (by omega)
  clear hn
  go_enter Try.func6, Try.ntmps6
  go_wp2_with fail
  refine (HP.out _ _ _ ((row_lit w _ rfl [2, 2, 2, 2, 2, 2, 2, 2, 2, 2, 2, 2] _ rfl (by simp)).lo ((Lo.refl _).alloc _)) (row_lit _ _ (by simp) [4, 24, 0, 2, 2, 0, 0, 65535, 0, fr, d, 0] _ rfl (by simp))).mono ?_
  rintro e w1 ⟨rfl, lo⟩
  have HL := Lib.hid ((((Lo.refl w).alloc _).alloc _).trans lo)
  clear lo HP
  go_wp2_with fail
  refine (HG.out _).mono ?_
  rintro e w2 ⟨p, cc, rfl, hrow, lo⟩
  have HL := Lib.hid (HL.out.trans lo)
  have HR := Lib.hid hrow
  clear lo hrow HG
  by_cases c1 : fr ≤ c
  · by_cases c2 : c ≤ 65535
    · rw [if_pos ⟨c1, c2⟩] at HK
      clear hmod
      go_wp2_with fail
      refine (HD.out _).mono ?_
      rintro e w4 ⟨rfl, lo⟩
      have HL4 := Lib.hid (HL.out.trans lo)
      have HR4 := Lib.hid (RowK.lo HR.out lo)
      clear lo HD
      go_wp2_with fail
      refine (HK.out _ _ HR4.out).mono ?_
      rintro e w5 ⟨rfl, lo⟩
      have HL5 := Lib.hid (HL4.out.trans lo)
      clear lo HK HR4
      go_wp2_with fail
      go_ret
      exact ⟨ret_bool (by simp), HL5.out⟩
    · rw [if_neg (by omega)] at HK
      clear hmod
      go_wp2_with fail
      refine (HD.out _).mono ?_
      rintro e w4 ⟨rfl, lo⟩
      have HL4 := Lib.hid (HL.out.trans lo)
      have HR4 := Lib.hid (RowK.lo HR.out lo)
      clear lo HD
      go_wp2_with fail
      refine (HK.out _ _ HR4.out).mono ?_
      rintro e w5 ⟨rfl, lo⟩
      have HL5 := Lib.hid (HL4.out.trans lo)
      clear lo HK HR4
      go_wp2_with fail
      go_ret
      exact ⟨ret_bool (by simp), HL5.out⟩
  · rw [if_neg (by omega)] at HK
    clear hmod
    go_wp2_with fail
    refine (HD.out _).mono ?_
    rintro e w4 ⟨rfl, lo⟩
    have HL4 := Lib.hid (HL.out.trans lo)
    have HR4 := Lib.hid (RowK.lo HR.out lo)
    clear lo HD
    go_wp2_with fail
    refine (HK.out _ _ HR4.out).mono ?_
    rintro e w5 ⟨rfl, lo⟩
    have HL5 := Lib.hid (HL4.out.trans lo)
    clear lo HK HR4
    go_wp2_with fail
    go_ret
    exact ⟨ret_bool (by simp), HL5.out⟩

set_option maxRecDepth 100000 in
set_option maxHeartbeats 1600000 in
theorem segmentWraps_out (fr d c : Int) (w : World) (h : fr < 0 ∨ 65535 < fr ∨ d < 0 ∨ 65535 < d) : Calls Try.prog 6 #[.int .i64 fr, .int .i64 d, .int .i64 c] w fun e w' => e = .returned (.bool true) ∧ Lo w w' := by
  have HD := Lib.hid (fun W => parted_any W)
  by_cases c1 : fr < 0
  · clear h
    go_enter Try.func6, Try.ntmps6
    go_wp2_with fail
    refine (HD.out _).mono ?_
    rintro e w4 ⟨rfl, lo⟩
    go_wp2_with fail
    go_ret
    exact ⟨rfl, lo⟩
  · by_cases c2 : 65535 < fr
    · clear h
      go_enter Try.func6, Try.ntmps6
      go_wp2_with fail
      refine (HD.out _).mono ?_
      rintro e w4 ⟨rfl, lo⟩
      go_wp2_with fail
      go_ret
      exact ⟨rfl, lo⟩
    · by_cases c3 : d < 0
      · clear h
        go_enter Try.func6, Try.ntmps6
        go_wp2_with fail
        refine (HD.out _).mono ?_
        rintro e w4 ⟨rfl, lo⟩
        go_wp2_with fail
        go_ret
        exact ⟨rfl, lo⟩
      · have c4 : 65535 < d := by omega
        clear h
        go_enter Try.func6, Try.ntmps6
        go_wp2_with fail
        refine (HD.out _).mono ?_
        rintro e w4 ⟨rfl, lo⟩
        go_wp2_with fail
        go_ret
        exact ⟨rfl, lo⟩

theorem segmentWraps_walk (fr d c : Int) (w : World) (_w0 : (Lit.int .i64 fr).wf = true) (_w1 : (Lit.int .i64 d).wf = true) (_w2 : (Lit.int .i64 c).wf = true) : Calls Try.prog 6 #[.int .i64 fr, .int .i64 d, .int .i64 c] w fun e w' => e = .returned (.bool true) ∧ Below w.heap.size w w' := by
  by_cases h : fr < 0 ∨ 65535 < fr ∨ d < 0 ∨ 65535 < d
  · exact segmentWraps_out fr d c w h
  · exact segmentWraps_in fr d c w (by omega) (by omega) (by omega) (by omega)
end Go.Proofs.Ytfnpindohoflaaa

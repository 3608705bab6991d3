/-
  The contract of the document's answer for layer 12, Put. No conditions beyond those stated.
-/
import Derived.Test.YtjeahgdefdlabaaCoRef
import Derived.Test.YtjeahgdefdlabaaCoRuns
import Derived.Test.YtjeahgdefdlabaaBnRefB
import Derived.Test.YtjeahgdefdlabaaBnPut
import Derived.Deep.RegionHeld3
namespace Co
open Bn He
theorem flat_take {l : List Int} {k : Nat} (h : k < l.length) : flat (l.take (k + 1)) = flat (l.take k) ++ bytes (l.getD k 0) 2 := by
  rw [Bn.take_snoc h, flat_append]
  simp [flat]
theorem nums_more (Y : List (Int × Int × Int)) (a b c : Int) : flat (nums (Y ++ [(a, b, c)])) = flat (nums Y) ++ bytes a 2 ++ bytes b 2 ++ bytes c 2 := by
  rw [nums_append, flat_append]
  simp [nums, flat]
theorem one_is (l : List Int) : one l = [0, 1] ++ bytes l.length 2 ++ flat l := rfl
theorem two_is (l : List Int) : two l = [0, 2] ++ bytes (runs l).length 2 ++ flat (nums (tr l)) := by
  unfold two tr
  rw [recs_flat]; rfl
end Co
namespace Go.Proofs.Ytjeahgdefdlabaa
open Go.RowKit

theorem cadd_to (a b c : List UInt8) (hc : a ++ b = c) (h : a.length + b.length ≤ 100000000) (W : World) : (Op.stringOp .add ⟨a.toArray⟩ ⟨b.toArray⟩).run Try.prog W = .ok (.string ⟨c.toArray⟩) W := by
  rw [← hc, run_string_add_sum W _ _ (by show a.length + b.length ≤ _; omega), Gk.cat_list]
theorem cbytes2 (x : Int) (W : World) (h0 : 0 ≤ x) (h1 : x < 65536) : Calls Try.prog 24 #[.int .i64 x, .int .i64 2] W fun e w' => e = .returned (.string ⟨(Bn.bytes x 2).toArray⟩) ∧ Lo W w' := by
  have h := rbytes_any x 2 W (by decide) (by unfold Bn.fits; rw [if_neg (by omega)]; simp; omega)
  rw [show ((2 : Int).natAbs) = 2 from rfl, show ((2 : Nat) : Int) = 2 from rfl] at h
  exact h
abbrev TwoC (b o1 o2 : Nat) (x y : Int) (w0 W : World) : Prop := W.cell? ⟨b, o1, none⟩ = some (.int .i64 x) ∧ W.cell? ⟨b, o2, none⟩ = some (.int .i64 y) ∧ Hid (Lo w0 W)

set_option maxHeartbeats 400000 in
theorem rcput_arg (v : Value) (l : List Int) (w : World) (h : Row w v l) (hn : l.length ≤ 1000000) (hc : Co.isCov l = false) : Calls Try.prog 25 #[v] w fun e w' => e = strErr ([], 1) ∧ Lo w w' := by
  have HI := Lib.hid (ris12_any v l w h hn)
  rw [hc] at HI
  obtain ⟨p, c, rfl, _⟩ := h.form
  unfold strErr
  clear h hc
  go_enter Try.func25, Try.ntmps25
  go_wp2_with fail
  refine HI.out.mono ?_
  rintro e w1 ⟨rfl, lo⟩
  have HL := Lib.hid lo
  clear lo
  go_wp2_with fail
  go_ret2
  exact ⟨rfl, HL.out⟩

set_option maxRecDepth 100000 in
set_option maxHeartbeats 6400000 in
theorem rcput_ok (v : Value) (l : List Int) (w : World) (h : Row w v l) (hc : Co.isCov l = true) : Calls Try.prog 25 #[v] w fun e w' => e = strErr (Co.put l) ∧ Lo w w' := by
  have hcl := Co.cov_len hc
  have HI := Lib.hid (ris12_any v l w h (by omega))
  rw [hc] at HI
  obtain ⟨p, c, rfl, _⟩ := h.form
  have HR := Lib.hid h
  have HM := Lib.hid (fun (k : Nat) (hk : k < l.length) => Co.cov_mem hc (l.getD k 0) (by rw [List.getD, List.getElem?_eq_getElem hk]; exact List.getElem_mem _))
  have HT : Hid ([] ++ Co.jn 0 0 (l.getD 0 0) (l.drop 0) = Co.tr l) := Lib.hid (by rw [List.nil_append, List.drop_zero]; exact Co.jn_all l)
  have HTl := Lib.hid (show (Co.tr l).length ≤ 65535 by have h1 := Co.tr_len l; have h2 := Co.runs_len l; omega)
  have HOne : Hid (∀ F, [0, 1] ++ Bn.bytes l.length 2 = F → F ++ Co.flat l = Co.one l) := Lib.hid (fun F h => by rw [← h]; exact (Co.one_is l).symm)
  have HTwo : Hid (∀ Z m : List UInt8, Z = Co.flat (Co.nums (Co.tr l)) → [0, 2] ++ Bn.bytes (Co.tr l).length 2 = m → m ++ Z = Co.two l) := Lib.hid (fun Z m h1 h2 => by rw [h1, ← h2, Co.two_is, Co.tr_len])
  have HP : Hid (Co.put l = if 6 * (Co.tr l).length < 2 * l.length then (Co.two l, 0) else (Co.one l, 0)) := Lib.hid (by unfold Co.put; rw [if_neg (by rw [hc]; simp), Co.tr_len])
  generalize Co.tr l = T at *
  have HTk := Lib.hid (fun k => @Co.flat_take l k)
  have HSa := Lib.hid (fun (k f : Nat) (a : Int) => @Co.jn_same l k f a)
  have HNx := Lib.hid (fun (k f : Nat) (a : Int) => @Co.jn_next l k f a)
  have HAll : Hid (l.take l.length = l) := Lib.hid List.take_length
  have HDn : Hid (l.drop l.length = []) := Lib.hid List.drop_length
  generalize hn : l.length = n at *
  have CBn := Lib.hid (fun W => cbytes2 (n : Int) W (by omega) (by omega))
  obtain ⟨F, hF⟩ : ∃ F, [0, 1] ++ Bn.bytes (n : Int) 2 = F := ⟨_, rfl⟩
  have HOneF := Lib.hid (HOne.out F hF)
  have hFl : F.length = 4 := by rw [← hF, List.length_append, Bn.bytes_len]; rfl
  have x0 := fun W => cadd_to [0, 1] (Bn.bytes (n : Int) 2) F hF (by rw [Bn.bytes_len]; simp) W
  unfold strErr
  clear h hc hn hF HOne
  go_enter Try.func25, Try.ntmps25
  go_wp2_with fail
  refine HI.out.mono ?_
  rintro e w1 ⟨rfl, lo⟩
  have HL := Lib.hid lo
  clear lo
  go_wp2_with fail
  refine (CBn.out _).mono ?_
  rintro e w2 ⟨rfl, lo⟩
  have HL2 := Lib.hid (HL.out.trans lo)
  clear lo
  go_wp2_with fail
  clear x0
  go_loopw [4, 5, 6, 7, 8] (fun so sr sm sf si W => ∃ (k f m : Nat) (o r : List UInt8) (Y : List (Int × Int × Int)), k ≤ n ∧ f ≤ k ∧ si = .int .i64 (k : Int) ∧ sf = .int .i64 (f : Int) ∧ sm = .int .i64 (m : Int) ∧ so = .string ⟨o.toArray⟩ ∧ sr = .string ⟨r.toArray⟩ ∧
      o.length = 4 + 2 * k ∧ r.length = 6 * m ∧ Hid (Y.length = m) ∧ Hid (o = F ++ Co.flat (l.take k)) ∧ Hid (r = Co.flat (Co.nums Y)) ∧ Hid (Y ++ Co.jn k f (l.getD f 0) (l.drop k) = T) ∧ Hid (Lo w W)) (fun _ _ _ _ si _ => n - (intOf si).toNat)
  case atStart => exact ⟨0, 0, 0, F, [], [], Nat.zero_le _, Nat.le_refl _, rfl, rfl, rfl, rfl, rfl, by omega, rfl, Lib.hid rfl, Lib.hid (by rw [List.take_zero]; exact (List.append_nil F).symm), Lib.hid rfl, HT, HL2⟩
  case round =>
    obtain ⟨k, f, m, o, r, Y, hk, hfk, rfl, rfl, rfl, rfl, rfl, hol, hrl, HYm, HO, HRr, HY, HLw⟩ := hrel
    by_cases hlt : k < n
    · have hrow := HR.out.lo HLw.out
      obtain ⟨b, off, rfl, ck⟩ := hrow.at_ (k := k) hlt
      have hgk := HM.out k hlt
      have HTk1 := Lib.hid (HTk.out k hlt)
      have hmb : m ≤ 65535 := by
        have h1 : Y.length ≤ T.length := by rw [← HY.out, List.length_append]; omega
        have h2 := HYm.out
        have h3 := HTl.out
        omega
      obtain ⟨o1, ho1⟩ : ∃ q, o ++ Bn.bytes (l.getD k 0) 2 = q := ⟨_, rfl⟩
      have HO1 : Hid (o1 = F ++ Co.flat (l.take (k + 1))) := Lib.hid (by rw [HTk1.out, ← List.append_assoc, ← HO.out, ho1])
      have ho1l : o1.length = 4 + 2 * (k + 1) := by rw [← ho1, List.length_append, Bn.bytes_len]; omega
      have x0 := fun W => cadd_to o _ o1 ho1 (by rw [Bn.bytes_len]; omega) W
      have HL0 := Lib.hid (show l.getD k 0 = l.getD k 0 from rfl)
      obtain ⟨g, hg⟩ : ∃ g, l.getD k 0 = g := ⟨_, rfl⟩
      have HG := Lib.hid hg
      rw [hg] at ck hgk x0
      have CBk := Lib.hid (fun W => cbytes2 g W (by omega) (by omega))
      clear hrow ho1 HL0 hg HTk1
      go_wp2_with fail
      refine (CBk.out _).mono ?_
      rintro e w2 ⟨rfl, lo⟩
      have HL2 := Lib.hid (HLw.out.trans lo)
      clear lo ck CBk
      obtain ⟨b', off', e1, ck⟩ := (HR.out.lo HL2.out).at_ (k := k) hlt
      simp only [Option.some.injEq, Addr.mk.injEq, and_true] at e1
      obtain ⟨rfl, rfl⟩ := e1
      rw [HG.out] at ck
      have hw1 : IntKind.i64.wrap ((k : Int) + 1) = (k : Int) + 1 := IntWalk.i64_in _ (by omega)
      have hw2 : IntKind.i64.wrap (g + 1) = g + 1 := IntWalk.i64_in _ (by omega)
      have hi0 : (0 : Int) ≤ (k : Int) := by omega
      have hi1 : (0 : Int) ≤ (k : Int) + 1 := by omega
      have hi2 : (k : Int) < (n : Int) := by omega
      have hi3 : ((k : Int) + 1).toNat = k + 1 := by omega
      by_cases hc1 : k + 1 < n
      · obtain ⟨b', off', e2, c2⟩ := (HR.out.lo HL2.out).at_ (k := k + 1) hc1
        simp only [Option.some.injEq, Addr.mk.injEq, and_true] at e2
        obtain ⟨rfl, rfl⟩ := e2
        have hi4 : (k : Int) + 1 < (n : Int) := by omega
        have hd1 : decide ((k : Int) + 1 < (n : Int)) = true := decide_eq_true hi4
        have hd2 : decide (k + 1 < n) = true := decide_eq_true hc1
        by_cases hc2 : l.getD (k + 1) 0 = g + 1
        · have HS : Hid (Y ++ Co.jn (k + 1) f (l.getD f 0) (l.drop (k + 1)) = T) := Lib.hid (by rw [← HSa.out k f _ hlt ⟨hc1, by rw [HG.out]; exact hc2⟩]; exact HY.out)
          rw [hc2] at c2
          clear hc2
          go_wp2_with fail
          go_quiet (fail)
          have HL3 := Lib.hid (HL2.out.drewN nq)
          go_wp2_with fail
          go_roundw
          case rel => exact ⟨k + 1, f, m, o1, r, Y, by omega, by omega, by go_num, rfl, rfl, rfl, rfl, ho1l, hrl, HYm, HO1, HRr, HS, HL3⟩
          case measure => simp [intOf]; omega
        · have hqf : (l.getD (k + 1) 0 == g + 1) = false := by simpa using hc2
          have HNX := Lib.hid (show (Y ++ [(l.getD f 0, l.getD k 0, (f : Int))]) ++ Co.jn (k + 1) (k + 1) (l.getD (k + 1) 0) (l.drop (k + 1)) = T from by rw [List.append_assoc, List.singleton_append, ← HNx.out k f _ hlt (fun h => hc2 (by rw [← HG.out]; exact h.2))]; exact HY.out)
          obtain ⟨g1, hg1⟩ : ∃ g1, l.getD (k + 1) 0 = g1 := ⟨_, rfl⟩
          rw [hg1] at c2 hqf
          clear hc2 hg1
          go_wp2_with fail
          go_quiet (fail)
          clear c2 ck
          have HL3 := Lib.hid (HL2.out.drewN nq)
          generalize w2.drewN nq = W3 at *
          obtain ⟨b', off', e3, ck3⟩ := (HR.out.lo HL3.out).at_ (k := k) hlt
          simp only [Option.some.injEq, Addr.mk.injEq, and_true] at e3
          obtain ⟨rfl, rfl⟩ := e3
          obtain ⟨b', off', e4, cf3⟩ := (HR.out.lo HL3.out).at_ (k := f) (by omega)
          simp only [Option.some.injEq, Addr.mk.injEq, and_true] at e4
          obtain ⟨rfl, rfl⟩ := e4
          rw [HG.out] at ck3
          have hgf := HM.out f (by omega)
          rw [HG.out] at HNX
          generalize l.getD f 0 = gf at *
          have hbw := World.block_lt_of_cell? W3 _ ck3
          have HTr : Hid (∀ W, Lo W3 W → TwoC b (off + f) (off + k) gf g W3 W) := Lib.hid (fun W lo => ⟨(lo.cell hbw).trans cf3, (lo.cell hbw).trans ck3, Lib.hid lo⟩)
          have CBy : Hid (∀ (x : Int) W, 0 ≤ x → x < 65536 → TwoC b (off + f) (off + k) gf g W3 W → Calls Try.prog 24 #[.int .i64 x, .int .i64 2] W fun e w' => e = .returned (.string ⟨(Bn.bytes x 2).toArray⟩) ∧ TwoC b (off + f) (off + k) gf g W3 w') := Lib.hid (fun x W h0 h1 hW => (cbytes2 x W h0 h1).mono fun _ _ ⟨h1, h2⟩ => ⟨h1, HTr.out _ (hW.2.2.out.trans h2)⟩)
          obtain ⟨u1, hu1⟩ : ∃ q, r ++ Bn.bytes gf 2 = q := ⟨_, rfl⟩
          obtain ⟨u2, hu2⟩ : ∃ q, u1 ++ Bn.bytes g 2 = q := ⟨_, rfl⟩
          obtain ⟨u3, hu3⟩ : ∃ q, u2 ++ Bn.bytes (f : Int) 2 = q := ⟨_, rfl⟩
          have HU : Hid (u3 = Co.flat (Co.nums (Y ++ [(gf, g, (f : Int))]))) := Lib.hid (by rw [Co.nums_more, ← HRr.out, hu1, hu2, hu3])
          have n1 : u1.length = r.length + 2 := by rw [← hu1, List.length_append, Bn.bytes_len]
          have n2 : u2.length = u1.length + 2 := by rw [← hu2, List.length_append, Bn.bytes_len]
          have n3 : u3.length = u2.length + 2 := by rw [← hu3, List.length_append, Bn.bytes_len]
          have hul : u3.length = 6 * (m + 1) := by omega
          have x1 := fun W => cadd_to r _ u1 hu1 (by rw [Bn.bytes_len]; omega) W
          have x2 := fun W => cadd_to u1 _ u2 hu2 (by rw [Bn.bytes_len]; omega) W
          have x3 := fun W => cadd_to u2 _ u3 hu3 (by rw [Bn.bytes_len]; omega) W
          have s1 : (0 : Int) ≤ (k : Int) := by omega
          have s2 : (k : Int) < (n : Int) := by omega
          have s3 : (0 : Int) ≤ (f : Int) := by omega
          have s4 : (f : Int) < (n : Int) := by omega
          clear hu1 hu2 hu3 n1 n2 n3 ck3 cf3 hbw
          go_wp2_with fail
          go_region_held3 (fun W => TwoC b (off + f) (off + k) gf g W3 W) (first | assumption | exact HTr.out _ ((Lo.refl _).drew))
            (first | (go_at_call 24; refine (CBy.out _ _ (by omega) (by omega) (by assumption)).mono ?_; rintro e wB ⟨rfl, hSB⟩))
          all_goals
            have HL9 := Lib.hid (HL3.out.trans hSB.2.2.out)
            clear CBy x1 x2 x3 HTr hSB
            go_wp2_with fail
            go_roundw
            case rel => exact ⟨k + 1, k + 1, m + 1, o1, u3, _, by omega, by omega, by go_num, by go_num, by go_num, rfl, rfl, ho1l, hul, Lib.hid (by rw [List.length_append, HYm.out]; rfl), HO1, HU, HNX, HL9⟩
            case measure => simp [intOf]; omega
      · have hi4 : ¬ (k : Int) + 1 < (n : Int) := by omega
        have hd1 : decide ((k : Int) + 1 < (n : Int)) = false := decide_eq_false hi4
        have hd2 : decide (k + 1 < n) = false := decide_eq_false hc1
        have HNX := Lib.hid (show (Y ++ [(l.getD f 0, l.getD k 0, (f : Int))]) ++ Co.jn (k + 1) (k + 1) (l.getD (k + 1) 0) (l.drop (k + 1)) = T from by rw [List.append_assoc, List.singleton_append, ← HNx.out k f _ hlt (fun h => hc1 h.1)]; exact HY.out)
        go_wp2_with fail
        go_quiet (fail)
        clear ck
        have HL3 := Lib.hid (HL2.out.drewN nq)
        generalize w2.drewN nq = W3 at *
        obtain ⟨b', off', e3, ck3⟩ := (HR.out.lo HL3.out).at_ (k := k) hlt
        simp only [Option.some.injEq, Addr.mk.injEq, and_true] at e3
        obtain ⟨rfl, rfl⟩ := e3
        obtain ⟨b', off', e4, cf3⟩ := (HR.out.lo HL3.out).at_ (k := f) (by omega)
        simp only [Option.some.injEq, Addr.mk.injEq, and_true] at e4
        obtain ⟨rfl, rfl⟩ := e4
        rw [HG.out] at ck3
        have hgf := HM.out f (by omega)
        rw [HG.out] at HNX
        generalize l.getD f 0 = gf at *
        have hbw := World.block_lt_of_cell? W3 _ ck3
        have HTr : Hid (∀ W, Lo W3 W → TwoC b (off + f) (off + k) gf g W3 W) := Lib.hid (fun W lo => ⟨(lo.cell hbw).trans cf3, (lo.cell hbw).trans ck3, Lib.hid lo⟩)
        have CBy : Hid (∀ (x : Int) W, 0 ≤ x → x < 65536 → TwoC b (off + f) (off + k) gf g W3 W → Calls Try.prog 24 #[.int .i64 x, .int .i64 2] W fun e w' => e = .returned (.string ⟨(Bn.bytes x 2).toArray⟩) ∧ TwoC b (off + f) (off + k) gf g W3 w') := Lib.hid (fun x W h0 h1 hW => (cbytes2 x W h0 h1).mono fun _ _ ⟨h1, h2⟩ => ⟨h1, HTr.out _ (hW.2.2.out.trans h2)⟩)
        obtain ⟨u1, hu1⟩ : ∃ q, r ++ Bn.bytes gf 2 = q := ⟨_, rfl⟩
        obtain ⟨u2, hu2⟩ : ∃ q, u1 ++ Bn.bytes g 2 = q := ⟨_, rfl⟩
        obtain ⟨u3, hu3⟩ : ∃ q, u2 ++ Bn.bytes (f : Int) 2 = q := ⟨_, rfl⟩
        have HU : Hid (u3 = Co.flat (Co.nums (Y ++ [(gf, g, (f : Int))]))) := Lib.hid (by rw [Co.nums_more, ← HRr.out, hu1, hu2, hu3])
        have n1 : u1.length = r.length + 2 := by rw [← hu1, List.length_append, Bn.bytes_len]
        have n2 : u2.length = u1.length + 2 := by rw [← hu2, List.length_append, Bn.bytes_len]
        have n3 : u3.length = u2.length + 2 := by rw [← hu3, List.length_append, Bn.bytes_len]
        have hul : u3.length = 6 * (m + 1) := by omega
        have x1 := fun W => cadd_to r _ u1 hu1 (by rw [Bn.bytes_len]; omega) W
        have x2 := fun W => cadd_to u1 _ u2 hu2 (by rw [Bn.bytes_len]; omega) W
        have x3 := fun W => cadd_to u2 _ u3 hu3 (by rw [Bn.bytes_len]; omega) W
        have s1 : (0 : Int) ≤ (k : Int) := by omega
        have s2 : (k : Int) < (n : Int) := by omega
        have s3 : (0 : Int) ≤ (f : Int) := by omega
        have s4 : (f : Int) < (n : Int) := by omega
        clear hu1 hu2 hu3 n1 n2 n3 ck3 cf3 hbw
        go_wp2_with fail
        go_region_held3 (fun W => TwoC b (off + f) (off + k) gf g W3 W) (first | assumption | exact HTr.out _ ((Lo.refl _).drew))
          (first | (go_at_call 24; refine (CBy.out _ _ (by omega) (by omega) (by assumption)).mono ?_; rintro e wB ⟨rfl, hSB⟩))
        all_goals
          have HL9 := Lib.hid (HL3.out.trans hSB.2.2.out)
          clear CBy x1 x2 x3 HTr hSB
          go_wp2_with fail
          go_roundw
          case rel => exact ⟨k + 1, k + 1, m + 1, o1, u3, _, by omega, by omega, by go_num, by go_num, by go_num, rfl, rfl, ho1l, hul, Lib.hid (by rw [List.length_append, HYm.out]; rfl), HO1, HU, HNX, HL9⟩
          case measure => simp [intOf]; omega
    · obtain rfl : k = n := by omega
      have HYT : Hid (Y = T) := Lib.hid (by
        have h := HY.out
        rw [HDn.out] at h
        rw [← h]; exact (List.append_nil Y).symm)
      have hmb : m ≤ 65535 := by
        have h1 := HYT.out
        have h2 := HYm.out
        have h3 := HTl.out
        rw [h1] at h2
        omega
      have HPm : Hid (Co.put l = if 6 * m < 2 * k then (Co.two l, 0) else (Co.one l, 0)) := Lib.hid (by rw [HP.out, ← HYT.out, HYm.out])
      have HOe : Hid (o = Co.one l) := Lib.hid (by rw [HO.out, HAll.out]; exact HOneF.out)
      obtain ⟨M, hM⟩ : ∃ M, [0, 2] ++ Bn.bytes (m : Int) 2 = M := ⟨_, rfl⟩
      obtain ⟨Z, hZ⟩ : ∃ Z, M ++ r = Z := ⟨_, rfl⟩
      have HTw : Hid (Z = Co.two l) := Lib.hid (by rw [← hZ]; exact HTwo.out r M (by rw [HRr.out, HYT.out]) (by rw [← HYT.out, HYm.out]; exact hM))
      have hMl : M.length = 4 := by rw [← hM, List.length_append, Bn.bytes_len]; rfl
      have x1 := fun W => cadd_to [0, 2] (Bn.bytes (m : Int) 2) M hM (by rw [Bn.bytes_len]; simp) W
      have x2 := fun W => cadd_to M r Z hZ (by omega) W
      have CBm := Lib.hid (fun W => cbytes2 (m : Int) W (by omega) (by omega))
      clear hM hZ
      by_cases hlt2 : 6 * m < 2 * k
      · rw [if_pos hlt2] at HPm
        have hq : 6 * (m : Int) < 2 * (k : Int) := by omega
        go_wp2_with fail
        refine (CBm.out _).mono ?_
        rintro e w2 ⟨rfl, lo⟩
        have HL3 := Lib.hid (HLw.out.trans lo)
        clear lo
        go_wp2_with fail
        go_ret2
        rw [HPm.out, ← HTw.out]
        exact ⟨rfl, HL3.out⟩
      · rw [if_neg hlt2] at HPm
        have hq : ¬ 6 * (m : Int) < 2 * (k : Int) := by omega
        go_wp2_with fail
        go_ret2
        rw [HPm.out, ← HOe.out]
        exact ⟨rfl, HLw.out⟩

/-- Put. -/
theorem rcput_any (v : Value) (l : List Int) (w : World) (h : Row w v l) (hn : l.length ≤ 1000000) : Calls Try.prog 25 #[v] w fun e w' => e = strErr (Co.put l) ∧ Lo w w' := by
  cases hc : Co.isCov l with
  | false => rw [show Co.put l = ([], 1) by unfold Co.put; rw [if_pos hc]]; exact rcput_arg v l w h hn hc
  | true => exact rcput_ok v l w h hc
end Go.Proofs.Ytjeahgdefdlabaa

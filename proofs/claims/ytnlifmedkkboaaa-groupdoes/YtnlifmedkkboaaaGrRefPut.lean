/-
  Contract of the document's Put (layer 10). No conditions beyond those stated.
-/
import Derived.Test.YtnlifmedkkboaaaGrRefSplit
import Derived.Test.YtnlifmedkkboaaaBnRefB
import Derived.Test.YtnlifmedkkboaaaBnPut
import Derived.Deep.RegionHeld3
namespace Go.Proofs.Ytnlifmedkkboaaa
open Go.RowKit

theorem gadd_run (a b : List UInt8) (h : a.length + b.length ≤ 100000000) (W : World) : (Op.stringOp .add ⟨a.toArray⟩ ⟨b.toArray⟩).run Try.prog W = .ok (.string ⟨(a ++ b).toArray⟩) W := by
  rw [run_string_add_sum W _ _ (by show a.length + b.length ≤ _; omega), Gk.cat_list]
theorem gadd_to (a b c : List UInt8) (hc : a ++ b = c) (h : a.length + b.length ≤ 100000000) (W : World) : (Op.stringOp .add ⟨a.toArray⟩ ⟨b.toArray⟩).run Try.prog W = .ok (.string ⟨c.toArray⟩) W := by
  rw [← hc]; exact gadd_run a b h W
theorem gbytes4 (x : Int) (W : World) (h0 : 0 ≤ x) (h1 : x < 4294967296) : Calls Try.prog 30 #[.int .i64 x, .int .i64 4] W fun e w' => e = .returned (.string ⟨(Bn.bytes x 4).toArray⟩) ∧ Lo W w' := by
  have h := rbytes_any x 4 W (by decide) (by unfold Bn.fits; rw [if_neg (by omega)]; simp; omega)
  rw [show ((4 : Int).natAbs) = 4 from rfl, show ((4 : Nat) : Int) = 4 from rfl] at h
  exact h
theorem gbytes2 (x : Int) (W : World) (h0 : 0 ≤ x) (h1 : x < 65536) : Calls Try.prog 30 #[.int .i64 x, .int .i64 2] W fun e w' => e = .returned (.string ⟨(Bn.bytes x 2).toArray⟩) ∧ Lo W w' := by
  have h := rbytes_any x 2 W (by decide) (by unfold Bn.fits; rw [if_neg (by omega)]; simp; omega)
  rw [show ((2 : Int).natAbs) = 2 from rfl, show ((2 : Nat) : Int) = 2 from rfl] at h
  exact h
abbrev TriAt (b o : Nat) (fr tt gl : Int) (w0 W : World) : Prop := W.cell? ⟨b, o, none⟩ = some (.int .i64 fr) ∧ W.cell? ⟨b, o + 1, none⟩ = some (.int .i64 tt) ∧ W.cell? ⟨b, o + 2, none⟩ = some (.int .i64 gl) ∧ Hid (Lo w0 W)

set_option maxHeartbeats 800000 in
theorem rgput_arg (p : Option Addr) (n c : Nat) (format : Int) (w : World) (h : format ≠ 12 ∧ format ≠ 13) :
    Calls Try.prog 13 #[.slice p n c, .int .i64 format] w fun e w' => e = strErr ([], 1) ∧ Lo w w' := by
  obtain ⟨q1, q2⟩ : (format != 12) = true ∧ (format != 13) = true := ⟨by simpa using h.1, by simpa using h.2⟩
  unfold strErr
  clear h
  go_enter Try.func13, Try.ntmps13
  go_wp2_with fail
  go_ret2
  exact ⟨rfl, Lo.refl _⟩

set_option maxHeartbeats 1600000 in
theorem rgput_err (v : Value) (l : List Ch.Span) (format : Int) (w : World) (hr : SRow w v l) (h : format = 12 ∨ format = 13) (he : (Gp.split l (13 - format)).2 ≠ 0) :
    Calls Try.prog 13 #[v, .int .i64 format] w fun e w' => e = strErr ([], (Gp.split l (13 - format)).2) ∧ Lo w w' := by
  have HSp := Lib.hid (fun W (hW : SRow W v l) => rsplit_any l v (13 - format) W hW)
  obtain ⟨p, c, rfl, _⟩ := RowK.form hr
  have HR := Lib.hid hr
  unfold GotSp at HSp
  generalize Gp.split l (13 - format) = y at *
  obtain ⟨K, z⟩ := y
  dsimp only at *
  have hz : (z != 0) = true := by simpa using he
  have hf : ((format != 12) = true ∧ (format != 13) = false) ∨ (format != 12) = false := by
    rcases h with rfl | rfl
    · exact .inr rfl
    · exact .inl ⟨rfl, rfl⟩
  have hb : 12 ≤ format ∧ format ≤ 13 := by omega
  unfold strErr
  clear h hr he
  rcases hf with ⟨q1, q2⟩ | q1
  · go_enter Try.func13, Try.ntmps13
    go_wp2_with fail
    refine (HSp.out _ HR.out).mono ?_
    rintro e w2 ⟨p2, c2, rfl, _, lo⟩
    have HL := Lib.hid lo
    clear lo HSp HR
    go_wp2_with fail
    go_ret2
    exact ⟨rfl, HL.out⟩
  · go_enter Try.func13, Try.ntmps13
    go_wp2_with fail
    refine (HSp.out _ HR.out).mono ?_
    rintro e w2 ⟨p2, c2, rfl, _, lo⟩
    have HL := Lib.hid lo
    clear lo HSp HR
    go_wp2_with fail
    go_ret2
    exact ⟨rfl, HL.out⟩

set_option maxRecDepth 100000 in
set_option maxHeartbeats 6400000 in
theorem rgput_ok (v : Value) (l : List Ch.Span) (format : Int) (w : World) (hr : SRow w v l) (h : format = 12 ∨ format = 13) (he : (Gp.split l (13 - format)).2 = 0) :
    Calls Try.prog 13 #[v, .int .i64 format] w fun e w' => e = strErr (Gp.file (Gp.split l (13 - format)).1 format, 0) ∧ Lo w w' := by
  have HSp := Lib.hid (fun W (hW : SRow W v l) => rsplit_any l v (13 - format) W hW)
  obtain ⟨p, c, rfl, _⟩ := RowK.form hr
  have HR := Lib.hid hr
  have hk := (Gp.split_right he).1
  unfold GotSp at HSp
  generalize Gp.split l (13 - format) = y at *
  obtain ⟨K, z⟩ := y
  dsimp only at *
  subst he
  have hn : K.length ≤ 65536 := by unfold Ch.isL at hk; simp only [Bool.and_eq_true, decide_eq_true_eq] at hk; exact hk.2
  have HK := Lib.hid (fun (x : Ch.Span) (hx : x ∈ K) => Ch.isL_ok hk hx)
  obtain ⟨F, hF⟩ : ∃ F, Gp.front K.length format = F := ⟨_, rfl⟩
  have HFl : Hid (F.length = 16) := Lib.hid (by rw [← hF]; unfold Gp.front; simp [Bn.bytes_len])
  have HSt : Hid (∀ k, k < K.length → F ++ He.flat 4 (Gp.nums (K.take k)) ++ Bn.bytes (K.getD k Ch.zs).fr 4 ++ Bn.bytes (K.getD k Ch.zs).to 4 ++ Bn.bytes (K.getD k Ch.zs).gl 4 = F ++ He.flat 4 (Gp.nums (K.take (k + 1)))) := Lib.hid (fun k hkk => Gp.file_step hkk F)
  have HS0 : Hid (F ++ He.flat 4 (Gp.nums (K.take 0)) = F) := Lib.hid (by rw [List.take_zero]; show F ++ [] = F; rw [List.append_nil])
  have HSn : Hid (F ++ He.flat 4 (Gp.nums (K.take K.length)) = Gp.file K format) := Lib.hid (by rw [List.take_length, Gp.file_front, hF])
  have HXK : Hid (∀ k, k < K.length → K[k]? = some (K.getD k Ch.zs)) := Lib.hid (fun k hkk => by simp [List.getD, List.getElem?_eq_getElem hkk])
  generalize Gp.file K format = FL at *
  unfold Gp.front at hF
  obtain ⟨n, hnn⟩ : ∃ n, K.length = n := ⟨_, rfl⟩
  rw [hnn] at hn HSp HSt HSn HXK hF
  rw [show ((16 + 12 * n : Nat) : Int) = 16 + 12 * (n : Int) by omega] at hF
  have hb : 12 ≤ format ∧ format ≤ 13 := by omega
  have CB2 := Lib.hid (fun W => gbytes2 format W (by omega) (by omega))
  have CBl := Lib.hid (fun W => gbytes4 (16 + 12 * (n : Int)) W (by omega) (by omega))
  have CBn := Lib.hid (fun W => gbytes4 (n : Int) W (by omega) (by omega))
  have z1 : (Bn.bytes format 2).length = 2 := Bn.bytes_len _ _
  have z3 : (Bn.bytes (16 + 12 * (n : Int)) 4).length = 4 := Bn.bytes_len _ _
  have z5 : (Bn.bytes (n : Int) 4).length = 4 := Bn.bytes_len _ _
  generalize Bn.bytes format 2 = y1 at *
  generalize Bn.bytes (16 + 12 * (n : Int)) 4 = y3 at *
  generalize Bn.bytes (n : Int) 4 = y5 at *
  have c1 := Gk.cat_list y1 [0, 0]
  have c2 := Gk.cat_list (y1 ++ [0, 0]) y3
  have c3 := Gk.cat_list (y1 ++ [0, 0] ++ y3) [0, 0, 0, 0]
  have c4 := Gk.cat_list (y1 ++ [0, 0] ++ y3 ++ [0, 0, 0, 0]) y5
  rw [hF] at c4
  have m1 : (y1 ++ [0, 0]).length = 4 := by rw [List.length_append, z1]; rfl
  have m2 : (y1 ++ [0, 0] ++ y3).length = 8 := by rw [List.length_append, m1, z3]
  have m3 : (y1 ++ [0, 0] ++ y3 ++ [0, 0, 0, 0]).length = 12 := by rw [List.length_append, m2]; rfl
  generalize y1 ++ [0, 0] ++ y3 ++ [0, 0, 0, 0] = t3 at *
  generalize y1 ++ [0, 0] ++ y3 = t2 at *
  generalize y1 ++ [0, 0] = t1 at *
  have e1 : (ByteArray.mk y1.toArray).size = 2 := z1
  have e2 : (ByteArray.mk t1.toArray).size = 4 := m1
  have e3 : (ByteArray.mk y3.toArray).size = 4 := z3
  have e4 : (ByteArray.mk t2.toArray).size = 8 := m2
  have e5 : (ByteArray.mk t3.toArray).size = 12 := m3
  have e6 : (ByteArray.mk y5.toArray).size = 4 := z5
  have hf : ((format != 12) = true ∧ (format != 13) = false) ∨ (format != 12) = false := by
    rcases h with rfl | rfl
    · exact .inr rfl
    · exact .inl ⟨rfl, rfl⟩
  unfold strErr
  have HNN := Lib.hid hnn
  clear h hr hk hnn hF z1 z3 z5 m1 m2 m3
  rcases hf with ⟨q1, q2⟩ | q1
  · go_enter Try.func13, Try.ntmps13
    go_wp2_with fail
    refine (HSp.out _ HR.out).mono ?_
    rintro e w2 ⟨p2, c2', rfl, hrow, lo⟩
    have HL := Lib.hid lo
    have HR2 := Lib.hid hrow
    clear lo HSp HR hrow
    go_wp2_with fail
    refine (CB2.out _).mono ?_
    rintro e w3 ⟨rfl, lo⟩
    have HLa := Lib.hid lo
    clear lo CB2
    go_wp2_with fail
    refine (CBl.out _).mono ?_
    rintro e w4 ⟨rfl, lo⟩
    have HLb := Lib.hid (HLa.out.trans lo)
    clear lo CBl HLa
    go_wp2_with fail
    refine (CBn.out _).mono ?_
    rintro e w5 ⟨rfl, lo⟩
    have HLc := Lib.hid (HLb.out.trans lo)
    clear lo CBn HLb
    go_wp2_with fail
    clear c1 c2 c3 c4 e1 e2 e3 e4 e5 e6
    go_loopw [8, 9] (fun so si W => ∃ (k : Nat) (o : List UInt8), k ≤ n ∧ si = .int .i64 (k : Int) ∧ so = .string ⟨o.toArray⟩ ∧ o.length = 16 + 12 * k ∧ Hid (o = F ++ He.flat 4 (Gp.nums (K.take k))) ∧ Hid (Lo w2 W)) (fun _ si _ => n - (intOf si).toNat)
    case atStart => exact ⟨0, F, Nat.zero_le _, rfl, rfl, HFl.out, Lib.hid HS0.out.symm, HLc⟩
    case round =>
      obtain ⟨k, o, hk, rfl, rfl, hol, HO, HL3⟩ := hrel
      by_cases hlt : k < n
      · have hx := HXK.out k hlt
        obtain ⟨b, off, rfl, r0, r1, r2, r3⟩ := SRow.at4 (RowK.lo HR2.out HL3.out) hx
        obtain ⟨a1, a2, a3, a4, a5, a6, a7, a8⟩ := (Ch.okSpan_iff _).1 (HK.out _ (List.mem_of_getElem? hx))
        have HO2 := Lib.hid (HSt.out k hlt)
        rw [← HO.out] at HO2
        clear hx a8
        generalize K.getD k Ch.zs = x at *
        obtain ⟨fr, tt, gl, st⟩ := x
        dsimp only at r0 r1 r2 r3 a1 a2 a3 a4 a5 a6 a7 HO2
        have hbw := World.block_lt_of_cell? wr _ r0
        have HTr : Hid (∀ W, Lo wr W → TriAt b (off + k * 4) fr tt gl wr W) := Lib.hid (fun W lo => ⟨(lo.cell hbw).trans r0, (lo.cell hbw).trans r1, (lo.cell hbw).trans r2, Lib.hid lo⟩)
        have CBy : Hid (∀ (x : Int) W, 0 ≤ x → x < 4294967296 → TriAt b (off + k * 4) fr tt gl wr W → Calls Try.prog 30 #[.int .i64 x, .int .i64 4] W fun e w' => e = .returned (.string ⟨(Bn.bytes x 4).toArray⟩) ∧ TriAt b (off + k * 4) fr tt gl wr w') := Lib.hid (fun x W h0 h1 hW => (gbytes4 x W h0 h1).mono fun _ _ ⟨h1, h2⟩ => ⟨h1, HTr.out _ (hW.2.2.2.out.trans h2)⟩)
        have v1 : (Bn.bytes fr 4).length = 4 := Bn.bytes_len _ _
        have v2 : (Bn.bytes tt 4).length = 4 := Bn.bytes_len _ _
        have v3 : (Bn.bytes gl 4).length = 4 := Bn.bytes_len _ _
        obtain ⟨u1, hu1⟩ : ∃ q, o ++ Bn.bytes fr 4 = q := ⟨_, rfl⟩
        obtain ⟨u2, hu2⟩ : ∃ q, u1 ++ Bn.bytes tt 4 = q := ⟨_, rfl⟩
        obtain ⟨u3, hu3⟩ : ∃ q, u2 ++ Bn.bytes gl 4 = q := ⟨_, rfl⟩
        rw [hu1, hu2, hu3] at HO2
        have n1 : u1.length = o.length + 4 := by rw [← hu1, List.length_append, v1]
        have n2 : u2.length = u1.length + 4 := by rw [← hu2, List.length_append, v2]
        have n3 : u3.length = u2.length + 4 := by rw [← hu3, List.length_append, v3]
        have hul : u3.length = 16 + 12 * (k + 1) := by omega
        have x1 := fun W => gadd_to o _ u1 hu1 (by omega) W
        have x2 := fun W => gadd_to u1 _ u2 hu2 (by omega) W
        have x3 := fun W => gadd_to u2 _ u3 hu3 (by omega) W
        have s3 : (0 : Int) ≤ (k : Int) := by omega
        have s4 : (k : Int) < (n : Int) := by omega
        clear hu1 hu2 hu3 n1 n2 n3 v1 v2 v3
        go_wp2_with fail
        clear r0 r1 r2 r3
        go_region_held3 (fun W => TriAt b (off + k * 4) fr tt gl wr W) (first | assumption | exact HTr.out _ ((Lo.refl _).drew))
          (first | (go_at_call 30; refine (CBy.out _ _ (by omega) (by omega) (by assumption)).mono ?_; rintro e wB ⟨rfl, hSB⟩))
        all_goals
          have HL9 := Lib.hid (HL3.out.trans hSB.2.2.2.out)
          clear CBy x1 x2 x3 HTr hSB
          go_wp2_with fail
          go_roundw
          case rel => exact ⟨k + 1, u3, by omega, by go_num, rfl, hul, HO2, HL9⟩
          case measure => simp [intOf]; omega
      · obtain rfl : k = n := by omega
        have HE : Hid (o = FL) := Lib.hid (by rw [HO.out, HSn.out])
        obtain rfl := HE.out
        have HL4 := Lib.hid (HL.out.trans HL3.out)
        go_wp2_with fail
        go_ret2
        exact ⟨rfl, HL4.out⟩
  · go_enter Try.func13, Try.ntmps13
    go_wp2_with fail
    refine (HSp.out _ HR.out).mono ?_
    rintro e w2 ⟨p2, c2', rfl, hrow, lo⟩
    have HL := Lib.hid lo
    have HR2 := Lib.hid hrow
    clear lo HSp HR hrow
    go_wp2_with fail
    refine (CB2.out _).mono ?_
    rintro e w3 ⟨rfl, lo⟩
    have HLa := Lib.hid lo
    clear lo CB2
    go_wp2_with fail
    refine (CBl.out _).mono ?_
    rintro e w4 ⟨rfl, lo⟩
    have HLb := Lib.hid (HLa.out.trans lo)
    clear lo CBl HLa
    go_wp2_with fail
    refine (CBn.out _).mono ?_
    rintro e w5 ⟨rfl, lo⟩
    have HLc := Lib.hid (HLb.out.trans lo)
    clear lo CBn HLb
    go_wp2_with fail
    clear c1 c2 c3 c4 e1 e2 e3 e4 e5 e6
    go_loopw [8, 9] (fun so si W => ∃ (k : Nat) (o : List UInt8), k ≤ n ∧ si = .int .i64 (k : Int) ∧ so = .string ⟨o.toArray⟩ ∧ o.length = 16 + 12 * k ∧ Hid (o = F ++ He.flat 4 (Gp.nums (K.take k))) ∧ Hid (Lo w2 W)) (fun _ si _ => n - (intOf si).toNat)
    case atStart => exact ⟨0, F, Nat.zero_le _, rfl, rfl, HFl.out, Lib.hid HS0.out.symm, HLc⟩
    case round =>
      obtain ⟨k, o, hk, rfl, rfl, hol, HO, HL3⟩ := hrel
      by_cases hlt : k < n
      · have hx := HXK.out k hlt
        obtain ⟨b, off, rfl, r0, r1, r2, r3⟩ := SRow.at4 (RowK.lo HR2.out HL3.out) hx
        obtain ⟨a1, a2, a3, a4, a5, a6, a7, a8⟩ := (Ch.okSpan_iff _).1 (HK.out _ (List.mem_of_getElem? hx))
        have HO2 := Lib.hid (HSt.out k hlt)
        rw [← HO.out] at HO2
        clear hx a8
        generalize K.getD k Ch.zs = x at *
        obtain ⟨fr, tt, gl, st⟩ := x
        dsimp only at r0 r1 r2 r3 a1 a2 a3 a4 a5 a6 a7 HO2
        have hbw := World.block_lt_of_cell? wr _ r0
        have HTr : Hid (∀ W, Lo wr W → TriAt b (off + k * 4) fr tt gl wr W) := Lib.hid (fun W lo => ⟨(lo.cell hbw).trans r0, (lo.cell hbw).trans r1, (lo.cell hbw).trans r2, Lib.hid lo⟩)
        have CBy : Hid (∀ (x : Int) W, 0 ≤ x → x < 4294967296 → TriAt b (off + k * 4) fr tt gl wr W → Calls Try.prog 30 #[.int .i64 x, .int .i64 4] W fun e w' => e = .returned (.string ⟨(Bn.bytes x 4).toArray⟩) ∧ TriAt b (off + k * 4) fr tt gl wr w') := Lib.hid (fun x W h0 h1 hW => (gbytes4 x W h0 h1).mono fun _ _ ⟨h1, h2⟩ => ⟨h1, HTr.out _ (hW.2.2.2.out.trans h2)⟩)
        have v1 : (Bn.bytes fr 4).length = 4 := Bn.bytes_len _ _
        have v2 : (Bn.bytes tt 4).length = 4 := Bn.bytes_len _ _
        have v3 : (Bn.bytes gl 4).length = 4 := Bn.bytes_len _ _
        obtain ⟨u1, hu1⟩ : ∃ q, o ++ Bn.bytes fr 4 = q := ⟨_, rfl⟩
        obtain ⟨u2, hu2⟩ : ∃ q, u1 ++ Bn.bytes tt 4 = q := ⟨_, rfl⟩
        obtain ⟨u3, hu3⟩ : ∃ q, u2 ++ Bn.bytes gl 4 = q := ⟨_, rfl⟩
        rw [hu1, hu2, hu3] at HO2
        have n1 : u1.length = o.length + 4 := by rw [← hu1, List.length_append, v1]
        have n2 : u2.length = u1.length + 4 := by rw [← hu2, List.length_append, v2]
        have n3 : u3.length = u2.length + 4 := by rw [← hu3, List.length_append, v3]
        have hul : u3.length = 16 + 12 * (k + 1) := by omega
        have x1 := fun W => gadd_to o _ u1 hu1 (by omega) W
        have x2 := fun W => gadd_to u1 _ u2 hu2 (by omega) W
        have x3 := fun W => gadd_to u2 _ u3 hu3 (by omega) W
        have s3 : (0 : Int) ≤ (k : Int) := by omega
        have s4 : (k : Int) < (n : Int) := by omega
        clear hu1 hu2 hu3 n1 n2 n3 v1 v2 v3
        go_wp2_with fail
        clear r0 r1 r2 r3
        go_region_held3 (fun W => TriAt b (off + k * 4) fr tt gl wr W) (first | assumption | exact HTr.out _ ((Lo.refl _).drew))
          (first | (go_at_call 30; refine (CBy.out _ _ (by omega) (by omega) (by assumption)).mono ?_; rintro e wB ⟨rfl, hSB⟩))
        all_goals
          have HL9 := Lib.hid (HL3.out.trans hSB.2.2.2.out)
          clear CBy x1 x2 x3 HTr hSB
          go_wp2_with fail
          go_roundw
          case rel => exact ⟨k + 1, u3, by omega, by go_num, rfl, hul, HO2, HL9⟩
          case measure => simp [intOf]; omega
      · obtain rfl : k = n := by omega
        have HE : Hid (o = FL) := Lib.hid (by rw [HO.out, HSn.out])
        obtain rfl := HE.out
        have HL4 := Lib.hid (HL.out.trans HL3.out)
        go_wp2_with fail
        go_ret2
        exact ⟨rfl, HL4.out⟩

/-- The document's Put. -/
theorem rgput_any (v : Value) (l : List Ch.Span) (format : Int) (w : World) (hr : SRow w v l) : Calls Try.prog 13 #[v, .int .i64 format] w fun e w' => e = strErr (Gp.put l format) ∧ Lo w w' := by
  unfold Gp.put
  by_cases c1 : format ≠ 12 ∧ format ≠ 13
  · rw [if_pos c1]
    obtain ⟨p, c, rfl, _⟩ := RowK.form hr
    exact rgput_arg p _ c format w c1
  · rw [if_neg c1]
    by_cases c2 : (Gp.split l (13 - format)).2 ≠ 0
    · rw [if_pos c2]; exact rgput_err v l format w hr (by omega) c2
    · rw [if_neg c2]; exact rgput_ok v l format w hr (by omega) (by simpa using c2)
end Go.Proofs.Ytnlifmedkkboaaa

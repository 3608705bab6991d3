/-
  Facts that the walks rest on: GrRefPut, SgManyF, SgRefMany. No conditions beyond those stated.
-/
import Derived.Test.YtppihpjcdieeoaaGreatDoorPart27
import Derived.Test.YtppihpjcdieeoaaGreatDoorPart19
import Derived.Deep.RegionHeld3
import Derived.Test.YtppihpjcdieeoaaGreatDoorPart21
import Derived.Test.YtppihpjcdieeoaaGreatDoorPart23
/-
  Contract of the document's Put (layer 10). No conditions beyond those stated.
-/
namespace Go.Proofs.YtppihpjcdieeoaaGreatDoor
open Go.RowKit

theorem gadd_run (a b : List UInt8) (h : a.length + b.length ≤ 100000000) (W : World) : (Op.stringOp .add ⟨a.toArray⟩ ⟨b.toArray⟩).run Tryz.prog W = .ok (.string ⟨(a ++ b).toArray⟩) W := by
  rw [run_string_add_sum W _ _ (by show a.length + b.length ≤ _; omega), Gk.cat_list]
theorem gadd_to (a b c : List UInt8) (hc : a ++ b = c) (h : a.length + b.length ≤ 100000000) (W : World) : (Op.stringOp .add ⟨a.toArray⟩ ⟨b.toArray⟩).run Tryz.prog W = .ok (.string ⟨c.toArray⟩) W := by
  rw [← hc]; exact gadd_run a b h W
theorem gbytes4 (x : Int) (W : World) (h0 : 0 ≤ x) (h1 : x < 4294967296) : Calls Tryz.prog 22 #[.int .i64 x, .int .i64 4] W fun e w' => e = .returned (.string ⟨(Bn.bytes x 4).toArray⟩) ∧ Lo W w' := by
  have h := rbytes_any x 4 W (by decide) (by unfold Bn.fits; rw [if_neg (by omega)]; simp; omega)
  rw [show ((4 : Int).natAbs) = 4 from rfl, show ((4 : Nat) : Int) = 4 from rfl] at h
  exact h
theorem gbytes2 (x : Int) (W : World) (h0 : 0 ≤ x) (h1 : x < 65536) : Calls Tryz.prog 22 #[.int .i64 x, .int .i64 2] W fun e w' => e = .returned (.string ⟨(Bn.bytes x 2).toArray⟩) ∧ Lo W w' := by
  have h := rbytes_any x 2 W (by decide) (by unfold Bn.fits; rw [if_neg (by omega)]; simp; omega)
  rw [show ((2 : Int).natAbs) = 2 from rfl, show ((2 : Nat) : Int) = 2 from rfl] at h
  exact h
abbrev TriAt (b o : Nat) (fr tt gl : Int) (w0 W : World) : Prop := W.cell? ⟨b, o, none⟩ = some (.int .i64 fr) ∧ W.cell? ⟨b, o + 1, none⟩ = some (.int .i64 tt) ∧ W.cell? ⟨b, o + 2, none⟩ = some (.int .i64 gl) ∧ Hid (Lo w0 W)

set_option maxHeartbeats 800000 in
theorem rgput_arg (p : Option Addr) (n c : Nat) (format : Int) (w : World) (h : format ≠ 12 ∧ format ≠ 13) :
    Calls Tryz.prog 76 #[.slice p n c, .int .i64 format] w fun e w' => e = strErr ([], 1) ∧ Lo w w' := by
  obtain ⟨q1, q2⟩ : (format != 12) = true ∧ (format != 13) = true := ⟨by simpa using h.1, by simpa using h.2⟩
  unfold strErr
  clear h
  go_enter Tryz.func76, Tryz.ntmps76
  go_wp2_with fail
  go_ret2
  exact ⟨rfl, Lo.refl _⟩

set_option maxHeartbeats 1600000 in
theorem rgput_err (v : Value) (l : List Ch.Span) (format : Int) (w : World) (hr : SRow w v l) (h : format = 12 ∨ format = 13) (he : (Gp.split l (13 - format)).2 ≠ 0) :
    Calls Tryz.prog 76 #[v, .int .i64 format] w fun e w' => e = strErr ([], (Gp.split l (13 - format)).2) ∧ Lo w w' := by
  have HSp := Lib.hid (fun W (hW : SRow W v l) => rsplit_any l v (13 - format) W hW)
  obtain ⟨p, c, rfl, _⟩ := RowK.form hr
  have HR := Lib.hid hr
  unfold GotSp at HSp
  generalize Gp.split l (13 - format) = y at *
  obtain ⟨K, z⟩ := y
  dsimp only at *
  have hz : (z != 0) = true := by simpa using he
  have hf : ((format != 12) = true ∧ (format != 13) = false) ∨ (format != 12) = false := by
    rcases h with rfl | rfl
    · exact .inr rfl
    · exact .inl ⟨rfl, rfl⟩
  have hb : 12 ≤ format ∧ format ≤ 13 := by omega
  unfold strErr
  clear h hr he
  rcases hf with ⟨q1, q2⟩ | q1
  · go_enter Tryz.func76, Tryz.ntmps76
    go_wp2_with fail
    refine (HSp.out _ HR.out).mono ?_
    rintro e w2 ⟨p2, c2, rfl, _, lo⟩
    have HL := Lib.hid lo
    clear lo HSp HR
    go_wp2_with fail
    go_ret2
    exact ⟨rfl, HL.out⟩
  · go_enter Tryz.func76, Tryz.ntmps76
    go_wp2_with fail
    refine (HSp.out _ HR.out).mono ?_
    rintro e w2 ⟨p2, c2, rfl, _, lo⟩
    have HL := Lib.hid lo
    clear lo HSp HR
    go_wp2_with fail
    go_ret2
    exact ⟨rfl, HL.out⟩

set_option maxRecDepth 100000 in
set_option maxHeartbeats 6400000 in
theorem rgput_ok (v : Value) (l : List Ch.Span) (format : Int) (w : World) (hr : SRow w v l) (h : format = 12 ∨ format = 13) (he : (Gp.split l (13 - format)).2 = 0) :
    Calls Tryz.prog 76 #[v, .int .i64 format] w fun e w' => e = strErr (Gp.file (Gp.split l (13 - format)).1 format, 0) ∧ Lo w w' := by
  have HSp := Lib.hid (fun W (hW : SRow W v l) => rsplit_any l v (13 - format) W hW)
  obtain ⟨p, c, rfl, _⟩ := RowK.form hr
  have HR := Lib.hid hr
  have hk := (Gp.split_right he).1
  unfold GotSp at HSp
  generalize Gp.split l (13 - format) = y at *
  obtain ⟨K, z⟩ := y
  dsimp only at *
  subst he
  have hn : K.length ≤ 65536 := by unfold Ch.isL at hk; simp only [Bool.and_eq_true, decide_eq_true_eq] at hk; exact hk.2
  have HK := Lib.hid (fun (x : Ch.Span) (hx : x ∈ K) => Ch.isL_ok hk hx)
  obtain ⟨F, hF⟩ : ∃ F, Gp.front K.length format = F := ⟨_, rfl⟩
  have HFl : Hid (F.length = 16) := Lib.hid (by rw [← hF]; unfold Gp.front; simp [Bn.bytes_len])
  have HSt : Hid (∀ k, k < K.length → F ++ He.flat 4 (Gp.nums (K.take k)) ++ Bn.bytes (K.getD k Ch.zs).fr 4 ++ Bn.bytes (K.getD k Ch.zs).to 4 ++ Bn.bytes (K.getD k Ch.zs).gl 4 = F ++ He.flat 4 (Gp.nums (K.take (k + 1)))) := Lib.hid (fun k hkk => Gp.file_step hkk F)
  have HS0 : Hid (F ++ He.flat 4 (Gp.nums (K.take 0)) = F) := Lib.hid (by rw [List.take_zero]; show F ++ [] = F; rw [List.append_nil])
  have HSn : Hid (F ++ He.flat 4 (Gp.nums (K.take K.length)) = Gp.file K format) := Lib.hid (by rw [List.take_length, Gp.file_front, hF])
  have HXK : Hid (∀ k, k < K.length → K[k]? = some (K.getD k Ch.zs)) := Lib.hid (fun k hkk => by simp [List.getD, List.getElem?_eq_getElem hkk])
  generalize Gp.file K format = FL at *
  unfold Gp.front at hF
  obtain ⟨n, hnn⟩ : ∃ n, K.length = n := ⟨_, rfl⟩
  rw [hnn] at hn HSp HSt HSn HXK hF
  rw [show ((16 + 12 * n : Nat) : Int) = 16 + 12 * (n : Int) by omega] at hF
  have hb : 12 ≤ format ∧ format ≤ 13 := by omega
  have CB2 := Lib.hid (fun W => gbytes2 format W (by omega) (by omega))
  have CBl := Lib.hid (fun W => gbytes4 (16 + 12 * (n : Int)) W (by omega) (by omega))
  have CBn := Lib.hid (fun W => gbytes4 (n : Int) W (by omega) (by omega))
  have z1 : (Bn.bytes format 2).length = 2 := Bn.bytes_len _ _
  have z3 : (Bn.bytes (16 + 12 * (n : Int)) 4).length = 4 := Bn.bytes_len _ _
  have z5 : (Bn.bytes (n : Int) 4).length = 4 := Bn.bytes_len _ _
  generalize Bn.bytes format 2 = y1 at *
  generalize Bn.bytes (16 + 12 * (n : Int)) 4 = y3 at *
  generalize Bn.bytes (n : Int) 4 = y5 at *
  have c1 := Gk.cat_list y1 [0, 0]
  have c2 := Gk.cat_list (y1 ++ [0, 0]) y3
  have c3 := Gk.cat_list (y1 ++ [0, 0] ++ y3) [0, 0, 0, 0]
  have c4 := Gk.cat_list (y1 ++ [0, 0] ++ y3 ++ [0, 0, 0, 0]) y5
  rw [hF] at c4
  have m1 : (y1 ++ [0, 0]).length = 4 := by rw [List.length_append, z1]; rfl
  have m2 : (y1 ++ [0, 0] ++ y3).length = 8 := by rw [List.length_append, m1, z3]
  have m3 : (y1 ++ [0, 0] ++ y3 ++ [0, 0, 0, 0]).length = 12 := by rw [List.length_append, m2]; rfl
  generalize y1 ++ [0, 0] ++ y3 ++ [0, 0, 0, 0] = t3 at *
  generalize y1 ++ [0, 0] ++ y3 = t2 at *
  generalize y1 ++ [0, 0] = t1 at *
  have e1 : (ByteArray.mk y1.toArray).size = 2 := z1
  have e2 : (ByteArray.mk t1.toArray).size = 4 := m1
  have e3 : (ByteArray.mk y3.toArray).size = 4 := z3
  have e4 : (ByteArray.mk t2.toArray).size = 8 := m2
  have e5 : (ByteArray.mk t3.toArray).size = 12 := m3
  have e6 : (ByteArray.mk y5.toArray).size = 4 := z5
  have hf : ((format != 12) = true ∧ (format != 13) = false) ∨ (format != 12) = false := by
    rcases h with rfl | rfl
    · exact .inr rfl
    · exact .inl ⟨rfl, rfl⟩
  unfold strErr
  have HNN := Lib.hid hnn
  clear h hr hk hnn hF z1 z3 z5 m1 m2 m3
  rcases hf with ⟨q1, q2⟩ | q1
  · go_enter Tryz.func76, Tryz.ntmps76
    go_wp2_with fail
    refine (HSp.out _ HR.out).mono ?_
    rintro e w2 ⟨p2, c2', rfl, hrow, lo⟩
    have HL := Lib.hid lo
    have HR2 := Lib.hid hrow
    clear lo HSp HR hrow
    go_wp2_with fail
    refine (CB2.out _).mono ?_
    rintro e w3 ⟨rfl, lo⟩
    have HLa := Lib.hid lo
    clear lo CB2
    go_wp2_with fail
    refine (CBl.out _).mono ?_
    rintro e w4 ⟨rfl, lo⟩
    have HLb := Lib.hid (HLa.out.trans lo)
    clear lo CBl HLa
    go_wp2_with fail
    refine (CBn.out _).mono ?_
    rintro e w5 ⟨rfl, lo⟩
    have HLc := Lib.hid (HLb.out.trans lo)
    clear lo CBn HLb
    go_wp2_with fail
    clear c1 c2 c3 c4 e1 e2 e3 e4 e5 e6
    go_loopw [8, 9] (fun so si W => ∃ (k : Nat) (o : List UInt8), k ≤ n ∧ si = .int .i64 (k : Int) ∧ so = .string ⟨o.toArray⟩ ∧ o.length = 16 + 12 * k ∧ Hid (o = F ++ He.flat 4 (Gp.nums (K.take k))) ∧ Hid (Lo w2 W)) (fun _ si _ => n - (intOf si).toNat)
    case atStart => exact ⟨0, F, Nat.zero_le _, rfl, rfl, HFl.out, Lib.hid HS0.out.symm, HLc⟩
    case round =>
      obtain ⟨k, o, hk, rfl, rfl, hol, HO, HL3⟩ := hrel
      by_cases hlt : k < n
      · have hx := HXK.out k hlt
        obtain ⟨b, off, rfl, r0, r1, r2, r3⟩ := SRow.at4 (RowK.lo HR2.out HL3.out) hx
        obtain ⟨a1, a2, a3, a4, a5, a6, a7, a8⟩ := (Ch.okSpan_iff _).1 (HK.out _ (List.mem_of_getElem? hx))
        have HO2 := Lib.hid (HSt.out k hlt)
        rw [← HO.out] at HO2
        clear hx a8
        generalize K.getD k Ch.zs = x at *
        obtain ⟨fr, tt, gl, st⟩ := x
        dsimp only at r0 r1 r2 r3 a1 a2 a3 a4 a5 a6 a7 HO2
        have hbw := World.block_lt_of_cell? wr _ r0
        have HTr : Hid (∀ W, Lo wr W → TriAt b (off + k * 4) fr tt gl wr W) := Lib.hid (fun W lo => ⟨(lo.cell hbw).trans r0, (lo.cell hbw).trans r1, (lo.cell hbw).trans r2, Lib.hid lo⟩)
        have CBy : Hid (∀ (x : Int) W, 0 ≤ x → x < 4294967296 → TriAt b (off + k * 4) fr tt gl wr W → Calls Tryz.prog 22 #[.int .i64 x, .int .i64 4] W fun e w' => e = .returned (.string ⟨(Bn.bytes x 4).toArray⟩) ∧ TriAt b (off + k * 4) fr tt gl wr w') := Lib.hid (fun x W h0 h1 hW => (gbytes4 x W h0 h1).mono fun _ _ ⟨h1, h2⟩ => ⟨h1, HTr.out _ (hW.2.2.2.out.trans h2)⟩)
        have v1 : (Bn.bytes fr 4).length = 4 := Bn.bytes_len _ _
        have v2 : (Bn.bytes tt 4).length = 4 := Bn.bytes_len _ _
        have v3 : (Bn.bytes gl 4).length = 4 := Bn.bytes_len _ _
        obtain ⟨u1, hu1⟩ : ∃ q, o ++ Bn.bytes fr 4 = q := ⟨_, rfl⟩
        obtain ⟨u2, hu2⟩ : ∃ q, u1 ++ Bn.bytes tt 4 = q := ⟨_, rfl⟩
        obtain ⟨u3, hu3⟩ : ∃ q, u2 ++ Bn.bytes gl 4 = q := ⟨_, rfl⟩
        rw [hu1, hu2, hu3] at HO2
        have n1 : u1.length = o.length + 4 := by rw [← hu1, List.length_append, v1]
        have n2 : u2.length = u1.length + 4 := by rw [← hu2, List.length_append, v2]
        have n3 : u3.length = u2.length + 4 := by rw [← hu3, List.length_append, v3]
        have hul : u3.length = 16 + 12 * (k + 1) := by omega
        have x1 := fun W => gadd_to o _ u1 hu1 (by omega) W
        have x2 := fun W => gadd_to u1 _ u2 hu2 (by omega) W
        have x3 := fun W => gadd_to u2 _ u3 hu3 (by omega) W
        have s3 : (0 : Int) ≤ (k : Int) := by omega
        have s4 : (k : Int) < (n : Int) := by omega
        clear hu1 hu2 hu3 n1 n2 n3 v1 v2 v3
        go_wp2_with fail
        clear r0 r1 r2 r3
        go_region_held3 (fun W => TriAt b (off + k * 4) fr tt gl wr W) (first | assumption | exact HTr.out _ ((Lo.refl _).drew))
          (first | (go_at_call 22; refine (CBy.out _ _ (by omega) (by omega) (by assumption)).mono ?_; rintro e wB ⟨rfl, hSB⟩))
        all_goals
          have HL9 := Lib.hid (HL3.out.trans hSB.2.2.2.out)
          clear CBy x1 x2 x3 HTr hSB
          go_wp2_with fail
          go_roundw
          case rel => exact ⟨k + 1, u3, by omega, by go_num, rfl, hul, HO2, HL9⟩
          case measure => simp [intOf]; omega
      · obtain rfl : k = n := by omega
        have HE : Hid (o = FL) := Lib.hid (by rw [HO.out, HSn.out])
        obtain rfl := HE.out
        have HL4 := Lib.hid (HL.out.trans HL3.out)
        go_wp2_with fail
        go_ret2
        exact ⟨rfl, HL4.out⟩
  · go_enter Tryz.func76, Tryz.ntmps76
    go_wp2_with fail
    refine (HSp.out _ HR.out).mono ?_
    rintro e w2 ⟨p2, c2', rfl, hrow, lo⟩
    have HL := Lib.hid lo
    have HR2 := Lib.hid hrow
    clear lo HSp HR hrow
    go_wp2_with fail
    refine (CB2.out _).mono ?_
    rintro e w3 ⟨rfl, lo⟩
    have HLa := Lib.hid lo
    clear lo CB2
    go_wp2_with fail
    refine (CBl.out _).mono ?_
    rintro e w4 ⟨rfl, lo⟩
    have HLb := Lib.hid (HLa.out.trans lo)
    clear lo CBl HLa
    go_wp2_with fail
    refine (CBn.out _).mono ?_
    rintro e w5 ⟨rfl, lo⟩
    have HLc := Lib.hid (HLb.out.trans lo)
    clear lo CBn HLb
    go_wp2_with fail
    clear c1 c2 c3 c4 e1 e2 e3 e4 e5 e6
    go_loopw [8, 9] (fun so si W => ∃ (k : Nat) (o : List UInt8), k ≤ n ∧ si = .int .i64 (k : Int) ∧ so = .string ⟨o.toArray⟩ ∧ o.length = 16 + 12 * k ∧ Hid (o = F ++ He.flat 4 (Gp.nums (K.take k))) ∧ Hid (Lo w2 W)) (fun _ si _ => n - (intOf si).toNat)
    case atStart => exact ⟨0, F, Nat.zero_le _, rfl, rfl, HFl.out, Lib.hid HS0.out.symm, HLc⟩
    case round =>
      obtain ⟨k, o, hk, rfl, rfl, hol, HO, HL3⟩ := hrel
      by_cases hlt : k < n
      · have hx := HXK.out k hlt
        obtain ⟨b, off, rfl, r0, r1, r2, r3⟩ := SRow.at4 (RowK.lo HR2.out HL3.out) hx
        obtain ⟨a1, a2, a3, a4, a5, a6, a7, a8⟩ := (Ch.okSpan_iff _).1 (HK.out _ (List.mem_of_getElem? hx))
        have HO2 := Lib.hid (HSt.out k hlt)
        rw [← HO.out] at HO2
        clear hx a8
        generalize K.getD k Ch.zs = x at *
        obtain ⟨fr, tt, gl, st⟩ := x
        dsimp only at r0 r1 r2 r3 a1 a2 a3 a4 a5 a6 a7 HO2
        have hbw := World.block_lt_of_cell? wr _ r0
        have HTr : Hid (∀ W, Lo wr W → TriAt b (off + k * 4) fr tt gl wr W) := Lib.hid (fun W lo => ⟨(lo.cell hbw).trans r0, (lo.cell hbw).trans r1, (lo.cell hbw).trans r2, Lib.hid lo⟩)
        have CBy : Hid (∀ (x : Int) W, 0 ≤ x → x < 4294967296 → TriAt b (off + k * 4) fr tt gl wr W → Calls Tryz.prog 22 #[.int .i64 x, .int .i64 4] W fun e w' => e = .returned (.string ⟨(Bn.bytes x 4).toArray⟩) ∧ TriAt b (off + k * 4) fr tt gl wr w') := Lib.hid (fun x W h0 h1 hW => (gbytes4 x W h0 h1).mono fun _ _ ⟨h1, h2⟩ => ⟨h1, HTr.out _ (hW.2.2.2.out.trans h2)⟩)
        have v1 : (Bn.bytes fr 4).length = 4 := Bn.bytes_len _ _
        have v2 : (Bn.bytes tt 4).length = 4 := Bn.bytes_len _ _
        have v3 : (Bn.bytes gl 4).length = 4 := Bn.bytes_len _ _
        obtain ⟨u1, hu1⟩ : ∃ q, o ++ Bn.bytes fr 4 = q := ⟨_, rfl⟩
        obtain ⟨u2, hu2⟩ : ∃ q, u1 ++ Bn.bytes tt 4 = q := ⟨_, rfl⟩
        obtain ⟨u3, hu3⟩ : ∃ q, u2 ++ Bn.bytes gl 4 = q := ⟨_, rfl⟩
        rw [hu1, hu2, hu3] at HO2
        have n1 : u1.length = o.length + 4 := by rw [← hu1, List.length_append, v1]
        have n2 : u2.length = u1.length + 4 := by rw [← hu2, List.length_append, v2]
        have n3 : u3.length = u2.length + 4 := by rw [← hu3, List.length_append, v3]
        have hul : u3.length = 16 + 12 * (k + 1) := by omega
        have x1 := fun W => gadd_to o _ u1 hu1 (by omega) W
        have x2 := fun W => gadd_to u1 _ u2 hu2 (by omega) W
        have x3 := fun W => gadd_to u2 _ u3 hu3 (by omega) W
        have s3 : (0 : Int) ≤ (k : Int) := by omega
        have s4 : (k : Int) < (n : Int) := by omega
        clear hu1 hu2 hu3 n1 n2 n3 v1 v2 v3
        go_wp2_with fail
        clear r0 r1 r2 r3
        go_region_held3 (fun W => TriAt b (off + k * 4) fr tt gl wr W) (first | assumption | exact HTr.out _ ((Lo.refl _).drew))
          (first | (go_at_call 22; refine (CBy.out _ _ (by omega) (by omega) (by assumption)).mono ?_; rintro e wB ⟨rfl, hSB⟩))
        all_goals
          have HL9 := Lib.hid (HL3.out.trans hSB.2.2.2.out)
          clear CBy x1 x2 x3 HTr hSB
          go_wp2_with fail
          go_roundw
          case rel => exact ⟨k + 1, u3, by omega, by go_num, rfl, hul, HO2, HL9⟩
          case measure => simp [intOf]; omega
      · obtain rfl : k = n := by omega
        have HE : Hid (o = FL) := Lib.hid (by rw [HO.out, HSn.out])
        obtain rfl := HE.out
        have HL4 := Lib.hid (HL.out.trans HL3.out)
        go_wp2_with fail
        go_ret2
        exact ⟨rfl, HL4.out⟩

/-- The document's Put. -/
theorem rgput_any (v : Value) (l : List Ch.Span) (format : Int) (w : World) (hr : SRow w v l) : Calls Tryz.prog 76 #[v, .int .i64 format] w fun e w' => e = strErr (Gp.put l format) ∧ Lo w w' := by
  unfold Gp.put
  by_cases c1 : format ≠ 12 ∧ format ≠ 13
  · rw [if_pos c1]
    obtain ⟨p, c, rfl, _⟩ := RowK.form hr
    exact rgput_arg p _ c format w c1
  · rw [if_neg c1]
    by_cases c2 : (Gp.split l (13 - format)).2 ≠ 0
    · rw [if_pos c2]; exact rgput_err v l format w hr (by omega) c2
    · rw [if_neg c2]; exact rgput_ok v l format w hr (by omega) (by simpa using c2)
end Go.Proofs.YtppihpjcdieeoaaGreatDoor
/-
  How many segments and listed glyphs, and what fits, told alike. No conditions.
-/
namespace Go.Proofs.YtppihpjcdieeoaaGreatDoor
open Go.RowKit

theorem fit_many (l : List Ch.Span) : (Sg.fit l).1.length = (Sg.manyOf l).1 ∧ (Sg.fit l).2.1 = (Sg.manyOf l).2.1 ∧ (Sg.fit l).2.2 = (Sg.manyOf l).2.2 := by
  unfold Sg.fit
  by_cases h : (Sg.manyOf l).2.2 = 0
  · rw [if_pos h]
    obtain ⟨_, _, _, h4, h5⟩ := Sg.manyOf_ok h
    exact ⟨h4.symm, by rw [h5, Sg.glyphs_whole], h.symm⟩
  · rw [if_neg h]
    obtain ⟨h1, h2, _⟩ := Sg.manyOf_no h
    exact ⟨h1.symm, h2.symm, rfl⟩

/-- Two numbers and an error, told. -/
def manyEnd (a : Nat × Nat × Int) : Ending := .returned (.tuple #[.int .i64 (a.1 : Int), .int .i64 (a.2.1 : Int), .int .i64 a.2.2])
end Go.Proofs.YtppihpjcdieeoaaGreatDoor
/-
  Contracts of the document's glyph, row, kept, Many (layer 9). No conditions beyond those stated.
-/
namespace Sg
open Ch
/-- The first k spans: none goes beyond 65535. -/
def upOk (l : List Span) (k : Nat) : Bool := (l.take k).all fun x => decide (x.to ≤ 65535)
theorem upOk_step {l : List Span} {k : Nat} (h : k < l.length) : upOk l (k + 1) = (upOk l k && decide ((l.getD k zs).to ≤ 65535)) := by
  unfold upOk
  rw [take_snoc h, List.all_append]
  simp
theorem up_no {l : List Span} {k : Nat} (hl : isL l = true) (h : k < (kept l).length) (hx : 65535 < ((kept l).getD k zs).to) : manyOf l = (0, 0, 7) := by
  unfold manyOf
  rw [if_neg (by rw [hl]; simp), if_pos]
  exact List.any_eq_true.2 ⟨_, getD_mem h, by simpa using hx⟩
theorem up_all {l : List Span} (h : upOk (kept l) (kept l).length = true) : ¬ (kept l).any (fun x => decide (65535 < x.to)) = true := by
  unfold upOk at h
  rw [List.take_length] at h
  intro he
  obtain ⟨x, hx, e⟩ := List.any_eq_true.1 he
  have := List.all_eq_true.1 h x hx
  simp at e this
  omega
theorem ended_step {l : List Span} {k : Nat} (h : k < l.length) : ended (l.take (k + 1)) = (ended (l.take k) || decide ((l.getD k zs).to = 65535)) := by
  unfold ended
  rw [take_snoc h, List.any_append]
  simp
theorem whole_len (l : List Span) : (whole l).length = if ended (kept l) = true then (kept l).length else (kept l).length + 1 := by
  unfold whole
  by_cases e : ended (kept l) = true
  · rw [if_pos e, if_pos e]
  · rw [if_neg e, if_neg e, List.length_append]; rfl
theorem many_end {l : List Span} (hl : isL l = true) (h : upOk (kept l) (kept l).length = true) (n : Nat) (hn : n = if ended (kept l) = true then (kept l).length else (kept l).length + 1) :
    (65535 < 16 + 8 * n + 2 * glyphs (kept l) → manyOf l = (0, 0, 7)) ∧ (¬ 65535 < 16 + 8 * n + 2 * glyphs (kept l) → manyOf l = (n, glyphs (kept l), 0)) := by
  rw [← whole_len] at hn
  subst hn
  have h1 : ¬ isL l = false := by rw [hl]; simp
  have h2 := up_all h
  constructor
  · intro hs
    unfold manyOf
    rw [if_neg h1, if_neg h2, if_pos hs]
  · intro hs
    unfold manyOf
    rw [if_neg h1, if_neg h2, if_neg hs]
end Sg
namespace Go.Proofs.YtppihpjcdieeoaaGreatDoor
open Go.RowKit

set_option maxHeartbeats 800000 in
theorem rglyph_any (x : Ch.Span) (w : World) : Calls Tryz.prog 138 #[aggS x] w fun e w' => e = .returned (.bool (Sg.hasGl x)) ∧ Lo w w' := by
  obtain ⟨fr, tt, gl, st⟩ := x
  unfold Sg.hasGl aggS
  dsimp only
  by_cases h1 : 0 < gl
  · rw [decide_eq_true h1, Bool.true_or]
    go_enter Tryz.func138, Tryz.ntmps138
    go_wp2_with fail
    go_ret
    exact ⟨rfl, (Lo.refl w).alloc _⟩
  · rw [decide_eq_false h1, Bool.false_or]
    by_cases h2 : st = 1
    · subst h2
      by_cases h3 : fr < tt
      · go_enter Tryz.func138, Tryz.ntmps138
        go_wp2_with fail
        go_ret
        exact ⟨ret_bool (by simp), (Lo.refl w).alloc _⟩
      · go_enter Tryz.func138, Tryz.ntmps138
        go_wp2_with fail
        go_ret
        exact ⟨ret_bool (by simp [h3]), (Lo.refl w).alloc _⟩
    · have hb : (st == 1) = false := by rw [beq_eq_false_iff_ne]; exact h2
      go_enter Tryz.func138, Tryz.ntmps138
      go_wp2_with fail
      go_ret
      exact ⟨ret_bool (by simp), (Lo.refl w).alloc _⟩

set_option maxHeartbeats 800000 in
theorem rrow_any (x : Ch.Span) (w : World) : Calls Tryz.prog 112 #[aggS x] w fun e w' => e = .returned (.bool (Sg.isRow x)) ∧ Lo w w' := by
  obtain ⟨fr, tt, gl, st⟩ := x
  unfold Sg.isRow aggS
  dsimp only
  by_cases h2 : st = 0
  · subst h2
    by_cases h3 : fr < tt
    · go_enter Tryz.func112, Tryz.ntmps112
      go_wp2_with fail
      go_ret
      exact ⟨ret_bool (by simp [h3]), (Lo.refl w).alloc _⟩
    · go_enter Tryz.func112, Tryz.ntmps112
      go_wp2_with fail
      go_ret
      exact ⟨ret_bool (by simp [h3]), (Lo.refl w).alloc _⟩
  · have hb : (st == 0) = false := by rw [beq_eq_false_iff_ne]; exact h2
    go_enter Tryz.func112, Tryz.ntmps112
    go_wp2_with fail
    go_ret
    exact ⟨ret_bool (by simp [h2]), (Lo.refl w).alloc _⟩

set_option maxRecDepth 100000 in
set_option maxHeartbeats 1600000 in
theorem rkept_any (v : Value) (l : List Ch.Span) (w : World) (h : SRow w v l) (hm : l.length ≤ 65536) : Calls Tryz.prog 111 #[v] w fun e w' => ∃ p c, e = .returned (.slice p (Sg.kept l).length c) ∧ OwnK encS 63 4 w' w.heap.size (.slice p (Sg.kept l).length c) (Sg.kept l) ∧ Lo w w' := by
  obtain ⟨p, c, rfl, hlen⟩ := RowK.form h
  have HR := Lib.hid h
  have HM := Lib.hid (fun (x : Ch.Span) (W : World) => rglyph_any x W)
  have HSt := Lib.hid (fun (k : Nat) (h : k < l.length) => Sg.kept_step h)
  have HLe : Hid (∀ k, (Sg.kept (l.take k)).length ≤ k) := Lib.hid (fun k => Nat.le_trans (Sg.kept_len _) (List.length_take_le _ _))
  have HAll : Hid (l.take l.length = l) := Lib.hid List.take_length
  generalize hnn : l.length = n at *
  have HN := Lib.hid hnn
  clear hnn h
  unfold aggS at HM
  go_enter Tryz.func111, Tryz.ntmps111
  go_wp2_with fail
  go_loopw [3, 4] (fun s3 s4 W => ∃ (k : Nat) (L : List Ch.Span) (q : Option Addr) (d : Nat), k ≤ n ∧ s4 = .int .i64 k ∧ s3 = .slice q L.length d ∧ Hid (L = Sg.kept (l.take k)) ∧ Hid (OwnK encS 63 4 W w.heap.size (.slice q L.length d) L) ∧ Hid (Lo w W)) (fun _ s4 _ => n - (intOf s4).toNat)
  case atStart => exact ⟨0, [], none, 0, Nat.zero_le _, rfl, rfl, Lib.hid rfl, Lib.hid (OwnK.none _ _ _ _ _), Lib.hid (Lo.refl _)⟩
  case round =>
    obtain ⟨k, L, q, d, hk, rfl, rfl, HT, HO, HL⟩ := hrel
    by_cases hlt : k < n
    · have hk' : k < l.length := by rw [HN.out]; exact hlt
      obtain ⟨b, off, rfl, r0, r1, r2, r3⟩ := SRow.at4 (RowK.lo HR.out HL.out) (Ch.getD_some hk')
      have HS1 := Lib.hid (HSt.out k hlt)
      have HLk : Hid (L.length ≤ k) := Lib.hid (by rw [HT.out]; exact HLe.out k)
      rw [← HT.out] at HS1
      have HM1 := Lib.hid (HM.out (l.getD k Ch.zs))
      have HC := Lib.hid (fun (W : World) (lo : Lo w W) => (SRow.at4 (RowK.lo HR.out lo) (Ch.getD_some hk')))
      clear hk'
      generalize l.getD k Ch.zs = x at *
      cases hu : Sg.hasGl x with
      | false =>
        have HT2 : Hid (L = Sg.kept (l.take (k + 1))) := Lib.hid (by rw [HS1.out, hu, if_neg (by simp), List.append_nil])
        rw [hu] at HM1
        clear hu HS1 HT
        go_wp2_with fail
        refine (HM1.out _).mono ?_
        rintro e w3 ⟨rfl, lo⟩
        have HL3 := Lib.hid (HL.out.trans lo)
        have HO3 := Lib.hid (OwnK.lo HO.out lo)
        clear lo HM1 r0 r1 r2 r3
        go_wp2_with fail
        go_roundw
        case rel => exact ⟨k + 1, L, q, d, by omega, by go_num, rfl, HT2, HO3, HL3⟩
        case measure => simp [intOf]; omega
      | true =>
        have HT2 : Hid (L ++ [x] = Sg.kept (l.take (k + 1))) := Lib.hid (by rw [HS1.out, hu, if_pos rfl])
        rw [hu] at HM1
        clear hu HS1 HT
        go_wp2_with fail
        refine (HM1.out _).mono ?_
        rintro e w3 ⟨rfl, lo⟩
        have HL3 := Lib.hid (HL.out.trans lo)
        have HO3 := Lib.hid (OwnK.lo HO.out lo)
        have HSZ := Lib.hid HL3.out.size
        obtain ⟨b', off', e', s0, s1, s2, s3⟩ := HC.out w3 HL3.out
        injection e' with e'
        injection e' with e1 e2
        subst e1 e2
        clear lo HM1 r0 r1 r2 r3
        go_wp2_with (at_builtin; refine wpList_appK _ rfl (.tmp 16) (.tmp 21) _ rfl 63 4 32 _ Tryz.underlying22 api_info rfl (by omega) (by omega) encS_len encS_one w.heap.size (.slice q L.length d) L rfl (OwnK.lo HO3.out ((Lo.refl _).alloc _)) _ [x] rfl (srow1 _ _ rfl x _) (by have := HLk.out; simp; omega) (by have := HSZ.out; simp; omega) ?_; intro q1 d1 w4 hown hlo; have HO4 := Lib.hid hown; have HL4 := Lib.hid (hlo w (HL3.out.alloc _) (Nat.le_refl _)); clear hown hlo)
        go_roundw
        case rel => exact ⟨k + 1, L ++ [x], q1, d1, by omega, by go_num, by simp, HT2, by simpa using HO4, HL4⟩
        case measure => simp [intOf]; omega
    · obtain rfl : k = n := by omega
      have HE : Hid (L = Sg.kept l) := Lib.hid (by rw [HT.out, HAll.out])
      go_wp2_with fail
      go_ret
      exact ⟨q, d, by rw [← HE.out]; rfl, by rw [← HE.out]; exact HO.out, HL.out⟩

set_option maxRecDepth 100000 in
set_option maxHeartbeats 6400000 in
theorem rmany_any (v : Value) (l : List Ch.Span) (w : World) (h : SRow w v l) : Calls Tryz.prog 110 #[v] w fun e w' => e = manyEnd (Sg.manyOf l) ∧ Lo w w' := by
  have HI := Lib.hid (ris_any v l w h)
  unfold manyEnd
  cases hl : Ch.isL l with
  | false =>
    have HE : Hid (Sg.manyOf l = (0, 0, 1)) := Lib.hid (by unfold Sg.manyOf; rw [if_pos hl])
    rw [hl] at HI
    rw [HE.out]
    clear hl HE
    obtain ⟨p, c, rfl, hlen⟩ := RowK.form h
    go_enter Tryz.func110, Tryz.ntmps110
    go_wp2_with fail
    refine HI.out.mono ?_
    rintro e w1 ⟨rfl, lo⟩
    have HL := Lib.hid lo
    clear lo HI
    go_wp2_with fail
    go_ret3
    exact ⟨rfl, HL.out⟩
  | true =>
    have hc := Sg.chain_kept l (-1) (Ch.isL_links hl)
    have hll := (Ch.isL_chain hl).2
    have HK := Lib.hid (fun (W : World) (h : SRow W v l) => rkept_any v l W h hll)
    have HRw := Lib.hid (fun (x : Ch.Span) (W : World) => rrow_any x W)
    have HNo := Lib.hid (fun (k : Nat) (hk : k < (Sg.kept l).length) hx => Sg.up_no hl hk hx)
    have HEnd := Lib.hid (fun hh n hn => Sg.many_end hl hh n hn)
    have HUp := Lib.hid (fun (k : Nat) (hk : k < (Sg.kept l).length) => Sg.upOk_step hk)
    have HEs := Lib.hid (fun (k : Nat) (hk : k < (Sg.kept l).length) => Sg.ended_step hk)
    have HGs := Lib.hid (fun (k : Nat) (hk : k < (Sg.kept l).length) => Sg.glyphs_step hk)
    have HTk := Lib.hid (fun (k : Nat) => Sg.glyphs_take (Sg.kept l) k)
    have HOk := Lib.hid (fun (k : Nat) (hk : k < (Sg.kept l).length) => (Ch.okSpan_iff _).1 (Ch.chain_mem hc _ (Ch.getD_mem hk)).1)
    have hgl : Sg.glyphs (Sg.kept l) ≤ 1114112 := by
      have h1 := Sg.glyphs_le _ _ hc
      have h2 := Sg.lastTo_le hc
      omega
    have hnb : (Sg.kept l).length ≤ 65536 := Nat.le_trans (Sg.kept_len l) hll
    have HGb := Lib.hid hgl
    have HA1 : Hid ((Sg.kept l).take (Sg.kept l).length = Sg.kept l) := Lib.hid List.take_length
    have HR := Lib.hid h
    rw [hl] at HI
    generalize Sg.manyOf l = y at *
    generalize Sg.kept l = K at *
    generalize hKn : K.length = n at *
    have HKn := Lib.hid hKn
    unfold aggS at HRw
    obtain ⟨p, c, rfl, hlen⟩ := RowK.form h
    clear hKn h hlen hc hl hgl hll
    go_enter Tryz.func110, Tryz.ntmps110
    go_wp2_with fail
    refine HI.out.mono ?_
    rintro e w1 ⟨rfl, lo⟩
    have HL := Lib.hid lo
    have HK1 := Lib.hid (HK.out w1 (RowK.lo HR.out lo))
    clear lo HI HK HR
    go_wp2_with fail
    refine HK1.out.mono ?_
    rintro e w2 ⟨q, d, rfl, hown, lo⟩
    have HL2 := Lib.hid (HL.out.trans lo)
    have HO := Lib.hid (OwnK.row encS_len hown)
    clear lo HK1 hown
    go_wp2_with fail
    go_loopw [5, 6, 7] (fun s5 s6 s7 W => ∃ k : Nat, k ≤ n ∧ s7 = .int .i64 k ∧ s5 = .int .i64 ((Sg.glyphs (K.take k) : Nat) : Int) ∧ s6 = .bool (Sg.ended (K.take k)) ∧ Hid (Sg.upOk K k = true) ∧ Hid (Lo w2 W)) (fun _ _ s7 _ => n - (intOf s7).toNat)
    case atStart => exact ⟨0, Nat.zero_le _, rfl, rfl, rfl, Lib.hid rfl, Lib.hid (Lo.refl _)⟩
    case round =>
      obtain ⟨k, hk, rfl, rfl, rfl, HU, HL3⟩ := hrel
      by_cases hlt : k < n
      · have hk' : k < K.length := by rw [HKn.out]; exact hlt
        have HC := Lib.hid (fun (W : World) (lo : Lo w2 W) => (SRow.at4 (RowK.lo HO.out lo) (Ch.getD_some hk')))
        obtain ⟨b, off, rfl, r0, r1, r2, r3⟩ := HC.out _ HL3.out
        obtain ⟨a1, a2, a3, a4, a5, a6, a7, a8⟩ := HOk.out k hlt
        have HNo1 := Lib.hid (HNo.out k hlt)
        have HUp1 := Lib.hid (HUp.out k hlt)
        have HEs1 := Lib.hid (HEs.out k hlt)
        have hgs := HGs.out k hlt
        have hgt := HTk.out (k + 1)
        have hgb := HGb.out
        have HGs1 := Lib.hid hgs
        have HRw1 := Lib.hid (HRw.out (K.getD k Ch.zs))
        have hwi : Sg.isRow (K.getD k Ch.zs) = true → ((Sg.wid (K.getD k Ch.zs) : Nat) : Int) = (K.getD k Ch.zs).to - (K.getD k Ch.zs).fr + 1 := fun h => by unfold Sg.wid; rw [if_pos h]; omega
        have hwn : Sg.isRow (K.getD k Ch.zs) = false → Sg.wid (K.getD k Ch.zs) = 0 := fun h => by unfold Sg.wid; rw [if_neg (by rw [h]; simp)]
        clear hk' a8
        generalize K.getD k Ch.zs = x at *
        generalize Sg.glyphs K = gK at *
        generalize Sg.glyphs (K.take k) = g1 at *
        generalize Sg.wid x = wd at *
        have hgbd : g1 + wd ≤ 1114112 := by omega
        clear hgs hgt hgb
        by_cases c1 : 65535 < x.to
        · have HE := Lib.hid (HNo1.out c1)
          clear HRw1 hwi hwn
          go_wp2_with fail
          go_ret3
          rw [HE.out]
          exact ⟨rfl, HL2.out.trans HL3.out⟩
        · have HU2 : Hid (Sg.upOk K (k + 1) = true) := Lib.hid (by rw [HUp1.out, HU.out]; simp; omega)
          cases hr : Sg.isRow x with
          | false =>
            have hw0 := hwn hr
            rw [hr] at HRw1
            clear hwi hwn hr
            go_wp2_with fail
            refine (HRw1.out _).mono ?_
            rintro e w3 ⟨rfl, lo⟩
            have HL4 := Lib.hid (HL3.out.trans lo)
            obtain ⟨b', off', e', s0, s1, s2, s3⟩ := HC.out w3 HL4.out
            injection e' with e'
            injection e' with e1 e2
            subst e1 e2
            clear lo HRw1 r0 r1 r2 r3
            generalize hen : Sg.ended (K.take k) = en at *
            cases en with
            | true =>
              go_wp2_with fail
              go_roundw
              case rel => exact ⟨k + 1, by omega, by go_num, by rw [HGs1.out, hw0]; rfl, by rw [HEs1.out]; rfl, HU2, HL4⟩
              case measure => simp [intOf]; omega
            | false =>
              go_wp2_with fail
              go_roundw
              case rel => exact ⟨k + 1, by omega, by go_num, by rw [HGs1.out, hw0]; rfl, by rw [HEs1.out, Bool.false_or]; rfl, HU2, HL4⟩
              case measure => simp [intOf]; omega
          | true =>
            have hw1 := hwi hr
            rw [hr] at HRw1
            clear hwi hwn hr
            go_wp2_with fail
            refine (HRw1.out _).mono ?_
            rintro e w3 ⟨rfl, lo⟩
            have HL4 := Lib.hid (HL3.out.trans lo)
            obtain ⟨b', off', e', s0, s1, s2, s3⟩ := HC.out w3 HL4.out
            injection e' with e'
            injection e' with e1 e2
            subst e1 e2
            clear lo HRw1 r0 r1 r2 r3
            go_wp2_with fail
            go_quiet (fail)
            have HL5 := Lib.hid (HL4.out.drewN nq)
            generalize hen : Sg.ended (K.take k) = en at *
            cases en with
            | true =>
              go_wp2_with fail
              go_roundw
              case rel => exact ⟨k + 1, by omega, by go_num, by rw [HGs1.out]; congr 1; omega, by rw [HEs1.out]; rfl, HU2, HL5⟩
              case measure => simp [intOf]; omega
            | false =>
              go_wp2_with fail
              go_roundw
              case rel => exact ⟨k + 1, by omega, by go_num, by rw [HGs1.out]; congr 1; omega, by rw [HEs1.out, Bool.false_or]; rfl, HU2, HL5⟩
              case measure => simp [intOf]; omega
      · obtain rfl : k = n := by omega
        rw [HA1.out]
        have HEn := Lib.hid (HEnd.out HU.out)
        have hgb := HGb.out
        have HLf := Lib.hid (HL2.out.trans HL3.out)
        generalize Sg.glyphs K = g at *
        generalize Sg.ended K = en at *
        cases en with
        | true =>
          have HE2 := Lib.hid (HEn.out k rfl)
          by_cases hs : 65535 < 16 + 8 * k + 2 * g
          · have HE := Lib.hid (HE2.out.1 hs)
            go_wp2_with fail
            go_ret3
            rw [HE.out]
            exact ⟨rfl, HLf.out⟩
          · have HE := Lib.hid (HE2.out.2 hs)
            go_wp2_with fail
            go_ret3
            rw [HE.out]
            exact ⟨rfl, HLf.out⟩
        | false =>
          have HE2 := Lib.hid (HEn.out (k + 1) rfl)
          by_cases hs : 65535 < 16 + 8 * (k + 1) + 2 * g
          · have HE := Lib.hid (HE2.out.1 hs)
            go_wp2_with fail
            go_ret3
            rw [HE.out]
            exact ⟨rfl, HLf.out⟩
          · have HE := Lib.hid (HE2.out.2 hs)
            go_wp2_with fail
            go_ret3
            rw [HE.out]
            exact ⟨rfl, HLf.out⟩
end Go.Proofs.YtppihpjcdieeoaaGreatDoor

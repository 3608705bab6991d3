/-
  Facts that the walks rest on: CmLawRec0, CmLawRec1, CmLawRecords, CmLaid. No conditions beyond those stated.
-/
import Derived.Test.YtppihpjcdieeoaaGreatDoorPart24
import Derived.Test.YtppihpjcdieeoaaGreatDoorPart25
import Derived.Test.YtppihpjcdieeoaaGreatDoorRows
import Derived.Test.YtppihpjcdieeoaaGreatDoorPart11
import Derived.Lib.LaidTab
import Derived.LaidMore
import Derived.ChangeSame
/-
  The law CmapRecords where both formats are put and the bytes stand as the records do. Condition: the row of ranked ids lies as it was laid.
-/
namespace Go.Proofs.YtppihpjcdieeoaaGreatDoor
open Go.RowKit Go.Shelf

set_option maxRecDepth 100000 in
set_option maxHeartbeats 6400000 in
theorem rec_go0 (v u : Value) (l m : List Ch.Span) (p q x y : Int) (w : World) (ht : RTab w) (hr : SRow w v l) (hu : SRow w u m) (hp1 : ¬ p < 0) (hq1 : ¬ q < 0) (hx1 : ¬ x < 0) (hy1 : ¬ y < 0) (hp2 : ¬ 65535 < p) (hq2 : ¬ 65535 < q) (hx2 : ¬ 65535 < x) (hy2 : ¬ 65535 < y) (ha : (Cm.put l 12).2 = 0) (hb : (Cm.put m 13).2 = 0) : Calls Tryz.prog 6 #[v, u, .int .i64 p, .int .i64 q, .int .i64 x, .int .i64 y, .bool false] w fun e w' => e = .returned (.bool true) ∧ Lo w w' := by
  have HP := Lib.hid (fun (v : Value) (W : World) (h : SRow W v l) => cmput_any v l 12 W h (by omega) (by omega))
  have HQ := Lib.hid (fun (v : Value) (W : World) (h : SRow W v m) => cmput_any v m 13 W h (by omega) (by omega))
  have HD := Lib.hid (fun W (hW : Lo w W) => mapped_any W (ht.lo hW))
  have HB1 := Lib.hid (fun W (hW : Lo w W) => best_any p q W (ht.lo hW))
  have HB2 := Lib.hid (fun W (hW : Lo w W) => best_any x y W (ht.lo hW))
  unfold strErr at HP HQ
  have HS := Lib.hid (short11_any v l w hr)
  have HS2 := Lib.hid (fun (W : World) (h : SRow W u m) => short11_any u m W h)
  unfold GotShort11 at HS HS2
  have HR := Lib.hid hr
  have HU := Lib.hid hu
  obtain ⟨pv, cv, rfl, _⟩ := RowK.form hr
  obtain ⟨pu, cu, rfl, _⟩ := RowK.form hu
  clear hr hu
  rw [ha] at HP
  rw [hb] at HQ
  obtain ⟨a1, a2⟩ := Cm.put_group (.inl rfl) ha
  obtain ⟨b1, b2⟩ := Cm.put_group (.inr rfl) hb
  have a3 := Cm.len_put l 12
  have b3 := Cm.len_put m 13
  have hxa := Gk.extract_from (Cm.put l 12).1 12
  have hxb := Gk.extract_from (Cm.put m 13).1 12
  have a4 : ((Cm.put l 12).1.drop 12).length ≤ 800012 := by rw [List.length_drop]; omega
  have b4 : ((Cm.put m 13).1.drop 12).length ≤ 800012 := by rw [List.length_drop]; omega
  have a5 := (Cm.read_gp a2).1
  have b5 := (Cm.read_gp b2).1
  generalize (Cm.put l 12).1.drop 12 = a at *
  generalize (Cm.put m 13).1.drop 12 = b at *
  generalize (Cm.put l 12).1 = A at *
  generalize (Cm.put m 13).1 = B at *
  have hA1 : ¬ (A.length : Int) < 28 := by omega
  have hB1 : ¬ (B.length : Int) < 28 := by omega
  have hA2 : (12 : Int) ≤ (A.length : Int) := by omega
  have hB2 : (12 : Int) ≤ (B.length : Int) := by omega
  have hget := Cm.records_plain (p := p) (q := q) (x := x) (y := y) a2 b2 ⟨by omega, by omega⟩ ⟨by omega, by omega⟩ ⟨by omega, by omega⟩ ⟨by omega, by omega⟩ (by omega)
  have CRa := Lib.hid (fun W => cread_any a W (by omega))
  have CRb := Lib.hid (fun W => cread_any b W (by omega))
  rw [← a5] at a2
  rw [← b5] at b2
  unfold GotSp at CRa CRb
  rw [a2] at CRa
  rw [b2] at CRb
  have CP := Lib.hid (fun W => cmbytes2 p W (by omega) (by omega))
  have CQ := Lib.hid (fun W => cmbytes2 q W (by omega) (by omega))
  have CX := Lib.hid (fun W => cmbytes2 x W (by omega) (by omega))
  have CY := Lib.hid (fun W => cmbytes2 y W (by omega) (by omega))
  have CF := Lib.hid (fun W => cmbytes4 20 W (by omega) (by omega))
  have CG := Lib.hid (fun W => cmbytes4 (20 + (a.length : Int)) W (by omega) (by omega))
  have z1 : (Bn.bytes p 2).length = 2 := Bn.bytes_len _ _
  have z2 : (Bn.bytes q 2).length = 2 := Bn.bytes_len _ _
  have z3 : (Bn.bytes 20 4).length = 4 := Bn.bytes_len _ _
  have z4 : (Bn.bytes x 2).length = 2 := Bn.bytes_len _ _
  have z5 : (Bn.bytes y 2).length = 2 := Bn.bytes_len _ _
  have z6 : (Bn.bytes (20 + (a.length : Int)) 4).length = 4 := Bn.bytes_len _ _
  unfold Cm.head2 at hget
  generalize Bn.bytes p 2 = y1 at *
  generalize Bn.bytes q 2 = y2 at *
  generalize Bn.bytes 20 4 = y3 at *
  generalize Bn.bytes x 2 = y4 at *
  generalize Bn.bytes y 2 = y5 at *
  generalize Bn.bytes (20 + (a.length : Int)) 4 = y6 at *
  have hwr : IntKind.i64.wrap (20 + (a.length : Int)) = 20 + (a.length : Int) := IntWalk.i64_in _ (by omega)
  have c1 := Gk.cat_list [0, 0, 0, 2] y1
  have c2 := Gk.cat_list ([0, 0, 0, 2] ++ y1) y2
  have c3 := Gk.cat_list ([0, 0, 0, 2] ++ y1 ++ y2) y3
  have c4 := Gk.cat_list ([0, 0, 0, 2] ++ y1 ++ y2 ++ y3) y4
  have c5 := Gk.cat_list ([0, 0, 0, 2] ++ y1 ++ y2 ++ y3 ++ y4) y5
  have c6 := Gk.cat_list ([0, 0, 0, 2] ++ y1 ++ y2 ++ y3 ++ y4 ++ y5) y6
  have c7 := Gk.cat_list ([0, 0, 0, 2] ++ y1 ++ y2 ++ y3 ++ y4 ++ y5 ++ y6) (a ++ b)
  have c8 := Gk.cat_list a b
  have m1 : ([0, 0, 0, 2] ++ y1).length = 6 := by rw [List.length_append, z1]; rfl
  have m2 : ([0, 0, 0, 2] ++ y1 ++ y2).length = 8 := by rw [List.length_append, m1, z2]
  have m3 : ([0, 0, 0, 2] ++ y1 ++ y2 ++ y3).length = 12 := by rw [List.length_append, m2, z3]
  have m4 : ([0, 0, 0, 2] ++ y1 ++ y2 ++ y3 ++ y4).length = 14 := by rw [List.length_append, m3, z4]
  have m5 : ([0, 0, 0, 2] ++ y1 ++ y2 ++ y3 ++ y4 ++ y5).length = 16 := by rw [List.length_append, m4, z5]
  have m6 : ([0, 0, 0, 2] ++ y1 ++ y2 ++ y3 ++ y4 ++ y5 ++ y6).length = 20 := by rw [List.length_append, m5, z6]
  have m7 : (a ++ b).length ≤ 1600024 := by rw [List.length_append]; omega
  have m9 : ([0, 0, 0, 2] ++ y1 ++ y2 ++ y3 ++ y4 ++ y5 ++ y6 ++ (a ++ b)).length ≤ 1600044 := by rw [List.length_append, m6]; omega
  have hlen : a.length + b.length ≤ 9223372036854775807 := by omega
  have hlen' : b.length + a.length ≤ 9223372036854775807 := by omega
  generalize [0, 0, 0, 2] ++ y1 ++ y2 ++ y3 ++ y4 ++ y5 ++ y6 ++ (a ++ b) = S at *
  generalize [0, 0, 0, 2] ++ y1 ++ y2 ++ y3 ++ y4 ++ y5 ++ y6 = t6 at *
  generalize [0, 0, 0, 2] ++ y1 ++ y2 ++ y3 ++ y4 ++ y5 = t5 at *
  generalize [0, 0, 0, 2] ++ y1 ++ y2 ++ y3 ++ y4 = t4 at *
  generalize [0, 0, 0, 2] ++ y1 ++ y2 ++ y3 = t3 at *
  generalize [0, 0, 0, 2] ++ y1 ++ y2 = t2 at *
  generalize [0, 0, 0, 2] ++ y1 = t1 at *
  generalize a ++ b = body at *
  have hlen2 : 20 + body.length ≤ 9223372036854775807 := by omega
  have HG := Lib.hid (fun W (hW : Lo w W) => cmget_any S W (by omega) (ht.lo hW))
  unfold GotSp at HG
  have i1 : (0 : Int) ≤ (Cm.best p q : Int) := by omega
  have i2 : (0 : Int) ≤ (Cm.best x y : Int) := by omega
  have HE0 : Hid ((Cm.best p q : Int) = 0 → (Cm.best x y : Int) = 0 → Cm.get S = ([], 6)) := Lib.hid (fun h1 h2 => by rw [hget, if_pos ⟨by omega, by omega⟩])
  have HE1 : Hid ((Cm.best p q : Int) < (Cm.best x y : Int) → Cm.get S = ((Cm.read b).1, 0)) := Lib.hid (fun h => by rw [hget, if_neg (by omega), if_pos (by omega)]; exact Prod.ext rfl b2)
  have HE2 : Hid ((Cm.best p q : Int) ≠ 0 → ¬ (Cm.best p q : Int) < (Cm.best x y : Int) → Cm.get S = ((Cm.read a).1, 0)) := Lib.hid (fun h1 h => by rw [hget, if_neg (by omega), if_neg (by omega)]; exact Prod.ext rfl a2)
  clear hget a2 b2 a5 b5 a1 b1 a3 b3 a4 b4 m7 ht ha hb
  generalize Cm.get S = an at *
  obtain ⟨G, k⟩ := an
  dsimp only at HG
  generalize (Cm.best p q : Int) = i at *
  generalize (Cm.best x y : Int) = t at *
  generalize (Cm.read a).1 = RA at *
  generalize (Cm.read b).1 = RB at *
  have HSa := Lib.hid (fun (v u : Value) (W : World) (h : SRow W v RA) (h2 : SRow W u RA) => ssame_any _ v u W h h2)
  have HSb := Lib.hid (fun (v u : Value) (W : World) (h : SRow W v RB) (h2 : SRow W u RB) => ssame_any _ v u W h h2)
  have e1 : (ByteArray.mk y1.toArray).size = 2 := z1
  have e2 : (ByteArray.mk y2.toArray).size = 2 := z2
  have e3 : (ByteArray.mk y3.toArray).size = 4 := z3
  have e4 : (ByteArray.mk y4.toArray).size = 2 := z4
  have e5 : (ByteArray.mk y5.toArray).size = 2 := z5
  have e6 : (ByteArray.mk y6.toArray).size = 4 := z6
  have d1 : (ByteArray.mk t1.toArray).size = 6 := m1
  have d2 : (ByteArray.mk t2.toArray).size = 8 := m2
  have d3 : (ByteArray.mk t3.toArray).size = 12 := m3
  have d4 : (ByteArray.mk t4.toArray).size = 14 := m4
  have d5 : (ByteArray.mk t5.toArray).size = 16 := m5
  have d6 : (ByteArray.mk t6.toArray).size = 20 := m6
  clear z1 z2 z3 z4 z5 z6 m1 m2 m3 m4 m5 m6
  go_enter Tryz.func6, Tryz.ntmps6
  go_wp2_with fail
  refine HS.out.mono ?_
  rintro e w1 ⟨b1, rfl, _, lo⟩
  have HL := Lib.hid lo
  have HR := Lib.hid (RowK.lo HR.out lo)
  have HU := Lib.hid (RowK.lo HU.out lo)
  have HS2 := Lib.hid (HS2.out _ HU.out)
  clear lo HS
  cases b1 with
  | false =>
    clear HP HQ HD HB1 HB2 CRa CRb CP CQ CX CY CF CG HG HSa HSb HE0 HE1 HE2 HR HU HS2
    go_wp2_with fail
    go_ret
    exact ⟨rfl, HL.out⟩
  | true =>
    go_wp2_with fail
    refine HS2.out.mono ?_
    rintro e w2 ⟨b2, rfl, _, lo⟩
    have HL := Lib.hid (HL.out.trans lo)
    have HR := Lib.hid (RowK.lo HR.out lo)
    have HU := Lib.hid (RowK.lo HU.out lo)
    clear lo HS2
    cases b2 with
    | false =>
      clear HP HQ HD HB1 HB2 CRa CRb CP CQ CX CY CF CG HG HSa HSb HE0 HE1 HE2 HR HU
      go_wp2_with fail
      go_ret
      exact ⟨rfl, HL.out⟩
    | true =>
      go_wp2_with fail
      refine (HP.out _ _ HR.out).mono ?_
      rintro e wX ⟨rfl, lo⟩
      have HL := Lib.hid (HL.out.trans lo)
      have HU := Lib.hid (RowK.lo HU.out lo)
      clear lo HP HR
      go_wp2_with fail
      refine (HQ.out _ _ HU.out).mono ?_
      rintro e wX ⟨rfl, lo⟩
      have HL := Lib.hid (HL.out.trans lo)
      clear lo HQ HU
      go_wp2_with fail
      refine (CP.out _).mono ?_
      rintro e wX ⟨rfl, lo⟩
      have HL := Lib.hid (HL.out.trans lo)
      clear lo CP
      go_wp2_with fail
      refine (CQ.out _).mono ?_
      rintro e wX ⟨rfl, lo⟩
      have HL := Lib.hid (HL.out.trans lo)
      clear lo CQ
      go_wp2_with fail
      refine (CF.out _).mono ?_
      rintro e wX ⟨rfl, lo⟩
      have HL := Lib.hid (HL.out.trans lo)
      clear lo CF
      go_wp2_with fail
      refine (CX.out _).mono ?_
      rintro e wX ⟨rfl, lo⟩
      have HL := Lib.hid (HL.out.trans lo)
      clear lo CX
      go_wp2_with fail
      refine (CY.out _).mono ?_
      rintro e wX ⟨rfl, lo⟩
      have HL := Lib.hid (HL.out.trans lo)
      clear lo CY
      go_wp2_with fail
      refine (CG.out _).mono ?_
      rintro e wX ⟨rfl, lo⟩
      have HL := Lib.hid (HL.out.trans lo)
      clear lo CG
      go_wp2_with fail
      refine (HG.out _ HL.out).mono ?_
      rintro e w3 ⟨p3, k3, rfl, hrow, lo⟩
      have HL := Lib.hid (HL.out.trans lo)
      have HM := Lib.hid hrow
      clear lo hrow HG c1 c2 c3 c4 c5 c6 c7 c8 e1 e2 e3 e4 e5 e6 d1 d2 d3 d4 d5 d6 hxa hxb hwr hlen hlen' hlen2 hA1 hB1 hA2 hB2
      go_wp2_with fail
      refine (HB1.out _ HL.out).mono ?_
      rintro e wX ⟨rfl, lo⟩
      have HL := Lib.hid (HL.out.trans lo)
      have HM := Lib.hid (RowK.lo HM.out lo)
      clear lo HB1
      go_wp2_with fail
      refine (HB2.out _ HL.out).mono ?_
      rintro e wX ⟨rfl, lo⟩
      have HL := Lib.hid (HL.out.trans lo)
      have HM := Lib.hid (RowK.lo HM.out lo)
      clear lo HB2
      by_cases hi : i = 0
      · subst hi
        by_cases hj : t = 0
        · subst hj
          obtain ⟨rfl, rfl⟩ := Prod.mk.inj (HE0.out rfl rfl)
          clear HE0 HE1 HE2 CRa CRb HSa HSb HM i1 i2
          go_wp2_with fail
          refine (HD.out _ HL.out).mono ?_
          rintro e wX ⟨rfl, lo⟩
          have HL := Lib.hid (HL.out.trans lo)
          clear lo HD
          go_wp2_with fail
          go_ret
          exact ⟨ret_bool (by simp), HL.out⟩
        · have hlt : 0 < t := by omega
          have hne : (t == 0) = false := by simpa using hj
          obtain ⟨rfl, rfl⟩ := Prod.mk.inj (HE1.out hlt)
          clear HE0 HE1 HE2 HSa i1 i2 hj
          go_wp2_with fail
          refine (CRa.out _).mono ?_
          rintro e w4 ⟨p4, k4, rfl, _, lo⟩
          have HL := Lib.hid (HL.out.trans lo)
          have HM := Lib.hid (RowK.lo HM.out lo)
          clear lo CRa
          go_wp2_with fail
          refine (CRb.out _).mono ?_
          rintro e w5 ⟨p5, k5, rfl, hrow, lo⟩
          have HL := Lib.hid (HL.out.trans lo)
          have HM := Lib.hid (RowK.lo HM.out lo)
          have HW := Lib.hid hrow
          clear lo hrow CRb
          go_wp2_with fail
          refine (HD.out _ HL.out).mono ?_
          rintro e wX ⟨rfl, lo⟩
          have HL := Lib.hid (HL.out.trans lo)
          have HM := Lib.hid (RowK.lo HM.out lo)
          have HW := Lib.hid (RowK.lo HW.out lo)
          clear lo HD
          go_wp2_with fail
          refine (HSb.out _ _ _ HM.out HW.out).mono ?_
          rintro e wX ⟨rfl, lo⟩
          have HL := Lib.hid (HL.out.trans lo)
          clear lo HSb
          go_wp2_with fail
          go_ret
          exact ⟨ret_bool (by simp), HL.out⟩
      · have hni : (i == 0) = false := by simpa using hi
        by_cases hlt : i < t
        · obtain ⟨rfl, rfl⟩ := Prod.mk.inj (HE1.out hlt)
          clear HE0 HE1 HE2 HSa i1 i2 hi
          go_wp2_with fail
          refine (CRa.out _).mono ?_
          rintro e w4 ⟨p4, k4, rfl, _, lo⟩
          have HL := Lib.hid (HL.out.trans lo)
          have HM := Lib.hid (RowK.lo HM.out lo)
          clear lo CRa
          go_wp2_with fail
          refine (CRb.out _).mono ?_
          rintro e w5 ⟨p5, k5, rfl, hrow, lo⟩
          have HL := Lib.hid (HL.out.trans lo)
          have HM := Lib.hid (RowK.lo HM.out lo)
          have HW := Lib.hid hrow
          clear lo hrow CRb
          go_wp2_with fail
          refine (HD.out _ HL.out).mono ?_
          rintro e wX ⟨rfl, lo⟩
          have HL := Lib.hid (HL.out.trans lo)
          have HM := Lib.hid (RowK.lo HM.out lo)
          have HW := Lib.hid (RowK.lo HW.out lo)
          clear lo HD
          go_wp2_with fail
          refine (HSb.out _ _ _ HM.out HW.out).mono ?_
          rintro e wX ⟨rfl, lo⟩
          have HL := Lib.hid (HL.out.trans lo)
          clear lo HSb
          go_wp2_with fail
          go_ret
          exact ⟨ret_bool (by simp), HL.out⟩
        · obtain ⟨rfl, rfl⟩ := Prod.mk.inj (HE2.out hi (by simpa using hlt))
          clear HE0 HE1 HE2 HSb CRb i1 i2 hi
          go_wp2_with fail
          refine (CRa.out _).mono ?_
          rintro e w4 ⟨p4, k4, rfl, hrow, lo⟩
          have HL := Lib.hid (HL.out.trans lo)
          have HM := Lib.hid (RowK.lo HM.out lo)
          have HW := Lib.hid hrow
          clear lo hrow CRa
          go_wp2_with fail
          refine (HD.out _ HL.out).mono ?_
          rintro e wX ⟨rfl, lo⟩
          have HL := Lib.hid (HL.out.trans lo)
          have HM := Lib.hid (RowK.lo HM.out lo)
          have HW := Lib.hid (RowK.lo HW.out lo)
          clear lo HD
          go_wp2_with fail
          refine (HSa.out _ _ _ HM.out HW.out).mono ?_
          rintro e wX ⟨rfl, lo⟩
          have HL := Lib.hid (HL.out.trans lo)
          clear lo HSa
          go_wp2_with fail
          go_ret
          exact ⟨ret_bool (by simp), HL.out⟩
end Go.Proofs.YtppihpjcdieeoaaGreatDoor
/-
  The law CmapRecords where both formats are put and the bytes stand the other way round. Condition: the row of ranked ids lies as it was laid.
-/
namespace Go.Proofs.YtppihpjcdieeoaaGreatDoor
open Go.RowKit Go.Shelf

set_option maxRecDepth 100000 in
set_option maxHeartbeats 6400000 in
theorem rec_go1 (v u : Value) (l m : List Ch.Span) (p q x y : Int) (w : World) (ht : RTab w) (hr : SRow w v l) (hu : SRow w u m) (hp1 : ¬ p < 0) (hq1 : ¬ q < 0) (hx1 : ¬ x < 0) (hy1 : ¬ y < 0) (hp2 : ¬ 65535 < p) (hq2 : ¬ 65535 < q) (hx2 : ¬ 65535 < x) (hy2 : ¬ 65535 < y) (ha : (Cm.put l 12).2 = 0) (hb : (Cm.put m 13).2 = 0) : Calls Tryz.prog 6 #[v, u, .int .i64 p, .int .i64 q, .int .i64 x, .int .i64 y, .bool true] w fun e w' => e = .returned (.bool true) ∧ Lo w w' := by
  have HP := Lib.hid (fun (v : Value) (W : World) (h : SRow W v l) => cmput_any v l 12 W h (by omega) (by omega))
  have HQ := Lib.hid (fun (v : Value) (W : World) (h : SRow W v m) => cmput_any v m 13 W h (by omega) (by omega))
  have HD := Lib.hid (fun W (hW : Lo w W) => mapped_any W (ht.lo hW))
  have HB1 := Lib.hid (fun W (hW : Lo w W) => best_any p q W (ht.lo hW))
  have HB2 := Lib.hid (fun W (hW : Lo w W) => best_any x y W (ht.lo hW))
  unfold strErr at HP HQ
  have HS := Lib.hid (short11_any v l w hr)
  have HS2 := Lib.hid (fun (W : World) (h : SRow W u m) => short11_any u m W h)
  unfold GotShort11 at HS HS2
  have HR := Lib.hid hr
  have HU := Lib.hid hu
  obtain ⟨pv, cv, rfl, _⟩ := RowK.form hr
  obtain ⟨pu, cu, rfl, _⟩ := RowK.form hu
  clear hr hu
  rw [ha] at HP
  rw [hb] at HQ
  obtain ⟨a1, a2⟩ := Cm.put_group (.inl rfl) ha
  obtain ⟨b1, b2⟩ := Cm.put_group (.inr rfl) hb
  have a3 := Cm.len_put l 12
  have b3 := Cm.len_put m 13
  have hxa := Gk.extract_from (Cm.put l 12).1 12
  have hxb := Gk.extract_from (Cm.put m 13).1 12
  have a4 : ((Cm.put l 12).1.drop 12).length ≤ 800012 := by rw [List.length_drop]; omega
  have b4 : ((Cm.put m 13).1.drop 12).length ≤ 800012 := by rw [List.length_drop]; omega
  have a5 := (Cm.read_gp a2).1
  have b5 := (Cm.read_gp b2).1
  generalize (Cm.put l 12).1.drop 12 = a at *
  generalize (Cm.put m 13).1.drop 12 = b at *
  generalize (Cm.put l 12).1 = A at *
  generalize (Cm.put m 13).1 = B at *
  have hA1 : ¬ (A.length : Int) < 28 := by omega
  have hB1 : ¬ (B.length : Int) < 28 := by omega
  have hA2 : (12 : Int) ≤ (A.length : Int) := by omega
  have hB2 : (12 : Int) ≤ (B.length : Int) := by omega
  have hget := Cm.records_turned (p := p) (q := q) (x := x) (y := y) a2 b2 ⟨by omega, by omega⟩ ⟨by omega, by omega⟩ ⟨by omega, by omega⟩ ⟨by omega, by omega⟩ (by omega)
  have CRa := Lib.hid (fun W => cread_any a W (by omega))
  have CRb := Lib.hid (fun W => cread_any b W (by omega))
  rw [← a5] at a2
  rw [← b5] at b2
  unfold GotSp at CRa CRb
  rw [a2] at CRa
  rw [b2] at CRb
  have CP := Lib.hid (fun W => cmbytes2 p W (by omega) (by omega))
  have CQ := Lib.hid (fun W => cmbytes2 q W (by omega) (by omega))
  have CX := Lib.hid (fun W => cmbytes2 x W (by omega) (by omega))
  have CY := Lib.hid (fun W => cmbytes2 y W (by omega) (by omega))
  have CF := Lib.hid (fun W => cmbytes4 (20 + (b.length : Int)) W (by omega) (by omega))
  have CG := Lib.hid (fun W => cmbytes4 20 W (by omega) (by omega))
  have z1 : (Bn.bytes p 2).length = 2 := Bn.bytes_len _ _
  have z2 : (Bn.bytes q 2).length = 2 := Bn.bytes_len _ _
  have z3 : (Bn.bytes (20 + (b.length : Int)) 4).length = 4 := Bn.bytes_len _ _
  have z4 : (Bn.bytes x 2).length = 2 := Bn.bytes_len _ _
  have z5 : (Bn.bytes y 2).length = 2 := Bn.bytes_len _ _
  have z6 : (Bn.bytes 20 4).length = 4 := Bn.bytes_len _ _
  unfold Cm.head2 at hget
  generalize Bn.bytes p 2 = y1 at *
  generalize Bn.bytes q 2 = y2 at *
  generalize Bn.bytes (20 + (b.length : Int)) 4 = y3 at *
  generalize Bn.bytes x 2 = y4 at *
  generalize Bn.bytes y 2 = y5 at *
  generalize Bn.bytes 20 4 = y6 at *
  have hwr : IntKind.i64.wrap (20 + (b.length : Int)) = 20 + (b.length : Int) := IntWalk.i64_in _ (by omega)
  have c1 := Gk.cat_list [0, 0, 0, 2] y1
  have c2 := Gk.cat_list ([0, 0, 0, 2] ++ y1) y2
  have c3 := Gk.cat_list ([0, 0, 0, 2] ++ y1 ++ y2) y3
  have c4 := Gk.cat_list ([0, 0, 0, 2] ++ y1 ++ y2 ++ y3) y4
  have c5 := Gk.cat_list ([0, 0, 0, 2] ++ y1 ++ y2 ++ y3 ++ y4) y5
  have c6 := Gk.cat_list ([0, 0, 0, 2] ++ y1 ++ y2 ++ y3 ++ y4 ++ y5) y6
  have c7 := Gk.cat_list ([0, 0, 0, 2] ++ y1 ++ y2 ++ y3 ++ y4 ++ y5 ++ y6) (b ++ a)
  have c8 := Gk.cat_list b a
  have m1 : ([0, 0, 0, 2] ++ y1).length = 6 := by rw [List.length_append, z1]; rfl
  have m2 : ([0, 0, 0, 2] ++ y1 ++ y2).length = 8 := by rw [List.length_append, m1, z2]
  have m3 : ([0, 0, 0, 2] ++ y1 ++ y2 ++ y3).length = 12 := by rw [List.length_append, m2, z3]
  have m4 : ([0, 0, 0, 2] ++ y1 ++ y2 ++ y3 ++ y4).length = 14 := by rw [List.length_append, m3, z4]
  have m5 : ([0, 0, 0, 2] ++ y1 ++ y2 ++ y3 ++ y4 ++ y5).length = 16 := by rw [List.length_append, m4, z5]
  have m6 : ([0, 0, 0, 2] ++ y1 ++ y2 ++ y3 ++ y4 ++ y5 ++ y6).length = 20 := by rw [List.length_append, m5, z6]
  have m7 : (b ++ a).length ≤ 1600024 := by rw [List.length_append]; omega
  have m9 : ([0, 0, 0, 2] ++ y1 ++ y2 ++ y3 ++ y4 ++ y5 ++ y6 ++ (b ++ a)).length ≤ 1600044 := by rw [List.length_append, m6]; omega
  have hlen : a.length + b.length ≤ 9223372036854775807 := by omega
  have hlen' : b.length + a.length ≤ 9223372036854775807 := by omega
  generalize [0, 0, 0, 2] ++ y1 ++ y2 ++ y3 ++ y4 ++ y5 ++ y6 ++ (b ++ a) = S at *
  generalize [0, 0, 0, 2] ++ y1 ++ y2 ++ y3 ++ y4 ++ y5 ++ y6 = t6 at *
  generalize [0, 0, 0, 2] ++ y1 ++ y2 ++ y3 ++ y4 ++ y5 = t5 at *
  generalize [0, 0, 0, 2] ++ y1 ++ y2 ++ y3 ++ y4 = t4 at *
  generalize [0, 0, 0, 2] ++ y1 ++ y2 ++ y3 = t3 at *
  generalize [0, 0, 0, 2] ++ y1 ++ y2 = t2 at *
  generalize [0, 0, 0, 2] ++ y1 = t1 at *
  generalize b ++ a = body at *
  have hlen2 : 20 + body.length ≤ 9223372036854775807 := by omega
  have HG := Lib.hid (fun W (hW : Lo w W) => cmget_any S W (by omega) (ht.lo hW))
  unfold GotSp at HG
  have i1 : (0 : Int) ≤ (Cm.best p q : Int) := by omega
  have i2 : (0 : Int) ≤ (Cm.best x y : Int) := by omega
  have HE0 : Hid ((Cm.best p q : Int) = 0 → (Cm.best x y : Int) = 0 → Cm.get S = ([], 6)) := Lib.hid (fun h1 h2 => by rw [hget, if_pos ⟨by omega, by omega⟩])
  have HE1 : Hid ((Cm.best p q : Int) < (Cm.best x y : Int) → Cm.get S = ((Cm.read b).1, 0)) := Lib.hid (fun h => by rw [hget, if_neg (by omega), if_pos (by omega)]; exact Prod.ext rfl b2)
  have HE2 : Hid ((Cm.best p q : Int) ≠ 0 → ¬ (Cm.best p q : Int) < (Cm.best x y : Int) → Cm.get S = ((Cm.read a).1, 0)) := Lib.hid (fun h1 h => by rw [hget, if_neg (by omega), if_neg (by omega)]; exact Prod.ext rfl a2)
  clear hget a2 b2 a5 b5 a1 b1 a3 b3 a4 b4 m7 ht ha hb
  generalize Cm.get S = an at *
  obtain ⟨G, k⟩ := an
  dsimp only at HG
  generalize (Cm.best p q : Int) = i at *
  generalize (Cm.best x y : Int) = t at *
  generalize (Cm.read a).1 = RA at *
  generalize (Cm.read b).1 = RB at *
  have HSa := Lib.hid (fun (v u : Value) (W : World) (h : SRow W v RA) (h2 : SRow W u RA) => ssame_any _ v u W h h2)
  have HSb := Lib.hid (fun (v u : Value) (W : World) (h : SRow W v RB) (h2 : SRow W u RB) => ssame_any _ v u W h h2)
  have e1 : (ByteArray.mk y1.toArray).size = 2 := z1
  have e2 : (ByteArray.mk y2.toArray).size = 2 := z2
  have e3 : (ByteArray.mk y3.toArray).size = 4 := z3
  have e4 : (ByteArray.mk y4.toArray).size = 2 := z4
  have e5 : (ByteArray.mk y5.toArray).size = 2 := z5
  have e6 : (ByteArray.mk y6.toArray).size = 4 := z6
  have d1 : (ByteArray.mk t1.toArray).size = 6 := m1
  have d2 : (ByteArray.mk t2.toArray).size = 8 := m2
  have d3 : (ByteArray.mk t3.toArray).size = 12 := m3
  have d4 : (ByteArray.mk t4.toArray).size = 14 := m4
  have d5 : (ByteArray.mk t5.toArray).size = 16 := m5
  have d6 : (ByteArray.mk t6.toArray).size = 20 := m6
  clear z1 z2 z3 z4 z5 z6 m1 m2 m3 m4 m5 m6
  go_enter Tryz.func6, Tryz.ntmps6
  go_wp2_with fail
  refine HS.out.mono ?_
  rintro e w1 ⟨b1, rfl, _, lo⟩
  have HL := Lib.hid lo
  have HR := Lib.hid (RowK.lo HR.out lo)
  have HU := Lib.hid (RowK.lo HU.out lo)
  have HS2 := Lib.hid (HS2.out _ HU.out)
  clear lo HS
  cases b1 with
  | false =>
    clear HP HQ HD HB1 HB2 CRa CRb CP CQ CX CY CF CG HG HSa HSb HE0 HE1 HE2 HR HU HS2
    go_wp2_with fail
    go_ret
    exact ⟨rfl, HL.out⟩
  | true =>
    go_wp2_with fail
    refine HS2.out.mono ?_
    rintro e w2 ⟨b2, rfl, _, lo⟩
    have HL := Lib.hid (HL.out.trans lo)
    have HR := Lib.hid (RowK.lo HR.out lo)
    have HU := Lib.hid (RowK.lo HU.out lo)
    clear lo HS2
    cases b2 with
    | false =>
      clear HP HQ HD HB1 HB2 CRa CRb CP CQ CX CY CF CG HG HSa HSb HE0 HE1 HE2 HR HU
      go_wp2_with fail
      go_ret
      exact ⟨rfl, HL.out⟩
    | true =>
      go_wp2_with fail
      refine (HP.out _ _ HR.out).mono ?_
      rintro e wX ⟨rfl, lo⟩
      have HL := Lib.hid (HL.out.trans lo)
      have HU := Lib.hid (RowK.lo HU.out lo)
      clear lo HP HR
      go_wp2_with fail
      refine (HQ.out _ _ HU.out).mono ?_
      rintro e wX ⟨rfl, lo⟩
      have HL := Lib.hid (HL.out.trans lo)
      clear lo HQ HU
      go_wp2_with fail
      refine (CP.out _).mono ?_
      rintro e wX ⟨rfl, lo⟩
      have HL := Lib.hid (HL.out.trans lo)
      clear lo CP
      go_wp2_with fail
      refine (CQ.out _).mono ?_
      rintro e wX ⟨rfl, lo⟩
      have HL := Lib.hid (HL.out.trans lo)
      clear lo CQ
      go_wp2_with fail
      refine (CF.out _).mono ?_
      rintro e wX ⟨rfl, lo⟩
      have HL := Lib.hid (HL.out.trans lo)
      clear lo CF
      go_wp2_with fail
      refine (CX.out _).mono ?_
      rintro e wX ⟨rfl, lo⟩
      have HL := Lib.hid (HL.out.trans lo)
      clear lo CX
      go_wp2_with fail
      refine (CY.out _).mono ?_
      rintro e wX ⟨rfl, lo⟩
      have HL := Lib.hid (HL.out.trans lo)
      clear lo CY
      go_wp2_with fail
      refine (CG.out _).mono ?_
      rintro e wX ⟨rfl, lo⟩
      have HL := Lib.hid (HL.out.trans lo)
      clear lo CG
      go_wp2_with fail
      refine (HG.out _ HL.out).mono ?_
      rintro e w3 ⟨p3, k3, rfl, hrow, lo⟩
      have HL := Lib.hid (HL.out.trans lo)
      have HM := Lib.hid hrow
      clear lo hrow HG c1 c2 c3 c4 c5 c6 c7 c8 e1 e2 e3 e4 e5 e6 d1 d2 d3 d4 d5 d6 hxa hxb hwr hlen hlen' hlen2 hA1 hB1 hA2 hB2
      go_wp2_with fail
      refine (HB1.out _ HL.out).mono ?_
      rintro e wX ⟨rfl, lo⟩
      have HL := Lib.hid (HL.out.trans lo)
      have HM := Lib.hid (RowK.lo HM.out lo)
      clear lo HB1
      go_wp2_with fail
      refine (HB2.out _ HL.out).mono ?_
      rintro e wX ⟨rfl, lo⟩
      have HL := Lib.hid (HL.out.trans lo)
      have HM := Lib.hid (RowK.lo HM.out lo)
      clear lo HB2
      by_cases hi : i = 0
      · subst hi
        by_cases hj : t = 0
        · subst hj
          obtain ⟨rfl, rfl⟩ := Prod.mk.inj (HE0.out rfl rfl)
          clear HE0 HE1 HE2 CRa CRb HSa HSb HM i1 i2
          go_wp2_with fail
          refine (HD.out _ HL.out).mono ?_
          rintro e wX ⟨rfl, lo⟩
          have HL := Lib.hid (HL.out.trans lo)
          clear lo HD
          go_wp2_with fail
          go_ret
          exact ⟨ret_bool (by simp), HL.out⟩
        · have hlt : 0 < t := by omega
          have hne : (t == 0) = false := by simpa using hj
          obtain ⟨rfl, rfl⟩ := Prod.mk.inj (HE1.out hlt)
          clear HE0 HE1 HE2 HSa i1 i2 hj
          go_wp2_with fail
          refine (CRa.out _).mono ?_
          rintro e w4 ⟨p4, k4, rfl, _, lo⟩
          have HL := Lib.hid (HL.out.trans lo)
          have HM := Lib.hid (RowK.lo HM.out lo)
          clear lo CRa
          go_wp2_with fail
          refine (CRb.out _).mono ?_
          rintro e w5 ⟨p5, k5, rfl, hrow, lo⟩
          have HL := Lib.hid (HL.out.trans lo)
          have HM := Lib.hid (RowK.lo HM.out lo)
          have HW := Lib.hid hrow
          clear lo hrow CRb
          go_wp2_with fail
          refine (HD.out _ HL.out).mono ?_
          rintro e wX ⟨rfl, lo⟩
          have HL := Lib.hid (HL.out.trans lo)
          have HM := Lib.hid (RowK.lo HM.out lo)
          have HW := Lib.hid (RowK.lo HW.out lo)
          clear lo HD
          go_wp2_with fail
          refine (HSb.out _ _ _ HM.out HW.out).mono ?_
          rintro e wX ⟨rfl, lo⟩
          have HL := Lib.hid (HL.out.trans lo)
          clear lo HSb
          go_wp2_with fail
          go_ret
          exact ⟨ret_bool (by simp), HL.out⟩
      · have hni : (i == 0) = false := by simpa using hi
        by_cases hlt : i < t
        · obtain ⟨rfl, rfl⟩ := Prod.mk.inj (HE1.out hlt)
          clear HE0 HE1 HE2 HSa i1 i2 hi
          go_wp2_with fail
          refine (CRa.out _).mono ?_
          rintro e w4 ⟨p4, k4, rfl, _, lo⟩
          have HL := Lib.hid (HL.out.trans lo)
          have HM := Lib.hid (RowK.lo HM.out lo)
          clear lo CRa
          go_wp2_with fail
          refine (CRb.out _).mono ?_
          rintro e w5 ⟨p5, k5, rfl, hrow, lo⟩
          have HL := Lib.hid (HL.out.trans lo)
          have HM := Lib.hid (RowK.lo HM.out lo)
          have HW := Lib.hid hrow
          clear lo hrow CRb
          go_wp2_with fail
          refine (HD.out _ HL.out).mono ?_
          rintro e wX ⟨rfl, lo⟩
          have HL := Lib.hid (HL.out.trans lo)
          have HM := Lib.hid (RowK.lo HM.out lo)
          have HW := Lib.hid (RowK.lo HW.out lo)
          clear lo HD
          go_wp2_with fail
          refine (HSb.out _ _ _ HM.out HW.out).mono ?_
          rintro e wX ⟨rfl, lo⟩
          have HL := Lib.hid (HL.out.trans lo)
          clear lo HSb
          go_wp2_with fail
          go_ret
          exact ⟨ret_bool (by simp), HL.out⟩
        · obtain ⟨rfl, rfl⟩ := Prod.mk.inj (HE2.out hi (by simpa using hlt))
          clear HE0 HE1 HE2 HSb CRb i1 i2 hi
          go_wp2_with fail
          refine (CRa.out _).mono ?_
          rintro e w4 ⟨p4, k4, rfl, hrow, lo⟩
          have HL := Lib.hid (HL.out.trans lo)
          have HM := Lib.hid (RowK.lo HM.out lo)
          have HW := Lib.hid hrow
          clear lo hrow CRa
          go_wp2_with fail
          refine (HD.out _ HL.out).mono ?_
          rintro e wX ⟨rfl, lo⟩
          have HL := Lib.hid (HL.out.trans lo)
          have HM := Lib.hid (RowK.lo HM.out lo)
          have HW := Lib.hid (RowK.lo HW.out lo)
          clear lo HD
          go_wp2_with fail
          refine (HSa.out _ _ _ HM.out HW.out).mono ?_
          rintro e wX ⟨rfl, lo⟩
          have HL := Lib.hid (HL.out.trans lo)
          clear lo HSa
          go_wp2_with fail
          go_ret
          exact ⟨ret_bool (by simp), HL.out⟩
end Go.Proofs.YtppihpjcdieeoaaGreatDoor
/-
  The walk of the law CmapRecords. Condition: the row of ranked ids lies as it was laid.
-/
namespace Go.Proofs.YtppihpjcdieeoaaGreatDoor
open Go.RowKit Go.Shelf

theorem cmapRecords_walk (v : Value) (l : List Ch.Span) (u : Value) (m : List Ch.Span) (p q x y : Int) (tn : Bool) (w : World) (ht : RTab w) (hr : SRow w v l) (hu : SRow w u m) (_wp : (Lit.int .i64 p).wf = true) (_wq : (Lit.int .i64 q).wf = true) (_wx : (Lit.int .i64 x).wf = true) (_wy : (Lit.int .i64 y).wf = true) : Calls Tryz.prog 6 #[v, u, .int .i64 p, .int .i64 q, .int .i64 x, .int .i64 y, .bool tn] w fun e w' => e = .returned (.bool true) ∧ Lo w w' := by
  by_cases h0 : p < 0
  · exact rec_out0 v u l m p q x y tn w hr hu h0
  by_cases h1 : q < 0
  · exact rec_out1 v u l m p q x y tn w hr hu h0 h1
  by_cases h2 : x < 0
  · exact rec_out2 v u l m p q x y tn w hr hu h0 h1 h2
  by_cases h3 : y < 0
  · exact rec_out3 v u l m p q x y tn w hr hu h0 h1 h2 h3
  by_cases h4 : 65535 < p
  · exact rec_out4 v u l m p q x y tn w hr hu h0 h1 h2 h3 h4
  by_cases h5 : 65535 < q
  · exact rec_out5 v u l m p q x y tn w hr hu h0 h1 h2 h3 h4 h5
  by_cases h6 : 65535 < x
  · exact rec_out6 v u l m p q x y tn w hr hu h0 h1 h2 h3 h4 h5 h6
  by_cases h7 : 65535 < y
  · exact rec_out7 v u l m p q x y tn w hr hu h0 h1 h2 h3 h4 h5 h6 h7
  by_cases ha : (Cm.put l 12).2 = 0
  · by_cases hb : (Cm.put m 13).2 = 0
    · cases tn with
      | false => exact rec_go0 v u l m p q x y w ht hr hu h0 h1 h2 h3 h4 h5 h6 h7 ha hb
      | true => exact rec_go1 v u l m p q x y w ht hr hu h0 h1 h2 h3 h4 h5 h6 h7 ha hb
    · exact rec_nob v u l m p q x y tn w ht hr hu h0 h1 h2 h3 h4 h5 h6 h7 ha hb
  · exact rec_noa v u l m p q x y tn w ht hr hu h0 h1 h2 h3 h4 h5 h6 h7 ha
end Go.Proofs.YtppihpjcdieeoaaGreatDoor
/-
  A row that lists the program's row of ranked ids as it is laid gives RTab. No other conditions.
-/
namespace Go.Proofs.YtppihpjcdieeoaaGreatDoor
open Go.ChangeShapes Go.WideShapes Go.RowKit

theorem pairs_flat (cs : List Value) (zs : List (Int × Int)) (hl : cs.length = 2 * zs.length) (h : ∀ i z, zs[i]? = some z → (cs.drop (i * 2)).take 2 = [.int .i64 z.1, .int .i64 z.2]) :
    cs = zs.flatMap fun z => [.int .i64 z.1, .int .i64 z.2] := by
  induction zs generalizing cs with
  | nil => simpa using hl
  | cons z zs ih =>
    have h0 := h 0 z (by simp)
    match cs, hl with
    | a :: b :: r, hl =>
      simp at h0
      obtain ⟨rfl, rfl⟩ := h0
      have := ih r (by simp at hl; omega) (fun i y hy => by
        have := h (i + 1) y (by simpa using hy)
        rw [show (i + 1) * 2 = i * 2 + 2 by omega] at this
        simpa using this)
      simp [List.flatMap_cons, ← this]

def rankPairs : List (Int × Int) := [(1, 0), (0, 0), (0, 1), (0, 2), (0, 3), (3, 1), (0, 4), (0, 6), (3, 10)]

theorem cells_of_ranks {H : Type} {enc : TypeId × Value → H} {w : World} {base : Nat} {sp : Nat → Bool} {held : Bool} {fuel : Nat} {cs : List Value} {p : List MemPlace}
    (h : DataW.trod enc Tryz.prog w base sp held fuel 64 cs = some (.agg (rankPairs.map fun z => .agg [.lit (.int .i64 z.1), .lit (.int .i64 z.2)]), p)) :
    cs = rankPairs.flatMap fun z => [.int .i64 z.1, .int .i64 z.2] := by
  have ce : Tryz.prog.cellsOf 57 = 2 := by kernel_rfl
  have ci : Tryz.prog.cellsOf 3 = 1 := by kernel_rfl
  have ct : Tryz.prog.cellsOf 64 = 18 := by kernel_rfl
  cases fuel with
  | zero => simp [DataW.trod] at h
  | succ fuel =>
    simp only [DataW.trod, Tryz.underlying64, ce, ct] at h
    split at h
    · rename_i hl
      obtain ⟨xs, hm, hx⟩ := Option.map_eq_some_iff.1 h
      have hxs : xs.map (·.1) = rankPairs.map fun z => (DataW.agg [.lit (.int .i64 z.1), .lit (.int .i64 z.2)] : DataW H) := by
        have := congrArg Prod.fst hx
        simpa using this
      refine pairs_flat cs rankPairs (by simpa [rankPairs] using hl) fun i z hz => ?_
      have hi : i < 9 := by
        have := (List.getElem?_eq_some_iff.1 hz).1
        simpa [rankPairs] using this
      obtain ⟨b, hb, hf⟩ := Lib.mapM_at hm i i (by simp [hi])
      obtain ⟨y0, y1, n, hy, hl2, h0, h1⟩ := trod_struct2 Tryz.underlying57 hf
      obtain ⟨z0, hc0, rfl, _⟩ := DataW.trod_int Tryz.underlying3 h0
      obtain ⟨z1, hc1, rfl, _⟩ := DataW.trod_int Tryz.underlying3 h1
      have h2 : (xs.map (·.1))[i]? = some (DataW.agg [.lit (.int .i64 z0), .lit (.int .i64 z1)] : DataW H) := by simp [hb, hy]
      rw [hxs] at h2
      simp only [List.getElem?_map, hz, Option.map_some, Option.some.injEq, DataW.agg.injEq, List.cons.injEq, DataW.lit.injEq, Lit.int.injEq, true_and, and_true] at h2
      obtain ⟨rfl, rfl⟩ := h2
      rw [ci] at hc0 hc1
      rw [ce] at hl2
      match hq : (cs.drop (i * 2)).take 2, hl2 with
      | [u, v], _ =>
        rw [hq] at hc0 hc1
        simp at hc0 hc1
        rw [hc0, hc1]
    · cases h

theorem rtab_of_laid {W : World} (h : laidMet Tryz.prog [("vinculum/cmap.ranked", Rows.laid_vinculum_cmap_ranked)] W) : RTab W := by
  obtain ⟨ps, ⟨g', t', cs, fuel, p, q, hg', ht', hvar, hd, _, _⟩, _⟩ := h
  obtain rfl := Option.some.inj ((show Tryz.prog.globalNamed "vinculum/cmap.ranked" = some 0 by kernel_rfl).symm.trans hg')
  obtain rfl := Option.some.inj ((show (Tryz.prog.globals[0]?).map (·.type) = some 64 by kernel_rfl).symm.trans ht')
  unfold RTab Lib.TabIs
  have hc : cs = (ranks.map fun z => Value.int .i64 z).toArray := by
    apply Array.ext'
    rw [cells_of_ranks hd]
    rfl
  rw [hvar, hc]
end Go.Proofs.YtppihpjcdieeoaaGreatDoor

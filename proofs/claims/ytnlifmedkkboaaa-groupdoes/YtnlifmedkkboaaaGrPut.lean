/-
  The contract of group.Put. No conditions beyond those stated.
-/
import Derived.Test.YtnlifmedkkboaaaGrSplit
import Derived.Test.YtnlifmedkkboaaaGrRead
import Derived.Test.YtnlifmedkkboaaaBnPut
import Derived.Test.YtnlifmedkkboaaaChConcat
namespace Gp
open Bn He Ch Sg
theorem nums_mem : ∀ (K : List Span) (v : Int), v ∈ nums K → ∃ x ∈ K, v = x.fr ∨ v = x.to ∨ v = x.gl
  | [], v, h => by simp [nums] at h
  | x :: r, v, h => by
    simp only [nums, List.mem_cons] at h
    rcases h with h | h | h | h
    · exact ⟨x, by simp, .inl h⟩
    · exact ⟨x, by simp, .inr (.inl h)⟩
    · exact ⟨x, by simp, .inr (.inr h)⟩
    · obtain ⟨y, hy, h⟩ := nums_mem r v h
      exact ⟨y, by simp [hy], h⟩
theorem nums_fit {K : List Span} (hr : isL K = true) : ∀ v ∈ nums K, fits v 4 = true := fun v hv => by
  obtain ⟨x, hx, h⟩ := nums_mem K v hv
  obtain ⟨a1, a2, a3, a4, a5, a6, a7, a8⟩ := (okSpan_iff x).1 (isL_ok hr hx)
  exact fits4 (by omega) (by omega)
theorem head_nums (format m n : Int) : join [2, 2, 4, 4, 4] [format, 0, m, 0, n] = bytes format 2 ++ [0, 0] ++ bytes m 4 ++ [0, 0, 0, 0] ++ bytes n 4 := by
  have h2 : bytes 0 2 = [0, 0] := by decide
  have h4 : bytes 0 4 = [0, 0, 0, 0] := by decide
  simp only [join]
  rw [show Int.natAbs 2 = 2 from rfl, show Int.natAbs 4 = 4 from rfl, h2, h4]
  simp
theorem put_file {K : List Span} {format : Int} (hf : format = 12 ∨ format = 13) (hr : isL K = true) :
    Bn.put ([2, 2, 4, 4, 4] ++ List.replicate (3 * K.length) 4) ([format, 0, ((16 + 12 * K.length : Nat) : Int), 0, ((K.length : Nat) : Int)] ++ nums K) = (file K format, 0) := by
  have hn : K.length ≤ 65536 := by unfold isL at hr; simp only [Bool.and_eq_true, decide_eq_true_eq] at hr; exact hr.2
  have hz : isSize 4 = true := by decide
  unfold Bn.put
  rw [← nums_len, if_neg, if_neg]
  · rw [join_append _ _ _ _ (by simp), Gl.join_rep, head_nums]
    rfl
  · rw [allFit_append _ _ _ _ (by simp), Gl.allFit_rep, List.all_eq_true.2 (nums_fit hr)]
    simp only [allFit]
    rw [fits2 (v := format) (by omega) (by omega), fits2 (v := 0) (by omega) (by omega), fits4 (v := ((16 + 12 * K.length : Nat) : Int)) (by omega) (by omega), fits4 (v := 0) (by omega) (by omega), fits4 (v := ((K.length : Nat) : Int)) (by omega) (by omega)]
    simp
  · rw [allSizes_append, Gl.rep_sizes hz]
    rintro (h | h)
    · exact absurd h (by decide)
    · exact h (by simp)
end Gp
namespace Go.Proofs.Ytnlifmedkkboaaa
open Go.RowKit

theorem own_lit5 (w : World) (base : Nat) (hb : base ≤ w.heap.size) (a b c d e : Int) : Own (w.alloc (.cells #[.int .i64 a, .int .i64 b, .int .i64 c, .int .i64 d, .int .i64 e] 3)) base (.slice (some ⟨w.heap.size, 0, none⟩) 5 5) [a, b, c, d, e] :=
  ⟨rfl, .inr ⟨w.heap.size, 5, _, rfl, hb, new_block w _, Nat.le_refl _, by unfold maxLen; omega, rfl, rfl⟩⟩

set_option maxHeartbeats 800000 in
theorem gput_arg (p : Option Addr) (n c : Nat) (format : Int) (w : World) (h : format ≠ 12 ∧ format ≠ 13) :
    Calls Try.prog 12 #[.slice p n c, .int .i64 format] w fun e w' => e = strErr ([], 1) ∧ Lo w w' := by
  have HS := Lib.hid (fun W => stepOf_any format W)
  unfold stepEnd at HS
  rw [if_neg h.1, if_neg h.2] at HS
  unfold strErr
  clear h
  go_enter Try.func12, Try.ntmps12
  go_wp2_with fail
  refine (HS.out _).mono ?_
  rintro e w1 ⟨rfl, rfl⟩
  go_wp2_with fail
  go_ret2
  exact ⟨rfl, Lo.refl _⟩

theorem stepOf_ok {f : Int} (h : f = 12 ∨ f = 13) (w : World) : Calls Try.prog 24 #[.int .i64 f] w fun e w' => e = .returned (.tuple #[.int .i64 (13 - f), .bool true]) ∧ w = w' := by
  have := (stepOf_any f w).mono (R' := fun e w' => e = stepEnd f ∧ w = w') (fun _ _ h => ⟨h.1, h.2.symm⟩)
  unfold stepEnd at this
  rcases h with rfl | rfl
  · exact this
  · exact this

set_option maxHeartbeats 800000 in
theorem gput_err (v : Value) (l : List Ch.Span) (format : Int) (w : World) (hr : SRow w v l) (h : format = 12 ∨ format = 13) (he : (Gp.split l (13 - format)).2 ≠ 0) :
    Calls Try.prog 12 #[v, .int .i64 format] w fun e w' => e = strErr ([], (Gp.split l (13 - format)).2) ∧ Lo w w' := by
  have HS := Lib.hid (stepOf_ok h)
  have HSp := Lib.hid (fun W (hW : SRow W v l) => gsplit_any l v (13 - format) W hW)
  obtain ⟨p, c, rfl, _⟩ := RowK.form hr
  have HR := Lib.hid hr
  unfold GotSp at HSp
  generalize Gp.split l (13 - format) = y at *
  obtain ⟨K, z⟩ := y
  dsimp only at *
  have hz : (z != 0) = true := by simpa using he
  unfold strErr
  clear h hr he
  go_enter Try.func12, Try.ntmps12
  go_wp2_with fail
  refine (HS.out _).mono ?_
  rintro e w1 ⟨rfl, rfl⟩
  go_wp2_with fail
  refine (HSp.out _ HR.out).mono ?_
  rintro e w2 ⟨p2, c2, rfl, _, lo⟩
  have HL := Lib.hid lo
  clear lo HSp HR HS
  go_wp2_with fail
  go_ret2
  exact ⟨rfl, HL.out⟩
set_option maxRecDepth 100000 in
set_option maxHeartbeats 3200000 in
theorem gput_ok (v : Value) (l : List Ch.Span) (format : Int) (w : World) (hr : SRow w v l) (h : format = 12 ∨ format = 13) (he : (Gp.split l (13 - format)).2 = 0) :
    Calls Try.prog 12 #[v, .int .i64 format] w fun e w' => e = strErr (Gp.file (Gp.split l (13 - format)).1 format, 0) ∧ Lo w w' := by
  have HS := Lib.hid (stepOf_ok h)
  have HSp := Lib.hid (fun W (hW : SRow W v l) => gsplit_any l v (13 - format) W hW)
  obtain ⟨p, c, rfl, _⟩ := RowK.form hr
  have HR := Lib.hid hr
  have hk := (Gp.split_right he).1
  have HPf := Lib.hid (Gp.put_file h hk)
  unfold GotSp at HSp
  generalize Gp.split l (13 - format) = y at *
  obtain ⟨K, z⟩ := y
  dsimp only at *
  subst he
  have hn : K.length ≤ 65536 := by unfold Ch.isL at hk; simp only [Bool.and_eq_true, decide_eq_true_eq] at hk; exact hk.2
  have HK := Lib.hid (fun (x : Ch.Span) (hx : x ∈ K) => Ch.isL_ok hk hx)
  have HNL : Hid (∀ k, k ≤ K.length → (Gp.nums (K.take k)).length = 3 * k) := Lib.hid (fun k hkk => by rw [Gp.nums_len, List.length_take]; omega)
  have HNS : Hid (∀ k, k < K.length → Gp.nums (K.take (k + 1)) = Gp.nums (K.take k) ++ [(K.getD k Ch.zs).fr, (K.getD k Ch.zs).to, (K.getD k Ch.zs).gl]) := Lib.hid (fun k hkk => Gp.nums_step hkk)
  have HNA : Hid (Gp.nums (K.take K.length) = Gp.nums K) := Lib.hid (by rw [List.take_length])
  have HN0 : Hid (Gp.nums (K.take 0) = []) := Lib.hid rfl
  have HXK : Hid (∀ k, k < K.length → K[k]? = some (K.getD k Ch.zs)) := Lib.hid (fun k hkk => by simp [List.getD, List.getElem?_eq_getElem hkk])
  have HNf := Lib.hid (Gp.nums_len K)
  obtain ⟨n, hnn⟩ : ∃ n, K.length = n := ⟨_, rfl⟩
  rw [hnn] at hn HSp HNL HNS HNA HXK HPf HNf
  have HNN := Lib.hid hnn
  have HLn := Lib.hid (fun W => length_any (n : Int) W (by omega) (by omega))
  have HRp := Lib.hid (fun (v : Value) (W : World) (hW : Row W v [4]) => repeat_any 4 (3 * n) v W hW (by omega))
  rw [show ((3 * n : Nat) : Int) = 3 * (n : Int) by omega] at HRp
  have HH := Lib.hid headSizes_any
  have HCc := Lib.hid (fun (va vb : Value) (B : Nat) (W : World) h1 h2 (ha : Row W va [2, 2, 4, 4, 4]) (hb : Row W vb (List.replicate (3 * n) 4)) => concat_any [2, 2, 4, 4, 4] (List.replicate (3 * n) 4) va vb B W h1 h2 ha hb (by rw [List.length_replicate]; simp; omega))
  rw [List.length_replicate, show [(2 : Int), 2, 4, 4, 4].length = 5 from rfl] at HCc
  have HBp := Lib.hid (fun (va vb : Value) (W : World) (ha : Row W va ([2, 2, 4, 4, 4] ++ List.replicate (3 * n) 4)) (hb : Row W vb ([format, 0, ((16 + 12 * n : Nat) : Int), 0, (n : Int)] ++ Gp.nums K)) => put_any _ _ va vb W ha hb (by rw [List.length_append, List.length_replicate]; simp; omega))
  rw [HPf.out, show ((16 + 12 * n : Nat) : Int) = 16 + 12 * (n : Int) by omega] at HBp
  unfold strErr at *
  generalize Gp.file K format = fl at *
  have hform : format ≤ 13 ∧ 12 ≤ format := by omega
  clear h hr hk hnn HPf
  go_enter Try.func12, Try.ntmps12
  go_wp2_with fail
  refine (HS.out _).mono ?_
  rintro e w1 ⟨rfl, rfl⟩
  go_wp2_with fail
  refine (HSp.out _ HR.out).mono ?_
  rintro e w2 ⟨p2, c2, rfl, hr2, lo⟩
  have HL := Lib.hid lo
  have HR2 := Lib.hid hr2
  clear lo HSp HR HS hr2
  go_wp2_with fail
  refine (HLn.out _).mono ?_
  rintro e w3 ⟨rfl, rfl⟩
  have HO := Lib.hid (own_lit5 w2 w2.heap.size (Nat.le_refl _) format 0 (16 + 12 * (n : Int)) 0 (n : Int))
  have HL2 := Lib.hid ((Lo.refl w2).alloc (.cells #[.int .i64 format, .int .i64 0, .int .i64 (16 + 12 * (n : Int)), .int .i64 0, .int .i64 (n : Int)] 3))
  clear HLn
  go_wp2_with fail
  go_loopw [11, 41] (fun u i wr => ∃ (k t : Nat) (q : Option Addr) (d : Nat), k ≤ n ∧ u = .slice q t d ∧ i = .int .i64 (k : Int) ∧ Hid (t = 5 + 3 * k) ∧ Hid (Own wr w2.heap.size (.slice q t d) ([format, 0, 16 + 12 * (n : Int), 0, (n : Int)] ++ Gp.nums (K.take k))) ∧ Hid (Lo w2 wr))
    (fun _ i _ => n - (intOf i).toNat)
  case atStart => exact ⟨0, 5, _, _, Nat.zero_le _, rfl, rfl, Lib.hid rfl, Lib.hid (by rw [HN0.out, List.append_nil]; exact HO.out), HL2⟩
  case round =>
    obtain ⟨k, t, q, d, hk, rfl, rfl, HT, HO1, HL1⟩ := hrel
    by_cases hlt : k < n
    · have hx := HXK.out k hlt
      obtain ⟨b, off, rfl, d0, d1, d2, d3⟩ := SRow.at4 (RowK.lo HR2.out HL1.out) hx
      have HNs := Lib.hid (HNS.out k hlt)
      have HTL : Hid (([format, 0, 16 + 12 * (n : Int), 0, (n : Int)] ++ Gp.nums (K.take k)).length = t) := Lib.hid (by rw [List.length_append, HNL.out k hk, HT.out]; rfl)
      clear hx
      generalize K.getD k Ch.zs = x at *
      obtain ⟨fr, tt, gl, st⟩ := x
      dsimp only at d0 d1 d2 d3 HNs
      go_wp2_with (at_builtin; refine wpList_app _ rfl (.tmp 45) (.tmp 52) rfl w2.heap.size (.slice q t d) _ rfl (HO1.out.lo (((Lo.refl _).alloc _).alloc _)) _ [fr, tt, gl] rfl (row3 _ _ (by simp) fr tt gl) (by rw [HTL.out]; have := HT.out; simp; omega) (by have := HL1.out.size; simp; omega) ?_; intro q1 c1 w4 hown hlo; have HO3 := Lib.hid hown; have HL3 := Lib.hid (hlo w2 ((HL1.out.alloc _).alloc _) rfl); clear hown hlo; rw [HTL.out] at HO3 ⊢)
      go_roundw
      case rel => exact ⟨k + 1, _, q1, c1, by omega, by go_num, rfl, Lib.hid (by have := HT.out; omega), Lib.hid (by rw [HNs.out, ← List.append_assoc]; exact HO3.out), HL3⟩
      case measure => simp [intOf]; omega
    · obtain rfl : k = n := by omega
      have HO2 := HO1
      rw [HNA.out] at HO2
      have HLw := Lib.hid (Lo.trans HL.out HL1.out)
      have HNr := Lib.hid (Own.row HO2.out)
      clear HO HO1 HL1 HL2 HXK HNS HNL HNA HR2 HL HK
      go_wp2_with fail
      refine (HH.out _).mono ?_
      rintro e w5 ⟨rfl, rfl⟩
      have HR1 : Hid (Row ((wr.alloc (.cells #[.int .i64 2, .int .i64 2, .int .i64 4, .int .i64 4, .int .i64 4] 3)).alloc (.cells #[.int .i64 4] 3)) (.slice (some ⟨wr.heap.size + 1, 0, none⟩) 1 1) [4]) := Lib.hid (row1 _ _ (by simp) 4)
      have HH5 := Lib.hid (Row.lo (head_row wr) ((Lo.refl _).alloc (.cells #[.int .i64 4] 3)))
      have HL5 := Lib.hid (((Lo.refl wr).alloc (.cells #[.int .i64 2, .int .i64 2, .int .i64 4, .int .i64 4, .int .i64 4] 3)).alloc (.cells #[.int .i64 4] 3))
      clear HH
      go_wp2_with fail
      refine (HRp.out _ _ HR1.out).mono ?_
      rintro e w6 ⟨G, rfl, hfill, lo⟩
      have HF6 := Lib.hid (fill_row hfill (by omega))
      have HH6 := Lib.hid (Row.lo HH5.out lo)
      have HL6 := Lib.hid (Lo.trans HL5.out lo)
      clear hfill lo HR1 HH5 HL5 HRp
      obtain ⟨A, hA⟩ : ∃ A, Value.slice (some ⟨wr.heap.size, 0, none⟩) 5 5 = A := ⟨_, rfl⟩
      have hc0 : (w6.alloc (.cells #[.slice (some ⟨wr.heap.size, 0, none⟩) 5 5, .slice (some ⟨G, 0, none⟩) (3 * k) (3 * k)] 48)).cell? ⟨w6.heap.size, 0, none⟩ = some (.slice (some ⟨wr.heap.size, 0, none⟩) 5 5) := block_cell (i := 0) (new_block w6 _) rfl
      have hc1 : (w6.alloc (.cells #[.slice (some ⟨wr.heap.size, 0, none⟩) 5 5, .slice (some ⟨G, 0, none⟩) (3 * k) (3 * k)] 48)).cell? ⟨w6.heap.size, 1, none⟩ = some (.slice (some ⟨G, 0, none⟩) (3 * k) (3 * k)) := block_cell (i := 1) (new_block w6 _) rfl
      have HCd := Lib.hid (HCc.out _ _ _ _ hc0 hc1 (Row.lo HH6.out ((Lo.refl _).alloc _)) (Row.lo HF6.out ((Lo.refl _).alloc _)))
      have HL7 := Lib.hid ((Lo.refl w6).alloc (.cells #[.slice (some ⟨wr.heap.size, 0, none⟩) 5 5, .slice (some ⟨G, 0, none⟩) (3 * k) (3 * k)] 48))
      clear hc0 hc1 HF6 HH6 HCc hA
      go_wp2_with fail
      refine HCd.out.mono ?_
      rintro e w7 ⟨p7, c7, rfl, hr7, lo⟩
      have HL8 := Lib.hid (Lo.trans HL6.out (Lo.trans HL7.out lo))
      have HBq := Lib.hid (HBp.out _ _ _ hr7 (Row.lo HNr.out HL8.out))
      clear hr7 lo HL6 HL7 HCd HBp HNr
      go_wp2_with fail
      refine HBq.out.mono ?_
      rintro e w8 ⟨rfl, lo⟩
      have HL9 := Lib.hid (Lo.trans HLw.out (Lo.trans HL8.out lo))
      clear lo HBq
      go_wp2_with fail
      go_ret2
      exact ⟨rfl, HL9.out⟩

/-- group.Put. -/
theorem gput_any (v : Value) (l : List Ch.Span) (format : Int) (w : World) (hr : SRow w v l) : Calls Try.prog 12 #[v, .int .i64 format] w fun e w' => e = strErr (Gp.put l format) ∧ Lo w w' := by
  unfold Gp.put
  by_cases c1 : format ≠ 12 ∧ format ≠ 13
  · rw [if_pos c1]
    obtain ⟨p, c, rfl, _⟩ := RowK.form hr
    exact gput_arg p _ c format w c1
  · rw [if_neg c1]
    by_cases c2 : (Gp.split l (13 - format)).2 ≠ 0
    · rw [if_pos c2]; exact gput_err v l format w hr (by omega) c2
    · rw [if_neg c2]; exact gput_ok v l format w hr (by omega) (by simpa using c2)
end Go.Proofs.Ytnlifmedkkboaaa

/-
  Facts that the walks rest on: GkStep, CuSt, CuAt, CoRuns. No conditions beyond those stated.
-/
import Derived.Test.YtcnmfgdeanbhoaaGround
import Derived.Deep.RegionHeld3
import Derived.Test.YtcnmfgdeanbhoaaPart11
import Derived.Test.YtcnmfgdeanbhoaaPart06
import Derived.Deep.RegionLaw
import Derived.Test.YtcnmfgdeanbhoaaPart04
import Derived.Test.YtcnmfgdeanbhoaaPart08
import Derived.Test.YtcnmfgdeanbhoaaPart05
/-
  append of one struct at a step of a region that draws; a region of a class of worlds. Nothing of the program. No conditions beyond those stated.
-/
namespace Go.Proofs.Ytcnmfgdeanbhoaa
open Go.RowKit
variable {α : Type}

theorem step_appK {enc : α → List Value} {w : World} {ops : Array Oper} {o : Oper} {a : Act} {K : Act → World → Prop} {Q : Exit → Act → World → Prop} {E : Prop} (hgd : o.guard = none) (s x : Operand) (t : TypeId)
    (ho : o.op = .call { callee := .builtin .append, args := #[s, x], argTypes := #[t, t] })
    (e : TypeId) (k bytes : Nat) (z : Value) (hu : Try.prog.underlying t = some (.slice e)) (hinfo : (Try.prog.info? e).map (fun i => (i.zero, i.size, i.bytes)) = some (some z, k, bytes)) (hzl : z.cells.size = k) (hby : bytes ≤ 100000) (hk0 : 0 < k)
    (hk : ∀ x, (enc x).length = k) (h1c : ∀ x, ∀ u ∈ enc x, u.oneCell' = true)
    (base : Nat) (v : Value) (xs : List α) (hs : a.eval s = v) (hown : OwnK enc e k w base v xs) (b : Nat) (y : α) (hx : a.eval x = .slice (some ⟨b, 0, none⟩) 1 1) (hr : ∀ j u, (enc y)[j]? = some u → w.cell? ⟨b, j, none⟩ = some u)
    (hlen : xs.length + 1 ≤ 1000000) (hbase : base ≤ w.heap.size)
    (h : ∀ p c w', OwnK enc e k w' base (.slice p (xs.length + 1) c) (xs ++ [y]) → (∀ w0, Lo w0 w → w0.heap.size ≤ base → Lo w0 w') → K (a.put o.dst (.slice p (xs.length + 1) c)) w') :
    if Region.wanted o (yielded ops a.tmps) = true then Oper.wp Try.prog o a w K Q else E := by
  obtain ⟨i0, hi0, hz0, hz1, hz2⟩ := info_parts hinfo
  have hbb : (xs.length + 1) * bytes ≤ 1000000 * 100000 := Nat.mul_le_mul hlen hby
  refine step_append_lies w hgd s x t ho base e i0 z k bytes hu hi0 hz0 hz1 hz2 hzl hk0 v xs.length _ hs hown ⟨b, 0, .none⟩ 1 1 (enc y) hx (by rw [hk]; omega) ?_ (h1c y) (by omega) (by unfold maxLen; omega) (by omega) hbase _ rfl ?_
  · intro j u hj
    have e1 : (⟨b, 0, none⟩ : Addr).add j = ⟨b, j, none⟩ := by unfold Addr.add; split <;> simp_all
    rw [e1]
    exact hr j u hj
  · intro g cap w' hown' hg _ _
    have hown2 : OwnK enc e k w' base (.slice (some ⟨g, 0, none⟩) (xs.length + 1) cap) (xs ++ [y]) := by
      unfold OwnK
      rw [List.length_append, List.flatMap_append]
      simpa using hown'
    refine h _ _ w' hown2 ?_
    intro w0 hlo hb0
    exact Below.grown hlo hg hlo.size (fun k hk => by have := (World.ownsRow.lt hown k hk).1; omega)
end Go.Proofs.Ytcnmfgdeanbhoaa
/-
  The contract of (*writer).stair of package cutin. No conditions beyond those stated.
-/
namespace Go.Proofs.Ytcnmfgdeanbhoaa
open Go.RowKit

set_option maxHeartbeats 800000 in
theorem custw_none (T base first : Nat) (p : Option Addr) (c : Nat) (t : List UInt8) (u v : Value) (x : Cu.Stair) (w : World) (h : Wr w T base first p c t) (h1 : Row w u x.1) (h2 : Row w v x.2) (hx : x.2 = []) :
    Calls Try.prog 34 #[.pointer (some ⟨T, 0, none⟩), .agg #[u, v]] w fun e w' => e = .returned (.int .i64 0) ∧ Wrote w w' T base first p c t t := by
  obtain ⟨pu, cu, rfl, _⟩ := h1.form
  obtain ⟨pv, cv, rfl, _⟩ := h2.form
  rw [hx]
  generalize x.1.length = n1 at *
  have HW := Lib.hid h
  clear h h1 h2 hx
  go_enter Try.func34, Try.ntmps34
  go_wp2_with fail
  go_ret
  exact ⟨rfl, Wrote.same HW.out ((Lo.refl w).alloc _)⟩

set_option maxRecDepth 100000 in
set_option maxHeartbeats 3200000 in
theorem custw_some (T base first : Nat) (p : Option Addr) (c : Nat) (t : List UInt8) (u v : Value) (x : Cu.Stair) (w : World) (h : Wr w T base first p c t) (h1 : Row w u x.1) (h2 : Row w v x.2) (hs : Cu.isS x = true) (hx : x.2 ≠ []) (hlim : first + t.length ≤ 200000) :
    Calls Try.prog 34 #[.pointer (some ⟨T, 0, none⟩), .agg #[u, v]] w fun e w' => e = .returned (.int .i64 ((first + t.length : Nat) : Int)) ∧ Wrote w w' T base first p c t (t ++ Cu.sb x) := by
  obtain ⟨q1, q2, _⟩ := Cu.isS_has hs hx
  have hsb := Cu.sb_len hs
  have HP := Lib.hid (fun W (v u : Value) (a : Row W v (Cu.ssS (x.1 ++ x.2).length)) (b : Row W u (Cu.vsS x.1.length (x.1 ++ x.2))) => put_any (Cu.ssS (x.1 ++ x.2).length) (Cu.vsS x.1.length (x.1 ++ x.2)) v u W a b (by rw [Cu.ssS_len, List.length_append]; omega))
  rw [Cu.binS_put hs hx] at HP
  unfold strErr at HP
  dsimp only at HP
  have HN := Lib.hid (fun (va vb : Value) (B : Nat) (W : World) (c0 : W.cell? ⟨B, 0, none⟩ = some va) (c1 : W.cell? ⟨B, 1, none⟩ = some vb) (ra : Row W va x.1) (rb : Row W vb x.2) => concat_own x.1 x.2 va vb B W c0 c1 ra rb (by omega))
  obtain ⟨pu, cu, rfl, _⟩ := h1.form
  obtain ⟨pv, cv, rfl, _⟩ := h2.form
  have hll : (x.1 ++ x.2).length = x.1.length + x.2.length := List.length_append
  have HS := Lib.hid Cu.ssS_succ
  have HSl := Lib.hid Cu.ssS_len
  have HV := Lib.hid (fun k (hk : k < (x.1 ++ x.2).length) => Cu.vsS_snoc x.1.length hk)
  have HVl := Lib.hid (fun k (hk : k ≤ (x.1 ++ x.2).length) => (by rw [Cu.vsS_len, List.length_take]; omega : (Cu.vsS x.1.length ((x.1 ++ x.2).take k)).length = 1 + 2 * k))
  have HV0 : Hid (Cu.vsS x.1.length ((x.1 ++ x.2).take 0) = [(x.1.length : Int)]) := Lib.hid rfl
  have HS0 : Hid (Cu.ssS 0 = [2]) := Lib.hid rfl
  have HTk : Hid (Cu.vsS x.1.length ((x.1 ++ x.2).take (x.1 ++ x.2).length) = Cu.vsS x.1.length (x.1 ++ x.2)) := Lib.hid (by rw [List.take_length])
  rw [hll] at HP HV HVl HTk
  have HR1 := Lib.hid h1
  have HR2 := Lib.hid h2
  have HW := Lib.hid h
  have HA := Lib.hid (fun W p c (h : Wr W T base first p c t) => cuadd_any T base first p c t (Cu.sb x) W h (by omega))
  have HE := Lib.hid (fun W => cuend_any p t.length c W)
  have hft : ((first + t.length : Nat) : Int) = (first : Int) + (t.length : Int) := by omega
  rw [hft]
  have hm0 : ¬ x.2.length = 0 := by omega
  generalize Cu.sb x = sb at *
  generalize hL : x.1 ++ x.2 = L at *
  generalize Cu.vsS x.1.length = F at *
  generalize Cu.ssS = S at *
  generalize x.1.length = n1 at *
  generalize x.2.length = n2 at *
  have hmb : ((n2 : Int) == 0) = false := by rw [beq_eq_false_iff_ne]; omega
  have HLn := Lib.hid hll
  have q3 : n2 ≤ 65 := by omega
  clear h1 h2 h hx hs hsb hL hll hft q2
  go_enter Try.func34, Try.ntmps34
  go_wp2_with fail
  generalize hW0 : World.alloc w _ = w0
  have HL0 : Hid (Lo w w0) := Lib.hid (by rw [← hW0]; exact (Lo.refl w).alloc _)
  have HX0 : Hid (w0.heap[w.heap.size]? = some (.cells #[.slice pu n1 cu, .slice pv n2 cv] 35 (0, 0))) := Lib.hid (by rw [← hW0]; exact new_block w _)
  clear hW0
  have HW0 := Lib.hid (Wr.lo HW.out HL0.out)
  obtain ⟨⟨c0, c1⟩, _, _⟩ := cu_two HW0.out.block
  obtain ⟨⟨d0, d1⟩, _, _⟩ := cu_two HX0.out
  go_quiet (first | (go_at_call 65; exact quiet' (HE.out _)))
  have HL1 := Lib.hid (HL0.out.drewN nq)
  have HX1 := Lib.hid (lo_block ((Lo.refl w0).drewN nq) HX0.out)
  generalize w0.drewN nq = w1 at *
  clear c0 c1 d0 d1 HW0
  obtain ⟨⟨d0, d1⟩, _, _⟩ := cu_two HX1.out
  go_wp2_with fail
  have e0 : ∀ o, (w1.alloc o).cell? ⟨w.heap.size, 0, none⟩ = some (.slice pu n1 cu) := fun o => ((Lo.refl w1).alloc o).cell (World.block_lt_of_cell? w1 _ d0) |>.trans d0
  have HL1w := Lib.hid HL1.out
  have hsz : ∀ o, (w1.alloc o).heap.size = w1.heap.size + 1 := fun o => by simp
  go_region
  all_goals first
    | change Exit.then _ _ _ _ (((w1.alloc (.cells #[.int .i64 2] 3)).alloc (.cells #[.int .i64 n1] 3)).drew)
      have HO6 : Hid (Own ((w1.alloc (.cells #[.int .i64 2] 3)).alloc (.cells #[.int .i64 n1] 3)).drew w1.heap.size (.slice (some ⟨w1.heap.size, 0, none⟩) 1 1) (S 0)) := Lib.hid (by
        rw [HS0.out]; exact (own_lit w1 2).lo (((Lo.refl _).alloc _).drew))
      have HO7 : Hid (Own ((w1.alloc (.cells #[.int .i64 2] 3)).alloc (.cells #[.int .i64 n1] 3)).drew w1.heap.size (.slice (some ⟨w1.heap.size + 1, 0, none⟩) 1 1) (F (L.take 0))) := Lib.hid (by
        have h := own_lit (w1.alloc (.cells #[.int .i64 2] 3)) (n1 : Int)
        rw [hsz] at h
        rw [HV0.out]
        exact (h.mono (Nat.le_succ _)).lo (Lo.refl _).drew)
      have HAp : Hid (Apart (.slice (some ⟨w1.heap.size, 0, none⟩) 1 1) (.slice (some ⟨w1.heap.size + 1, 0, none⟩) 1 1)) := Lib.hid (by
        intro g h1 h2
        simp [Value.ownBlock] at h1 h2
        omega)
      have HL2 : Hid (Lo w1 ((w1.alloc (.cells #[.int .i64 2] 3)).alloc (.cells #[.int .i64 n1] 3)).drew) := Lib.hid (((Lo.refl _).alloc _).alloc _).drew
      generalize ((w1.alloc (.cells #[.int .i64 2] 3)).alloc (.cells #[.int .i64 n1] 3)).drew = w2 at *
    | change Exit.then _ _ _ _ (((w1.alloc (.cells #[.int .i64 n1] 3)).alloc (.cells #[.int .i64 2] 3)).drew)
      have HO7 : Hid (Own ((w1.alloc (.cells #[.int .i64 n1] 3)).alloc (.cells #[.int .i64 2] 3)).drew w1.heap.size (.slice (some ⟨w1.heap.size, 0, none⟩) 1 1) (F (L.take 0))) := Lib.hid (by
        rw [HV0.out]; exact (own_lit w1 n1).lo (((Lo.refl _).alloc _).drew))
      have HO6 : Hid (Own ((w1.alloc (.cells #[.int .i64 n1] 3)).alloc (.cells #[.int .i64 2] 3)).drew w1.heap.size (.slice (some ⟨w1.heap.size + 1, 0, none⟩) 1 1) (S 0)) := Lib.hid (by
        have h := own_lit (w1.alloc (.cells #[.int .i64 n1] 3)) 2
        rw [hsz] at h
        rw [HS0.out]
        exact (h.mono (Nat.le_succ _)).lo (Lo.refl _).drew)
      have HAp : Hid (Apart (.slice (some ⟨w1.heap.size + 1, 0, none⟩) 1 1) (.slice (some ⟨w1.heap.size, 0, none⟩) 1 1)) := Lib.hid (by
        intro g h1 h2
        simp [Value.ownBlock] at h1 h2
        omega)
      have HL2 : Hid (Lo w1 ((w1.alloc (.cells #[.int .i64 n1] 3)).alloc (.cells #[.int .i64 2] 3)).drew) := Lib.hid (((Lo.refl _).alloc _).alloc _).drew
      generalize ((w1.alloc (.cells #[.int .i64 n1] 3)).alloc (.cells #[.int .i64 2] 3)).drew = w2 at *
  all_goals
    clear d0 d1 e0 hsz
    obtain ⟨⟨d0, d1⟩, _, _⟩ := cu_two (lo_block HL2.out HX1.out)
    go_wp2_with fail
    refine (HN.out (.slice pu n1 cu) (.slice pv n2 cv) w2.heap.size _ (by simp [go_sem]) (by simp [go_sem]) (HR1.out.lo ((HL1w.out.trans HL2.out).alloc _)) (HR2.out.lo ((HL1w.out.trans HL2.out).alloc _))).mono ?_
    rintro e w3 ⟨pc, cc, rfl, hownc, lo⟩
    have HL3 := Lib.hid (((Lo.refl w2).alloc _).trans lo)
    have HL13 := Lib.hid (HL2.out.trans HL3.out)
    have HAc6 : Hid (Apart _ (.slice pc (n1 + n2) cc)) := Lib.hid (fun g h1 h2 => by
      have q1 := own_lt HO6.out h1
      have q2 := (World.ownsRow.lt hownc g h2).1
      simp at q2; omega)
    have HAc7 : Hid (Apart _ (.slice pc (n1 + n2) cc)) := Lib.hid (fun g h1 h2 => by
      have q1 := own_lt HO7.out h1
      have q2 := (World.ownsRow.lt hownc g h2).1
      simp at q2; omega)
    have HR3 := Lib.hid (Own.mono hownc (base' := w1.heap.size) (by have := HL2.out.size; simp; omega))
    have HO6b := Lib.hid (HO6.out.lo HL3.out)
    have HO7b := Lib.hid (HO7.out.lo HL3.out)
    clear lo hownc d0 d1 HN HO6 HO7
    generalize hnn : n1 + n2 = n at *
    have hn129 : n ≤ 129 := by omega
    clear hnn
    go_wp2_with fail
    go_loopw [6, 7, 9, 38] (fun s6 s7 _ i W => ∃ (k t : Nat) (pa : Option Addr) (ca : Nat) (pb : Option Addr) (cb : Nat), k ≤ n ∧ i = .int .i64 k ∧ s6 = .slice pa t ca ∧ s7 = .slice pb t cb ∧ Hid (t = 1 + 2 * k) ∧ Hid (Own W w1.heap.size (.slice pa t ca) (S k)) ∧ Hid (Own W w1.heap.size (.slice pb t cb) (F (L.take k))) ∧ Hid (Apart (.slice pa t ca) (.slice pb t cb)) ∧ Hid (Apart (.slice pa t ca) (.slice pc n cc)) ∧ Hid (Apart (.slice pb t cb) (.slice pc n cc)) ∧ Hid (Lo w1 W) ∧ Hid (Own W w1.heap.size (.slice pc n cc) L)) (fun _ _ _ i _ => n - (intOf i).toNat)
    case atStart => exact ⟨0, 1, _, _, _, _, Nat.zero_le _, rfl, rfl, rfl, Lib.hid rfl, HO6b, HO7b, HAp, HAc6, HAc7, HL13, HR3⟩
    case round =>
      obtain ⟨k, t', pa, ca, pb, cb, hk, rfl, rfl, rfl, HT, HOa, HOb, HAp2, HAca, HAcb, HLk, HRk⟩ := hrel
      by_cases hlt : k < n
      · have HSk := Lib.hid (HS.out k)
        have HVk := Lib.hid (HV.out k hlt)
        have HLa : Hid ((S k).length = t') := Lib.hid (by rw [HSl.out, HT.out])
        have HLb : Hid ((F (L.take k)).length = t') := Lib.hid (by rw [HVl.out k (by omega), HT.out])
        have HT2 : Hid (t' + 2 = 1 + 2 * (k + 1)) := Lib.hid (by rw [HT.out]; omega)
        have htb : t' ≤ 1000 := by have := HT.out; omega
        obtain ⟨b, off, rfl, r0⟩ := HRk.out.row.at_ (k := k) hlt
        generalize L.getD k 0 = y at *
        go_wp2_with (first
          | (at_builtin; refine wpList_appT _ rfl (.tmp 42) (.tmp 43) rfl w1.heap.size (.slice pa t' ca) _ rfl (HOa.out.lo ((Lo.refl _).alloc _)) _ [-2, 2] rfl (row2 _ _ (by simp) (-2) 2) (by simp) (by rw [HLa.out]; simp; omega) (by have := HLk.out.size; simp; omega) ?_
             rw [HLa.out]
             intro p1 c1 w4 told
             have HO3 := Lib.hid told.own
             have HB3 := Lib.hid (told.other (HOb.out.lo ((Lo.refl _).alloc _)) HAp2.out)
             have HC3 := Lib.hid (told.other (HRk.out.lo ((Lo.refl _).alloc _)) HAca.out)
             have HL4 := Lib.hid (told.lo w1 (HLk.out.alloc _) (Nat.le_refl _))
             clear told)
          | (at_builtin; refine wpList_appT _ rfl (.tmp 45) (.tmp 47) rfl w1.heap.size (.slice pb t' cb) _ rfl (HB3.out.1.lo ((Lo.refl _).alloc _)) _ [y, 0] rfl (row2 _ _ (by simp) y 0) (by simp) (by rw [HLb.out]; simp; omega) (by have := HL4.out.size; simp; omega) ?_
             rw [HLb.out]
             intro p2 c2 w5 told
             have HO5 := Lib.hid told.own
             have HA5 := Lib.hid (told.other (HO3.out.lo ((Lo.refl _).alloc _)) HB3.out.2.symm)
             have HC5 := Lib.hid (told.other (HC3.out.1.lo ((Lo.refl _).alloc _)) HAcb.out)
             have HL5 := Lib.hid (told.lo w1 (HL4.out.alloc _) (Nat.le_refl _))
             clear told))
        go_roundw
        case rel => exact ⟨k + 1, t' + 2, p1, c1, p2, c2, by omega, by go_num, rfl, rfl, HT2, Lib.hid (by rw [HSk.out]; exact HA5.out.1), Lib.hid (by rw [HVk.out]; exact HO5.out), Lib.hid HA5.out.2.symm, Lib.hid HC3.out.2, Lib.hid HC5.out.2, HL5, Lib.hid HC5.out.1⟩
        case measure => simp [intOf]; omega
      · obtain rfl : k = n := by omega
        have HRa := Lib.hid HOa.out.row
        have HRb := Lib.hid HOb.out.row
        rw [HTk.out] at HRb
        go_wp2_with fail
        refine (HP.out _ _ _ HRa.out HRb.out).mono ?_
        rintro e w4 ⟨rfl, lo⟩
        have HL4 := Lib.hid (HL1w.out.trans (HLk.out.trans lo))
        clear lo
        go_wp2_with fail
        refine (HA.out _ _ _ (Wr.lo HW.out HL4.out)).mono ?_
        rintro e w5 ⟨rfl, hwr⟩
        have HWr := Lib.hid (Wrote.ahead hwr HL4.out)
        clear hwr
        go_wp2_with fail
        go_ret
        exact ⟨rfl, HWr.out⟩
end Go.Proofs.Ytcnmfgdeanbhoaa
/-
  Contracts of cutin.At, glyphs and Right. No conditions beyond those stated.
-/
namespace Cu
open Bn He
theorem ht_bad {x : Stair} (h : isS x = false) (v : Int) : ht x v = 0 := by unfold ht; rw [h]; rfl
theorem ht_cnt {x : Stair} (h : isS x = true) (v : Int) : ht x v = x.2.getD (cnt v x.1) 0 := by unfold ht; rw [if_pos h]
theorem isK_four {l : List Kern} {k : Nat} (h : k < l.length) (hf : (l.getD k zK).2.length ≠ 4) : isK l = false := by
  rw [Bool.eq_false_iff, ne_eq, isK_iff]
  rintro ⟨h1, _⟩
  exact hf (h1 _ (getK_mem h)).1
theorem isK_stair {l : List Kern} {k j : Nat} (h : k < l.length) (hj : j < (l.getD k zK).2.length) (hf : isS ((l.getD k zK).2.getD j zS) = false) : isK l = false := by
  rw [Bool.eq_false_iff, ne_eq, isK_iff]
  rintro ⟨h1, _⟩
  have := (h1 _ (getK_mem h)).2 _ (getS_mem hj)
  rw [hf] at this; cases this
theorem isK_all {l : List Kern} (h : ∀ i, i < l.length → (l.getD i zK).2.length = 4 ∧ ∀ j, j < 4 → isS ((l.getD i zK).2.getD j zS) = true) : isK l = Co.isCov (glyphs l) := by
  have : (l.all fun x => decide (x.2.length = 4) && x.2.all isS) = true := by
    rw [List.all_eq_true]
    intro x hx
    obtain ⟨i, hi, rfl⟩ := List.mem_iff_getElem.1 hx
    have h2 := h i hi
    rw [show l.getD i zK = l[i] by simp [List.getD, hi]] at h2
    rw [Bool.and_eq_true, decide_eq_true_eq, List.all_eq_true]
    refine ⟨h2.1, fun y hy => ?_⟩
    obtain ⟨j, hj, rfl⟩ := List.mem_iff_getElem.1 hy
    have h3 := h2.2 j (by omega)
    rwa [show l[i].2.getD j zS = l[i].2[j] by simp [List.getD, hj]] at h3
  unfold isK
  rw [this, Bool.true_and]
end Cu
namespace Go.Proofs.Ytcnmfgdeanbhoaa
open Go.RowKit

set_option maxHeartbeats 1600000 in
/-- At. -/
theorem cuat_any (u v : Value) (x : Cu.Stair) (h : Int) (w : World) (h1 : Row w u x.1) (h2 : Row w v x.2) :
    Calls Try.prog 20 #[.agg #[u, v], .int .i64 h] w fun e w' => e = .returned (.int .i64 (Cu.ht x h)) ∧ Lo w w' := by
  have HI := Lib.hid (fun W (a : Row W u x.1) (b : Row W v x.2) => cuis_any u v x W a b)
  cases hi : Cu.isS x with
  | false =>
    rw [Cu.ht_bad hi]
    rw [hi] at HI
    obtain ⟨pu, cu, rfl, hm1⟩ := h1.form
    obtain ⟨pv, cv, rfl, hm2⟩ := h2.form
    have HR1 := Lib.hid h1
    have HR2 := Lib.hid h2
    clear h1 h2 hi
    generalize x.1.length = n at *
    generalize x.2.length = m at *
    go_enter Try.func20, Try.ntmps20
    go_wp2_with fail
    refine (HI.out _ (HR1.out.lo ((Lo.refl w).alloc _)) (HR2.out.lo ((Lo.refl w).alloc _))).mono ?_
    rintro e w1 ⟨rfl, lo⟩
    have HL := Lib.hid (((Lo.refl w).alloc _).trans lo)
    clear lo
    go_wp2_with fail
    go_ret
    exact ⟨rfl, HL.out⟩
  | true =>
    rw [hi] at HI
    by_cases hk : x.2 = []
    · rw [Cu.ht_none hi hk]
      obtain ⟨pu, cu, rfl, hm1⟩ := h1.form
      obtain ⟨pv, cv, rfl, hm2⟩ := h2.form
      have HR1 := Lib.hid h1
      have HR2 := Lib.hid h2
      have hk0 : x.2.length = 0 := by rw [hk]; rfl
      rw [hk0] at HR2 HI
      rw [hk0]
      clear h1 h2 hi hk hk0 hm2
      generalize x.1.length = n at *
      go_enter Try.func20, Try.ntmps20
      go_wp2_with fail
      refine (HI.out _ (HR1.out.lo ((Lo.refl w).alloc _)) (HR2.out.lo ((Lo.refl w).alloc _))).mono ?_
      rintro e w1 ⟨rfl, lo⟩
      have HL := Lib.hid (((Lo.refl w).alloc _).trans lo)
      obtain ⟨c0, c1⟩ := two_cells (lo_block lo (new_block w _))
      clear lo
      go_wp2_with fail
      go_ret
      exact ⟨rfl, HL.out⟩
    · obtain ⟨q1, q2, _, _, q5⟩ := Cu.isS_has hi hk
      have HP := Lib.hid (fun W (a : Row W u x.1) => cupassed_inc u x.1 h W a (by omega) q5)
      have hcl : Cu.cnt h x.1 < x.2.length := by have := Cu.cnt_le h x.1; omega
      rw [Cu.ht_cnt hi]
      have hm0 : x.2.length ≠ 0 := by simpa using hk
      obtain ⟨pu, cu, rfl, hm1⟩ := h1.form
      obtain ⟨pv, cv, rfl, hm2⟩ := h2.form
      have HR1 := Lib.hid h1
      have HR2 := Lib.hid h2
      clear h1 h2 hi hk q1 q2 q5
      generalize x.2.length = m at *
      generalize x.1.length = n at *
      have hmb : ((m : Int) == 0) = false := by rw [beq_eq_false_iff_ne]; omega
      generalize Cu.cnt h x.1 = c at *
      obtain ⟨z, hz⟩ : ∃ z, x.2.getD c 0 = z := ⟨_, rfl⟩
      rw [hz]
      go_enter Try.func20, Try.ntmps20
      go_wp2_with fail
      refine (HI.out _ (HR1.out.lo ((Lo.refl w).alloc _)) (HR2.out.lo ((Lo.refl w).alloc _))).mono ?_
      rintro e w1 ⟨rfl, lo⟩
      have HL := Lib.hid (((Lo.refl w).alloc _).trans lo)
      obtain ⟨c0, c1⟩ := two_cells (lo_block lo (new_block w _))
      obtain ⟨b, off, rfl, c2⟩ := (HR2.out.lo HL.out).at_ (k := c) hcl
      have HT := Lib.hid (fun k => HP.out (w1.drewN k) ((HR1.out.lo HL.out).lo ((Lo.refl w1).drewN k)))
      rw [hz] at c2
      clear lo HI HP hz
      go_wp2_with fail
      go_quiet (first | (go_at_call 47; exact quiet' (HT.out _)))
      have HL2 := Lib.hid (HL.out.drewN nq)
      go_wp2_with fail
      go_ret
      exact ⟨rfl, HL2.out⟩

set_option maxHeartbeats 1600000 in
/-- glyphs. -/
theorem cuglyphs_any (v : Value) (l : List Cu.Kern) (w : World) (h : KRowC w v l) (hlen : l.length ≤ 1000000) :
    Calls Try.prog 33 #[v] w fun e w' => ∃ p c, e = .returned (.slice p l.length c) ∧ Row w' (.slice p l.length c) (Cu.glyphs l) ∧ Lo w w' := by
  obtain ⟨pu, cu, rfl, _⟩ := RowR.form h
  have HR := Lib.hid h
  generalize hn : l.length = n at *
  have HN := Lib.hid hn
  clear hn h
  go_enter Try.func33, Try.ntmps33
  go_wp2_with (at_make; refine wpList_mk _ rfl _ _ rfl w.heap.size _ n rfl rfl rfl (by omega) (Nat.le_refl _) ?_; intro pv cv w1 hown hlo; have HL := Lib.hid hlo; have HO := Lib.hid hown; clear hown hlo)
  go_loopw [3, 5, 11] (fun s _ i W => ∃ (k : Nat) (p : Option Addr) (c : Nat), k ≤ n ∧ i = .int .i64 k ∧ s = .slice p k c ∧ Hid (Own W w.heap.size (.slice p k c) (Cu.glyphs (l.take k))) ∧ Hid (Lo w W)) (fun _ _ i _ => n - (intOf i).toNat)
  case atStart => exact ⟨0, pv, cv, Nat.zero_le _, rfl, rfl, HO, HL⟩
  case round =>
    obtain ⟨k, p, c, hk, rfl, rfl, HO1, HL1⟩ := hrel
    by_cases hlt : k < n
    · have hk' : k < l.length := by rw [HN.out]; exact hlt
      have HT := Lib.hid (Cu.glyphs_snoc hk')
      obtain ⟨b, off, u, rfl, c1, c2, hsr⟩ := KRowC.at2 (KRowC.lo HR.out HL1.out) (Cu.getK_some hk')
      obtain ⟨ps, cs, rfl, _⟩ := RowR.form hsr
      have HTL : Hid ((Cu.glyphs (l.take k)).length = k) := Lib.hid (by rw [Cu.glyphs_len, List.length_take]; omega)
      clear hk' hsr
      generalize l.getD k Cu.zK = x at *
      obtain ⟨g, z⟩ := x
      dsimp only at c1 c2 HT
      go_wp2_with (at_builtin; refine wpList_app _ rfl (.tmp 15) (.tmp 18) rfl w.heap.size (.slice p k c) _ rfl (Own.lo HO1.out (((Lo.refl _).alloc _).alloc _)) _ [g] rfl (row1 _ _ (by simp) g) (by rw [HTL.out]; simp; omega) (by have := HL1.out.size; simp; omega) ?_; intro q1 c1 w3 hown hlo; have HO3 := Lib.hid hown; have HL3 := Lib.hid (hlo w ((HL1.out.alloc _).alloc _) rfl); clear hown hlo; rw [HTL.out] at HO3 ⊢)
      go_roundw
      case rel => exact ⟨k + 1, q1, c1, by omega, by go_num, rfl, Lib.hid (by rw [HT.out]; exact HO3.out), HL3⟩
      case measure => simp [intOf]; omega
    · obtain rfl : k = n := by omega
      have HO2 := HO1
      rw [List.take_of_length_le (by rw [HN.out]; exact Nat.le_refl _)] at HO2
      go_wp2_with fail
      go_ret
      exact ⟨p, c, rfl, Own.row HO2.out, HL1.out⟩

set_option maxHeartbeats 3200000 in
/-- Right. -/
theorem curight_any (v : Value) (l : List Cu.Kern) (w : World) (h : KRowC w v l) (hlen : l.length ≤ 1000000) :
    Calls Try.prog 16 #[v] w fun e w' => e = .returned (.bool (Cu.isK l)) ∧ Lo w w' := by
  have HG := Lib.hid (fun W h => cuglyphs_any v l W h hlen)
  have HC := Lib.hid (fun u W h => cois_any u (Cu.glyphs l) W h)
  have HI := Lib.hid (fun (u v : Value) (x : Cu.Stair) W (a : Row W u x.1) (b : Row W v x.2) => cuis_any u v x W a b)
  obtain ⟨pu, cu, rfl, _⟩ := RowR.form h
  have HR := Lib.hid h
  have HB := Lib.hid (fun k hk hf => @Cu.isK_four l k hk hf)
  have HB2 := Lib.hid (fun k j hk hj hf => @Cu.isK_stair l k j hk hj hf)
  have HA := Lib.hid (@Cu.isK_all l)
  generalize Cu.isK l = y at *
  generalize Co.isCov (Cu.glyphs l) = yc at *
  generalize hn : l.length = n at *
  have HN := Lib.hid hn
  clear hn h
  go_enter Try.func16, Try.ntmps16
  go_wp2_with fail
  go_loopw [4, 6, 9] (fun _ _ i W => ∃ (k : Nat), k ≤ n ∧ i = .int .i64 k ∧ Hid (∀ i, i < k → (l.getD i Cu.zK).2.length = 4 ∧ ∀ j, j < 4 → Cu.isS ((l.getD i Cu.zK).2.getD j Cu.zS) = true) ∧ Hid (Lo w W)) (fun _ _ i _ => n - (intOf i).toNat)
  case atStart => exact ⟨0, Nat.zero_le _, rfl, Lib.hid (fun i h => by omega), Lib.hid (Lo.refl _)⟩
  case round =>
    obtain ⟨k, hk, rfl, HIv, HL1⟩ := hrel
    by_cases hlt : k < n
    · have hk' : k < l.length := by rw [HN.out]; exact hlt
      obtain ⟨b, off, u, rfl, c1, c2, hsr⟩ := KRowC.at2 (KRowC.lo HR.out HL1.out) (Cu.getK_some hk')
      obtain ⟨ps, cs, rfl, hsl⟩ := RowR.form hsr
      have HSR := Lib.hid hsr
      have HS : Hid ((l.getD k Cu.zK).2.length = 4 → (∀ j, j < 4 → Cu.isS ((l.getD k Cu.zK).2.getD j Cu.zS) = true) → ∀ i, i < k + 1 → (l.getD i Cu.zK).2.length = 4 ∧ ∀ j, j < 4 → Cu.isS ((l.getD i Cu.zK).2.getD j Cu.zS) = true) := Lib.hid (fun h h2 i hi => by
        rcases Nat.lt_or_ge i k with h1 | h1
        · exact HIv.out i h1
        · obtain rfl : i = k := by omega
          exact ⟨h, h2⟩)
      have HBk := Lib.hid (HB.out k hlt)
      have HB2k := Lib.hid (fun j => HB2.out k j hlt)
      clear hk' hsr
      generalize l.getD k Cu.zK = x at *
      obtain ⟨g, q⟩ := x
      dsimp only at c1 c2 HS HBk HB2k HSR hsl
      generalize hm : q.length = m at *
      by_cases h4 : m = 4
      · subst h4
        have HM := Lib.hid hm
        clear hm HBk
        go_wp2_with fail
        go_loopw [6, 20] (fun _ i W => ∃ (j : Nat), j ≤ 4 ∧ i = .int .i64 j ∧ Hid (∀ i, i < j → Cu.isS (q.getD i Cu.zS) = true) ∧ Hid (Lo wr W)) (fun _ i _ => 4 - (intOf i).toNat)
        case atStart => exact ⟨0, Nat.zero_le _, rfl, Lib.hid (fun i h => by omega), Lib.hid ((Lo.refl _).alloc _)⟩
        case round =>
          obtain ⟨j, hj, rfl, HJ, HL2⟩ := hrel
          by_cases hj4 : j < 4
          · obtain ⟨b2, off2, u, v, rfl, d1, d2, ra, rb⟩ := SRowC.at2 (SRowC.lo HSR.out HL2.out) (Cu.getS_some (l := q) (i := j) (by rw [HM.out]; exact hj4))
            have HIx := Lib.hid (HI.out u v (q.getD j Cu.zS))
            obtain ⟨pa, ca, rfl, _⟩ := ra.form
            obtain ⟨pb, cb, rfl, _⟩ := rb.form
            have HRa := Lib.hid ra
            have HRb := Lib.hid rb
            have HJ2 : Hid (Cu.isS (q.getD j Cu.zS) = true → ∀ i, i < j + 1 → Cu.isS (q.getD i Cu.zS) = true) := Lib.hid (fun h i hi => by
              rcases Nat.lt_or_ge i j with h1 | h1
              · exact HJ.out i h1
              · obtain rfl : i = j := by omega
                exact h)
            have HB3 := Lib.hid (HB2k.out j hj4)
            clear ra rb
            generalize q.getD j Cu.zS = x at *
            generalize x.1.length = nx at *
            generalize x.2.length = mx at *
            cases hx : Cu.isS x with
            | false =>
              have HF : Hid (y = false) := Lib.hid (HB3.out hx)
              rw [hx] at HIx
              clear HJ2 HB3 hx
              go_wp2_with fail
              refine (HIx.out _ (HRa.out.lo ((Lo.refl _).alloc _)) (HRb.out.lo ((Lo.refl _).alloc _))).mono ?_
              rintro e w1 ⟨rfl, lo⟩
              have HL3 := Lib.hid ((HL1.out.trans HL2.out).trans (((Lo.refl _).alloc _).trans lo))
              clear lo
              go_wp2_with fail
              go_ret
              exact ⟨ret_bool HF.out.symm, HL3.out⟩
            | true =>
              have HJ3 := Lib.hid (HJ2.out hx)
              rw [hx] at HIx
              clear HJ2 HB3 hx
              go_wp2_with fail
              refine (HIx.out _ (HRa.out.lo ((Lo.refl _).alloc _)) (HRb.out.lo ((Lo.refl _).alloc _))).mono ?_
              rintro e w1 ⟨rfl, lo⟩
              have HL3 := Lib.hid (HL2.out.trans (((Lo.refl _).alloc _).trans lo))
              clear lo
              go_wp2_with fail
              go_roundw
              case rel => exact ⟨j + 1, by omega, by go_num, HJ3, HL3⟩
              case measure => simp [intOf]; omega
          · obtain rfl : j = 4 := by omega
            have HI3 := Lib.hid (HS.out trivial HJ.out)
            go_wp2_with fail
            go_roundw
            case rel => exact ⟨k + 1, by omega, by go_num, HI3, Lib.hid (HL1.out.trans HL2.out)⟩
            case measure => simp [intOf]; omega
      · have HF : Hid (y = false) := Lib.hid (HBk.out h4)
        have hmb : ((m : Int) == 4) = false := by rw [beq_eq_false_iff_ne]; omega
        clear HBk HB2k HS
        go_wp2_with fail
        go_ret
        exact ⟨ret_bool HF.out.symm, HL1.out.alloc _⟩
    · obtain rfl : k = n := by omega
      have HF : Hid (y = yc) := Lib.hid (HA.out HIv.out)
      go_wp2_with fail
      refine (HG.out _ (KRowC.lo HR.out HL1.out)).mono ?_
      rintro e w1 ⟨p1, c1, rfl, hrow, lo⟩
      have HL2 := Lib.hid (HL1.out.trans lo)
      have HR2 := Lib.hid hrow
      clear hrow lo
      go_wp2_with fail
      refine (HC.out _ _ HR2.out).mono ?_
      rintro e w2 ⟨rfl, rfl⟩
      go_wp2_with fail
      go_ret
      exact ⟨ret_bool HF.out.symm, HL2.out⟩
end Go.Proofs.Ytcnmfgdeanbhoaa
/-
  Plain functions (layer 12, cover), further: the longest ranges of a list from the left, and what is written. No conditions beyond those stated.
-/
namespace Co
open Bn He

/-- Ranges with how many glyphs are before each. -/
def trs : Nat → List (Int × Int) → List (Int × Int × Int)
  | _, [] => []
  | k, (a, b) :: q => (a, b, (k : Int)) :: trs (k + (b - a + 1).toNat) q
/-- From the left: at place i, where the range at hand began at place f with glyph a. -/
def jn : Nat → Nat → Int → List Int → List (Int × Int × Int)
  | _, _, _, [] => []
  | i, f, a, g :: r => if r.head? = some (g + 1) then jn (i + 1) f a r else (a, g, (f : Int)) :: jn (i + 1) (i + 1) (r.headD 0) r
def trsFrom (f : Nat) (a : Int) : List (Int × Int) → List (Int × Int × Int)
  | [] => []
  | (_, b) :: q => (a, b, (f : Int)) :: trs (f + (b - a + 1).toNat) q
theorem runs_first (h : Int) (r : List Int) : ∃ b q, runs (h :: r) = (h, b) :: q := by
  rw [runs]
  cases runs r with
  | nil => exact ⟨_, _, rfl⟩
  | cons p s =>
    obtain ⟨a, b⟩ := p
    rw [more]
    by_cases c : a = h + 1
    · rw [if_pos c]; exact ⟨_, _, rfl⟩
    · rw [if_neg c]; exact ⟨_, _, rfl⟩
theorem jn_runs : ∀ (r : List Int) (i f : Nat) (a g : Int), a ≤ g → i = f + (g - a).toNat → jn i f a (g :: r) = trsFrom f a (runs (g :: r))
  | [], i, f, a, g, _, _ => rfl
  | h :: r, i, f, a, g, hag, hi => by
    obtain ⟨b, q, e⟩ := runs_first h r
    have e2 : runs (g :: h :: r) = more g ((h, b) :: q) := by rw [runs, e]
    rw [e2, jn, more]
    by_cases c : h = g + 1
    · rw [if_pos (by rw [List.head?_cons, c]), if_pos c, jn_runs r (i + 1) f a h (by omega) (by omega), e]; rfl
    · rw [if_neg (by rw [List.head?_cons]; intro k; exact c (Option.some.inj k)), if_neg c, List.headD_cons, jn_runs r (i + 1) (i + 1) h h (by omega) (by omega), e]
      show _ = (a, g, (f : Int)) :: trs (f + (g - a + 1).toNat) ((h, b) :: q)
      rw [trs, trsFrom, show f + (g - a + 1).toNat = i + 1 by omega]
/-- All ranges of a list, from the left. -/
def tr (l : List Int) : List (Int × Int × Int) := trs 0 (runs l)
theorem jn_all (l : List Int) : jn 0 0 (l.getD 0 0) l = tr l := by
  cases l with
  | nil => rfl
  | cons g r =>
    show jn 0 0 g (g :: r) = _
    rw [jn_runs r 0 0 g g (by omega) (by omega)]
    obtain ⟨b, q, e⟩ := runs_first g r
    unfold tr
    rw [e]; rfl
theorem trs_len : ∀ (q : List (Int × Int)) (k : Nat), (trs k q).length = q.length
  | [], _ => rfl
  | (a, b) :: q, k => by rw [trs, List.length_cons, trs_len q, List.length_cons]
theorem tr_len (l : List Int) : (tr l).length = (runs l).length := trs_len _ _
theorem head_drop (l : List Int) (k : Nat) : (l.drop k).headD 0 = l.getD k 0 := by
  by_cases h : k < l.length
  · rw [drop_cons h]; rfl
  · simp [List.drop_of_length_le (show l.length ≤ k by omega), List.getD, List.getElem?_eq_none (show l.length ≤ k by omega)]
theorem head_some (l : List Int) (k : Nat) (g : Int) : (l.drop k).head? = some g ↔ k < l.length ∧ l.getD k 0 = g := by
  by_cases h : k < l.length
  · rw [drop_cons h, List.head?_cons]
    exact ⟨fun e => ⟨h, Option.some.inj e⟩, fun e => by rw [e.2]⟩
  · simp [List.drop_of_length_le (show l.length ≤ k by omega), h]
/-- One place further, in the range at hand. -/
theorem jn_same {l : List Int} {k f : Nat} {a : Int} (hk : k < l.length) (h : k + 1 < l.length ∧ l.getD (k + 1) 0 = l.getD k 0 + 1) : jn k f a (l.drop k) = jn (k + 1) f a (l.drop (k + 1)) := by
  rw [drop_cons hk, jn, if_pos ((head_some _ _ _).2 h)]
/-- One place further, a range ends. -/
theorem jn_next {l : List Int} {k f : Nat} {a : Int} (hk : k < l.length) (h : ¬ (k + 1 < l.length ∧ l.getD (k + 1) 0 = l.getD k 0 + 1)) : jn k f a (l.drop k) = (a, l.getD k 0, (f : Int)) :: jn (k + 1) (k + 1) (l.getD (k + 1) 0) (l.drop (k + 1)) := by
  rw [drop_cons hk, jn, if_neg (fun e => h ((head_some _ _ _).1 e)), head_drop]

/-! What is written. -/
def nums (q : List (Int × Int × Int)) : List Int := q.flatMap fun x => [x.1, x.2.1, x.2.2]
theorem nums_append (a b : List (Int × Int × Int)) : nums (a ++ b) = nums a ++ nums b := List.flatMap_append
theorem nums_len : ∀ q : List (Int × Int × Int), (nums q).length = 3 * q.length
  | [] => rfl
  | x :: q => by
    have := nums_len q
    unfold nums at *
    rw [List.flatMap_cons, List.length_append, this, List.length_cons]; simp; omega
theorem flat_append : ∀ a b : List Int, flat (a ++ b) = flat a ++ flat b
  | [], _ => rfl
  | x :: a, b => by rw [List.cons_append, flat, flat, flat_append a b, List.append_assoc]
theorem recs_flat : ∀ (q : List (Int × Int)) (k : Nat), recs k q = flat (nums (trs k q))
  | [], _ => rfl
  | (a, b) :: q, k => by
    rw [recs, trs, recs_flat q]
    show _ = flat ([a, b, (k : Int)] ++ nums (trs (k + (b - a + 1).toNat) q))
    rw [flat_append]
    simp [flat]
theorem join_sz : ∀ xs : List Int, join (sz xs.length) xs = flat xs
  | [] => rfl
  | x :: xs => by rw [List.length_cons, sz_succ, join, join_sz xs, flat]; rfl
theorem fit_sz : ∀ xs : List Int, (∀ x ∈ xs, 0 ≤ x ∧ x ≤ 65535) → allFit (sz xs.length) xs = true
  | [], _ => rfl
  | x :: xs, h => by
    have hx := h x (by simp)
    rw [List.length_cons, sz_succ, allFit, fit_sz xs (fun y hy => h y (List.mem_cons_of_mem _ hy)), fits2 (x := x) (by omega) (by omega)]; rfl
theorem put_sz {xs : List Int} (h : ∀ x ∈ xs, 0 ≤ x ∧ x ≤ 65535) : Bn.put (sz xs.length) xs = (flat xs, 0) := by
  unfold Bn.put
  rw [sz_sizes, sz_len, if_neg (by simp), fit_sz xs h, if_neg (by simp), join_sz]
theorem trs_mem : ∀ (q : List (Int × Int)) (k : Nat) (m : Nat), (∀ p ∈ q, (0 ≤ p.1 ∧ p.1 ≤ 65534) ∧ (0 ≤ p.2 ∧ p.2 ≤ 65534) ∧ p.1 ≤ p.2) → k + (expand q).length ≤ m → ∀ x ∈ trs k q, (0 ≤ x.1 ∧ x.1 ≤ 65534) ∧ (0 ≤ x.2.1 ∧ x.2.1 ≤ 65534) ∧ 0 ≤ x.2.2 ∧ x.2.2 ≤ (m : Int)
  | [], _, _, _, _, x, h => by simp [trs] at h
  | (a, b) :: q, k, m, hq, hm, x, hx => by
    have h0 := hq (a, b) (by simp)
    dsimp only at h0
    rw [expand, List.length_append, rng_len] at hm
    rw [trs] at hx
    rcases List.mem_cons.1 hx with rfl | hx
    · exact ⟨h0.1, h0.2.1, by dsimp only; omega, by dsimp only; omega⟩
    · exact trs_mem q _ m (fun p hp => hq p (List.mem_cons_of_mem _ hp)) (by omega) x hx
/-- The numbers of a list's ranges. -/
theorem tr_fit {l : List Int} (h : isCov l = true) : ∀ x ∈ nums (tr l), 0 ≤ x ∧ x ≤ 65535 := by
  have hm := cov_mem h
  have hl := cov_len h
  have ht := trs_mem (runs l) 0 65535 (fun p hp => by
    obtain ⟨h1, h2, h3⟩ := runs_ok l p hp
    exact ⟨hm _ h2, hm _ h3, h1⟩) (by rw [expand_runs]; omega)
  intro x hx
  unfold nums at hx
  obtain ⟨y, hy, hxy⟩ := List.mem_flatMap.1 hx
  have := ht y hy
  simp only [List.mem_cons, List.not_mem_nil, or_false] at hxy
  rcases hxy with rfl | rfl | rfl <;> omega
/-- What written makes of the two ways. -/
theorem put_two {l : List Int} (h : isCov l = true) : Bn.put (sz ([2, ((runs l).length : Int)] ++ nums (tr l)).length) ([2, ((runs l).length : Int)] ++ nums (tr l)) = (two l, 0) := by
  have hl := cov_len h
  have hr := runs_len l
  rw [put_sz]
  · rw [flat_append]
    unfold two tr
    rw [recs_flat]
    simp [flat]
  · intro x hx
    rcases List.mem_append.1 hx with hx | hx
    · simp only [List.mem_cons, List.not_mem_nil, or_false] at hx
      rcases hx with rfl | rfl <;> omega
    · exact tr_fit h x hx
theorem put_one {l : List Int} (h : isCov l = true) : Bn.put (sz ([1, (l.length : Int)] ++ l).length) ([1, (l.length : Int)] ++ l) = (one l, 0) := by
  have hl := cov_len h
  have hm := cov_mem h
  rw [put_sz]
  · rw [flat_append]
    unfold one
    simp [flat]
  · intro x hx
    rcases List.mem_append.1 hx with hx | hx
    · simp only [List.mem_cons, List.not_mem_nil, or_false] at hx
      rcases hx with rfl | rfl <;> omega
    · have := hm x hx; omega
end Co

/-
  The contract of sfnt's directory.read: one record of a file, with its table, or an error. No conditions beyond those stated.
-/
import Derived.Test.YtchhjfocanjniaaGreatSfOpen
namespace Sf
/-- The tag of the record ahead. -/
def bef (s : List UInt8) (i : Nat) : List UInt8 := if i = 0 then [] else recTag s (i - 1)
theorem rec_piece {s : List UInt8} {n i : Nat} (hi : i < n) (hl : 12 + 16 * n ≤ s.length) : Bn.piece s ((12 + 16 * i : Nat) : Int) 4 = (recTag s i, 0) := by
  unfold Bn.piece recTag
  rw [if_neg (by omega), if_neg (by omega), Int.toNat_natCast]
  rfl
theorem rec_nums {s : List UInt8} {n i : Nat} (hi : i < n) (hl : 12 + 16 * n ≤ s.length) : Bn.get s ((16 + 16 * i : Nat) : Int) [4, 4, 4] = ([((recSum s i : Nat) : Int), ((recAt s i : Nat) : Int), ((recLen s i : Nat) : Int)], 0) := by
  unfold Bn.get
  rw [if_neg (by rintro (h | h) <;> first | omega | (revert h; decide)), if_neg (by rw [show Bn.many [4, 4, 4] = 12 from rfl]; omega), Int.toNat_natCast]
  simp [Bn.fields, recSum, recAt, recLen, num, one4, List.drop_drop, Nat.add_right_comm]
theorem rec_data (s : List UInt8) (i : Nat) : Bn.piece s ((recAt s i : Nat) : Int) ((recLen s i : Nat) : Int) = if s.length < recAt s i + recLen s i then ([], 4) else ((tab s i).2, 0) := by
  unfold Bn.piece tab
  rw [if_neg (by omega)]
  by_cases h : s.length < recAt s i + recLen s i
  · rw [if_pos h, if_pos (by omega)]
  · rw [if_neg h, if_neg (by omega), Int.toNat_natCast, Int.toNat_natCast]
theorem less_nil {t : List UInt8} (h : isTag t = true) : less [] t = true := by
  have h4 := tag_len h
  unfold less
  cases t with
  | nil => simp at h4
  | cons a r => simp
theorem wrong_bef (s : List UInt8) (n i : Nat) : wrong s n i = if isTag (recTag s i) = false ∨ less (bef s i) (recTag s i) = false ∨ ¬ (recAt s i % 4 = 0 ∧ 12 + 16 * n ≤ recAt s i) then 5 else if s.length < recAt s i + recLen s i then 4 else if tsum (tab s i) ≠ recSum s i then 5 else 0 := by
  unfold wrong
  have e : (badForm s n i = true) = (isTag (recTag s i) = false ∨ less (bef s i) (recTag s i) = false ∨ ¬ (recAt s i % 4 = 0 ∧ 12 + 16 * n ≤ recAt s i)) := by
    unfold badForm bef
    cases ht : isTag (recTag s i) with
    | false => simp
    | true =>
      by_cases h0 : i = 0
      · subst h0
        rw [if_pos rfl, less_nil ht]
        simp
        omega
      · rw [if_neg h0]
        cases less (recTag s (i - 1)) (recTag s i) with
        | false => simp; omega
        | true => simp; omega
  simp only [e]
theorem dir_le {s : List UInt8} {i : Nat} (h : s.length ≤ 16777216) : (recTag s i).length ≤ 4 ∧ (tab s i).2.length ≤ 16777216 := by
  refine ⟨?_, ?_⟩
  · unfold recTag; simp; omega
  · unfold tab; simp; omega
end Sf
namespace Go.Proofs.YtchhjfocanjniaaGreat
open Go.RowKit

/-- A record that is none, and an error. -/
def noRec (k : Int) : Ending := .returned (.tuple #[.agg #[.string ⟨#[]⟩, .string ⟨#[]⟩, .int .i64 0], .int .i64 k])

/-- What read tells. -/
def recEnd (y : Int) (r : Rec) : Ending := if y ≠ 0 then noRec y else .returned (.tuple #[aggR r, .int .i64 0])
theorem next_block (w : World) (o o' : Obj) : ((w.alloc o).alloc o').heap[w.heap.size + 1]? = some o' := by
  have e : w.heap.size + 1 = (w.alloc o).heap.size := by simp
  rw [e]; exact new_block _ _

theorem Row.three {w : World} {p : Option Addr} {c : Nat} {x0 x1 x2 : Int} (h : Row w (.slice p 3 c) [x0, x1, x2]) :
    ∃ b off, p = some ⟨b, off, none⟩ ∧ w.cell? ⟨b, off, none⟩ = some (.int .i64 x0) ∧ w.cell? ⟨b, off + 1, none⟩ = some (.int .i64 x1) ∧ w.cell? ⟨b, off + 2, none⟩ = some (.int .i64 x2) := by
  obtain ⟨b, off, rfl, h0⟩ := h.at_ (k := 0) (by omega)
  obtain ⟨b', off', he, h1⟩ := h.at_ (k := 1) (by omega)
  simp only [Option.some.injEq, Addr.mk.injEq, and_true] at he
  obtain ⟨rfl, rfl⟩ := he
  obtain ⟨b', off', he, h2⟩ := h.at_ (k := 2) (by omega)
  simp only [Option.some.injEq, Addr.mk.injEq, and_true] at he
  obtain ⟨rfl, rfl⟩ := he
  exact ⟨b, off, rfl, h0, h1, h2⟩

set_option maxRecDepth 100000 in
set_option maxHeartbeats 4000000 in
/-- sfnt's directory.read. -/
theorem read_any (s : List UInt8) (i : Nat) (bf : List UInt8) (w : World) (h0 : s.length ≤ 16777216) (hi : i < Sf.num s 4 2) (hl : 12 + 16 * Sf.num s 4 2 ≤ s.length) (hb : bf = Sf.bef s i) :
    Calls Tryz.prog 16 #[aDir s, .int .i64 i, .string ⟨bf.toArray⟩] w fun e w' =>
      e = recEnd (Sf.wrong s (Sf.num s 4 2) i) (Sf.tab s i, Sf.recAt s i) ∧ Lo w w' := by
  have hn64 := Sf.num_lt2 s 4
  have HRE := Lib.hid (fun W => recordsEnd_any i W (by omega))
  have HP1 := Lib.hid (fun W => bpiece_any s ((12 + 16 * i : Nat) : Int) 4 W (by omega) (by omega))
  rw [Sf.rec_piece hi hl] at HP1
  have HG := Lib.hid (fun (W : World) (v : Value) (hr : Row W v [4, 4, 4]) => get_any s ((16 + 16 * i : Nat) : Int) v [4, 4, 4] W hr (by simp) (by omega) (by omega))
  rw [Sf.rec_nums hi hl] at HG
  unfold GotRow at HG
  have hA4 : Sf.recAt s i < 4294967296 := Sf.num_lt4 s _
  have hL4 : Sf.recLen s i < 4294967296 := Sf.num_lt4 s _
  have HP2 := Lib.hid (fun W => bpiece_any s ((Sf.recAt s i : Nat) : Int) ((Sf.recLen s i : Nat) : Int) W (by omega) (by omega))
  rw [Sf.rec_data] at HP2
  obtain ⟨ht4, hd4⟩ := Sf.dir_le (i := i) h0
  have HT := Lib.hid (fun W => isTag_any (Sf.recTag s i) W (by omega))
  have HS := Lib.hid (fun W => tsum_any (Sf.tab s i) W (by omega))
  rw [Sf.wrong_bef, ← hb]
  have hle := Sf.le_mk (Sf.recTag s i) bf
  have HAl := Lib.hid (fun W => allows_any (12 + 16 * Sf.num s 4 2) (Sf.recAt s i) W)
  have etab : Sf.tab s i = (Sf.recTag s i, (Sf.tab s i).2) := rfl
  rw [etab] at HS
  unfold aggT at HS
  unfold aDir
  rw [etab]
  unfold strErr at HP1 HP2
  generalize Sf.num s 0 4 = vr at *
  generalize Sf.num s 4 2 = n at *
  generalize Sf.recSum s i = sm at *
  generalize Sf.recAt s i = ra at *
  generalize Sf.recLen s i = rl at *
  generalize Sf.recTag s i = tg at *
  generalize (Sf.tab s i).2 = dt at *
  generalize Sf.tsum (tg, dt) = ts at *
  clear hb etab
  simp only at *
  rw [show ((12 + 16 * i : Nat) : Int) = 12 + 16 * (i : Int) by omega] at HP1
  rw [show ((16 + 16 * i : Nat) : Int) = 12 + 16 * (i : Int) + 4 by omega] at HG
  rw [show ((12 + 16 * n : Nat) : Int) = 12 + 16 * (n : Int) by omega] at HAl
  generalize hy : (if Sf.isTag tg = false ∨ Sf.less bf tg = false ∨ ¬ (ra % 4 = 0 ∧ 12 + 16 * n ≤ ra) then (5 : Int) else if s.length < ra + rl then 4 else if ts ≠ sm then 5 else 0) = y
  have HY := Lib.hid hy
  clear hy
  obtain ⟨dd, me, hdm, hdm2⟩ : ∃ (dd : List UInt8) (me : Int), (if s.length < ra + rl then (([] : List UInt8), (4 : Int)) else (dt, 0)) = (dd, me) ∧ ((s.length < ra + rl ∧ me = 4) ∨ (¬ s.length < ra + rl ∧ dd = dt ∧ me = 0)) := by
    by_cases h : s.length < ra + rl
    · exact ⟨_, _, if_pos h, .inl ⟨h, rfl⟩⟩
    · exact ⟨_, _, if_neg h, .inr ⟨h, rfl, rfl⟩⟩
  rw [hdm] at HP2
  have HDM := Lib.hid hdm2
  clear hdm hdm2
  simp only at HP2
  go_enter Tryz.func16, Tryz.ntmps16
  go_wp2_with fail
  generalize hW : World.alloc (World.alloc w _) _ = w1
  have HD : Hid (w1.heap[w.heap.size]? = some (.cells #[.int .i64 (12 + 16 * (n : Int)), .string ⟨s.toArray⟩, .int .i64 vr, .int .i64 n] 40 (0, 0))) := Lib.hid (by rw [← hW]; exact lo_block ((Lo.refl _).alloc _) (new_block w _))
  have HR : Hid (w1.heap[w.heap.size + 1]? = some (.cells #[.string ⟨#[]⟩, .string ⟨#[]⟩, .int .i64 0] 45 (0, 0))) := Lib.hid (by rw [← hW]; exact next_block w _ _)
  have HL : Hid (Lo w w1) := Lib.hid (by rw [← hW]; exact ((Lo.refl w).alloc _).alloc _)
  clear hW
  refine (HRE.out _).mono ?_
  rintro e w2 ⟨rfl, rfl⟩
  obtain ⟨⟨d0, d1, d2, d3⟩, _⟩ := four_at HD.out
  go_wp2_with fail
  refine (HP1.out _).mono ?_
  rintro e w2 ⟨rfl, lo⟩
  have HD := Lib.hid (lo_block lo HD.out)
  have HR := Lib.hid (lo_block lo HR.out)
  have HL := Lib.hid (HL.out.trans lo)
  clear lo d0 d1 d2 d3 HP1 HRE
  obtain ⟨⟨d0, d1, d2, d3⟩, _⟩ := four_at HD.out
  go_wp2_with fail
  refine (HG.out _ _ (row3 _ _ rfl 4 4 4)).mono ?_
  rintro e w3 ⟨p, c, rfl, hrow, lo⟩
  have lo' : Lo w2 w3 := ((Lo.refl _).alloc _).trans lo
  have HD := Lib.hid (lo_block lo' HD.out)
  have HR := Lib.hid (lo_block lo' HR.out)
  have HL := Lib.hid (HL.out.trans lo')
  obtain ⟨b, off, rfl, n0, n1, n2⟩ := Row.three hrow
  clear lo lo' d0 d1 d2 d3 HG hrow
  go_wp2_with fail
  go_quiet (fail)
  generalize hW : w3.drewN nq = w4
  have lo : Lo w3 w4 := by rw [← hW]; exact (Lo.refl w3).drewN nq
  have HD := Lib.hid (lo_block lo HD.out)
  have HR := Lib.hid (lo_block lo HR.out)
  have HL := Lib.hid (HL.out.trans lo)
  clear lo hW n0 n1 n2
  obtain ⟨⟨d0, d1, d2, d3⟩, _⟩ := four_at HD.out
  go_wp2_with fail
  refine (HP2.out _).mono ?_
  rintro e w5 ⟨rfl, lo⟩
  have HD := Lib.hid (lo_block lo HD.out)
  have HR := Lib.hid (lo_block lo HR.out)
  have HL := Lib.hid (HL.out.trans lo)
  clear lo HP2 d0 d1 d2 d3
  go_wp2_with fail
  generalize hW : World.alloc w5 _ = w6
  have lo : Lo w5 w6 := by rw [← hW]; exact (Lo.refl w5).alloc _
  have HT6 : Hid (w6.heap[w5.heap.size]? = some (.cells #[.string ⟨tg.toArray⟩, .string ⟨dd.toArray⟩] 33 (0, 0))) := Lib.hid (by rw [← hW]; exact new_block w5 _)
  have HD := Lib.hid (lo_block lo HD.out)
  have HR := Lib.hid (lo_block lo HR.out)
  have HL := Lib.hid (HL.out.trans lo)
  clear lo hW
  refine (HT.out _).mono ?_
  rintro e w7 ⟨rfl, rfl⟩
  clear HT
  obtain ⟨⟨d0, d1, d2, d3⟩, _⟩ := four_at HD.out
  obtain ⟨⟨r0, r1, r2⟩, f0, f1, f2⟩ := three_at HR.out
  cases hT : Sf.isTag tg with
  | false =>
    have HE : Hid (y = 5) := Lib.hid (by rw [← HY.out, if_pos (.inl hT)])
    clear hT
    go_wp2_with fail
    refine bodyPost_ret (v := .tuple #[.agg #[.string ⟨#[]⟩, .string ⟨#[]⟩, .int .i64 0], .int .i64 5]) ?_ rfl ⟨?_, ?_⟩
    · simp [results, Tryz.results16, go_sem, r0, r1, r2]
    · rw [HE.out]; rfl
    · exact ((HL.out.set (Nat.le_succ _) _).set (Nat.le_succ _) _).set (Nat.le_succ _) _
  | true =>
    cases hB : Sf.less bf tg with
    | false =>
      have HE : Hid (y = 5) := Lib.hid (by rw [← HY.out, if_pos (.inr (.inl hB))])
      rw [hB] at hle
      simp only [Bool.not_false] at hle
      clear hT hB
      go_wp2_with fail
      refine bodyPost_ret (v := .tuple #[.agg #[.string ⟨#[]⟩, .string ⟨#[]⟩, .int .i64 0], .int .i64 5]) ?_ rfl ⟨?_, ?_⟩
      · simp [results, Tryz.results16, go_sem, r0, r1, r2]
      · rw [HE.out]; rfl
      · exact ((HL.out.set (Nat.le_succ _) _).set (Nat.le_succ _) _).set (Nat.le_succ _) _
    | true =>
      rw [hB] at hle
      simp only [Bool.not_true] at hle
      by_cases hA : ra % 4 = 0 ∧ 12 + 16 * n ≤ ra
      · have HY2 : Hid (y = if s.length < ra + rl then 4 else if ts ≠ sm then 5 else 0) := Lib.hid (by rw [← HY.out, if_neg (by rw [hT, hB]; simp; exact hA)])
        rw [show (decide (ra % 4 = 0) && decide (12 + 16 * n ≤ ra)) = true by simp [hA.1, hA.2]] at HAl
        clear hT hB hA HY
        go_wp2_with fail
        refine (HAl.out _).mono ?_
        rintro e w8 ⟨rfl, lo⟩
        have HT6 := Lib.hid (lo_block lo HT6.out)
        have HD := Lib.hid (lo_block lo HD.out)
        have HR := Lib.hid (lo_block lo HR.out)
        have HL := Lib.hid (HL.out.trans lo)
        clear lo HAl d0 d1 d2 d3 r0 r1 r2 f0 f1 f2
        obtain ⟨⟨r0, r1, r2⟩, f0, f1, f2⟩ := three_at HR.out
        rcases HDM.out with ⟨hm, rfl⟩ | ⟨hm, rfl, rfl⟩
        · have HE : Hid (y = 4) := Lib.hid (by rw [HY2.out, if_pos hm])
          clear hm HDM
          go_wp2_with fail
          refine bodyPost_ret (v := .tuple #[.agg #[.string ⟨#[]⟩, .string ⟨#[]⟩, .int .i64 0], .int .i64 4]) ?_ rfl ⟨?_, ?_⟩
          · simp [results, Tryz.results16, go_sem, r0, r1, r2]
          · rw [HE.out]; rfl
          · exact ((HL.out.set (Nat.le_succ _) _).set (Nat.le_succ _) _).set (Nat.le_succ _) _
        · obtain ⟨t0, t1, _⟩ := TwoAt.of HT6.out
          have HY3 : Hid (y = if ts ≠ sm then 5 else 0) := Lib.hid (by rw [HY2.out, if_neg hm])
          clear hm HDM HY2
          go_wp2_with fail
          refine (HS.out _).mono ?_
          rintro e w9 ⟨rfl, lo⟩
          have HT6 := Lib.hid (lo_block lo HT6.out)
          have HD := Lib.hid (lo_block lo HD.out)
          have HR := Lib.hid (lo_block lo HR.out)
          have HL := Lib.hid (HL.out.trans lo)
          clear lo HS r0 r1 r2 f0 f1 f2 t0 t1
          obtain ⟨⟨r0, r1, r2⟩, f0, f1, f2⟩ := three_at HR.out
          obtain ⟨t0, t1, _⟩ := TwoAt.of HT6.out
          by_cases hs : ts = sm
          · have HE : Hid (y = 0) := Lib.hid (by rw [HY3.out, if_neg (by simpa using hs)])
            subst hs
            go_wp2_with fail
            refine bodyPost_ret (v := .tuple #[.agg #[.string ⟨tg.toArray⟩, .string ⟨dd.toArray⟩, .int .i64 ra], .int .i64 0]) ?_ rfl ⟨?_, ?_⟩
            · simp [results, Tryz.results16, go_sem, r0, r1, r2]
            · rw [HE.out]; rfl
            · exact ((HL.out.set (Nat.le_succ _) _).set (Nat.le_succ _) _).set (Nat.le_succ _) _
          · have HE : Hid (y = 5) := Lib.hid (by rw [HY3.out, if_pos hs])
            have hse : ((ts : Int) == (sm : Int)) = false := by simp; omega
            clear hs
            go_wp2_with fail
            refine bodyPost_ret (v := .tuple #[.agg #[.string ⟨#[]⟩, .string ⟨#[]⟩, .int .i64 0], .int .i64 5]) ?_ rfl ⟨?_, ?_⟩
            · simp [results, Tryz.results16, go_sem, r0, r1, r2]
            · rw [HE.out]; rfl
            · exact ((HL.out.set (Nat.le_succ _) _).set (Nat.le_succ _) _).set (Nat.le_succ _) _
      · have HE : Hid (y = 5) := Lib.hid (by rw [← HY.out, if_pos (.inr (.inr hA))])
        rw [show (decide (ra % 4 = 0) && decide (12 + 16 * n ≤ ra)) = false by simpa using hA] at HAl
        clear hT hB hA HY
        go_wp2_with fail
        refine (HAl.out _).mono ?_
        rintro e w8 ⟨rfl, lo⟩
        have HD := Lib.hid (lo_block lo HD.out)
        have HR := Lib.hid (lo_block lo HR.out)
        have HL := Lib.hid (HL.out.trans lo)
        clear lo HAl d0 d1 d2 d3 r0 r1 r2 f0 f1 f2
        obtain ⟨⟨r0, r1, r2⟩, f0, f1, f2⟩ := three_at HR.out
        go_wp2_with fail
        refine bodyPost_ret (v := .tuple #[.agg #[.string ⟨#[]⟩, .string ⟨#[]⟩, .int .i64 0], .int .i64 5]) ?_ rfl ⟨?_, ?_⟩
        · simp [results, Tryz.results16, go_sem, r0, r1, r2]
        · rw [HE.out]; rfl
        · exact ((HL.out.set (Nat.le_succ _) _).set (Nat.le_succ _) _).set (Nat.le_succ _) _
end Go.Proofs.YtchhjfocanjniaaGreat

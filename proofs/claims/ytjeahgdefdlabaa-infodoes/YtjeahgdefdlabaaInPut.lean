/-
  The contract of info.Put: it answers what the plain function says. No conditions beyond those stated.
-/
import Derived.Test.YtjeahgdefdlabaaInRow
import Derived.Test.YtjeahgdefdlabaaCoPutW
import Derived.Test.YtjeahgdefdlabaaGkStep
import Derived.Test.YtjeahgdefdlabaaGkApart
import Derived.Deep.RegionLaw
namespace Go.Proofs.Ytjeahgdefdlabaa
open Go.RowKit

set_option maxHeartbeats 800000 in
theorem iput_no (v : Value) (l : List Ino.Pair) (w : World) (h : PRow w v l) (hlen : l.length ≤ 1000000) (hc : Ino.isP l = false) : Calls Try.prog 8 #[v] w fun e w' => e = strErr ([], 1) ∧ Lo w w' := by
  have HI := Lib.hid (iis_any v l w h hlen)
  rw [hc] at HI
  obtain ⟨p, c, rfl, _⟩ := RowK.form h
  unfold strErr
  clear h hc
  go_enter Try.func8, Try.ntmps8
  go_wp2_with fail
  refine HI.out.mono ?_
  rintro e w1 ⟨rfl, lo⟩
  have HL := Lib.hid lo
  clear lo
  go_wp2_with fail
  go_ret2
  exact ⟨rfl, HL.out⟩

set_option maxHeartbeats 800000 in
theorem iput_long (v : Value) (l : List Ino.Pair) (w : World) (h : PRow w v l) (hlen : l.length ≤ 1000000) (hc : Ino.isP l = true) (hn : 16382 < l.length) : Calls Try.prog 8 #[v] w fun e w' => e = strErr ([], 7) ∧ Lo w w' := by
  have HI := Lib.hid (iis_any v l w h hlen)
  rw [hc] at HI
  obtain ⟨p, c, rfl, _⟩ := RowK.form h
  have hn2 : (16382 : Int) < (l.length : Int) := by omega
  unfold strErr
  clear h hc
  generalize l.length = n at *
  go_enter Try.func8, Try.ntmps8
  go_wp2_with fail
  refine HI.out.mono ?_
  rintro e w1 ⟨rfl, lo⟩
  have HL := Lib.hid lo
  clear lo
  go_wp2_with fail
  go_ret2
  exact ⟨rfl, HL.out⟩

set_option maxRecDepth 100000 in
set_option maxHeartbeats 3200000 in
theorem iput_yes (v : Value) (l : List Ino.Pair) (w : World) (h : PRow w v l) (hc : Ino.isP l = true) (hn : l.length ≤ 16382) : Calls Try.prog 8 #[v] w fun e w' => e = strErr (Ino.out l, 0) ∧ Lo w w' := by
  have HI := Lib.hid (iis_any v l w h (by omega))
  rw [hc] at HI
  have HGy := Lib.hid (fun W h => iglyphs_any v l W h (by omega))
  have HCP := Lib.hid (fun u W h => coput_any u (Ino.glyphs l) W h)
  have HP := Lib.hid (fun W (v u : Value) (h1 : Row W v (Ino.ss l.length)) (h2 : Row W u (Ino.vs l.length l)) => put_any (Ino.ss l.length) (Ino.vs l.length l) v u W h1 h2 (by rw [Ino.ss_len]; omega))
  rw [Ino.bin_put hc hn] at HP
  have hlim := Ino.put_lim l
  have hall := Ino.outTo_all l
  have hol := Ino.outTo_len (l := l) (Nat.le_refl _)
  have h0 : Ino.outTo l l.length = Bn.bytes (4 + 4 * l.length : Nat) 2 ++ Bn.bytes l.length 2 ++ Ino.vals l := by unfold Ino.outTo; rw [List.take_length]
  rw [← h0] at HP
  have hadd : ∀ W, (Op.stringOp .add ⟨(Ino.outTo l l.length).toArray⟩ ⟨(Co.put (Ino.glyphs l)).1.toArray⟩).run Try.prog W = .ok (.string ⟨(Ino.out l).toArray⟩) W := fun W => by
    rw [← hall, run_string_add_sum W _ _ (by show (Ino.outTo l l.length).length + _ ≤ _; rw [hol]; show _ + (Co.put (Ino.glyphs l)).1.length ≤ _; omega), Gk.cat_list]
  obtain ⟨p, c, rfl, _⟩ := RowK.form h
  have HR := Lib.hid h
  have HSs := Lib.hid Ino.ss_succ
  have HVs := Lib.hid (fun k (hk : k < l.length) => Ino.vs_snoc l.length hk)
  have HSl := Lib.hid Ino.ss_len
  have HVl := Lib.hid (fun k (hk : k ≤ l.length) => (by rw [Ino.vs_len, List.length_take]; omega : (Ino.vs l.length (l.take k)).length = 2 + 2 * k))
  have HTk : Hid (Ino.vs l.length (l.take l.length) = Ino.vs l.length l) := Lib.hid (by rw [List.take_length])
  have HV0 : Hid (Ino.vs l.length (l.take 0) = [((4 + 4 * l.length : Nat) : Int), (l.length : Int)]) := Lib.hid rfl
  have HS0 : Hid (Ino.ss 0 = [2, 2]) := Lib.hid rfl
  have HSm := Lib.hid (fun k (hk : k < l.length) => Ino.getD_some hk)
  unfold strErr at *
  generalize Ino.outTo l l.length = ot at *
  generalize Ino.out l = y at *
  generalize (Co.put (Ino.glyphs l)).1 = cv at *
  generalize (Co.put (Ino.glyphs l)).2 = ce at *
  generalize Ino.glyphs l = gl at *
  generalize l.length = n at *
  generalize Ino.vs n = V at *
  generalize Ino.ss = S at *
  clear h hc hlim hall hol h0
  go_enter Try.func8, Try.ntmps8
  go_wp2_with fail
  refine HI.out.mono ?_
  rintro e w1 ⟨rfl, lo⟩
  have HL := Lib.hid lo
  have HR1 := Lib.hid (RowK.lo HR.out lo)
  clear lo HI HR
  go_wp2_with fail
  go_loopw [4, 5, 7, 28] (fun s4 s5 _ i W => ∃ (k t : Nat) (pa : Option Addr) (ca : Nat) (pb : Option Addr) (cb : Nat), k ≤ n ∧ i = .int .i64 k ∧ s4 = .slice pa t ca ∧ s5 = .slice pb t cb ∧ Hid (t = 2 + 2 * k) ∧ Hid (Own W w1.heap.size (.slice pa t ca) (S k)) ∧ Hid (Own W w1.heap.size (.slice pb t cb) (V (l.take k))) ∧ Hid (Apart (.slice pa t ca) (.slice pb t cb)) ∧ Hid (Lo w1 W)) (fun _ _ _ i _ => n - (intOf i).toNat)
  case atStart =>
    refine ⟨0, 2, _, 2, _, 2, Nat.zero_le _, rfl, rfl, rfl, Lib.hid rfl, Lib.hid ?_, Lib.hid ?_, Lib.hid ?_, Lib.hid (((Lo.refl w1).alloc _).alloc _)⟩
    · rw [HS0.out]; exact (own_lit2 w1 w1.heap.size (Nat.le_refl _) 2 2).lo ((Lo.refl _).alloc _)
    · rw [HV0.out]
      have h := own_lit2 (w1.alloc (.cells #[.int .i64 2, .int .i64 2] 3)) w1.heap.size (by simp) ((4 + 4 * n : Nat) : Int) (n : Int)
      have e : (w1.alloc (.cells #[.int .i64 2, .int .i64 2] 3)).heap.size = w1.heap.size + 1 := by simp
      rw [e, show ((4 + 4 * n : Nat) : Int) = 4 + 4 * (n : Int) by omega] at h
      rw [show ((4 + 4 * n : Nat) : Int) = 4 + 4 * (n : Int) by omega]
      exact h
    · intro g h1 h2
      simp [Value.ownBlock] at h1 h2
      omega
  case round =>
    obtain ⟨k, t, pa, ca, pb, cb, hk, rfl, rfl, rfl, HT, HOa, HOb, HAp, HLk⟩ := hrel
    by_cases hlt : k < n
    · have HSk := Lib.hid (HSs.out k)
      have HVk := Lib.hid (HVs.out k hlt)
      have HLa : Hid ((S k).length = t) := Lib.hid (by rw [HSl.out, HT.out])
      have HLb : Hid ((V (l.take k)).length = t) := Lib.hid (by rw [HVl.out k (by omega), HT.out])
      have HT2 : Hid (t + 2 = 2 + 2 * (k + 1)) := Lib.hid (by rw [HT.out]; omega)
      have htb : t ≤ 40000 := by have := HT.out; omega
      obtain ⟨b, off, rfl, r0, r1⟩ := PRow.at2 (RowK.lo HR1.out HLk.out) (HSm.out k hlt)
      generalize l.getD k Ino.zp = x at *
      obtain ⟨g, z⟩ := x
      dsimp only at r0 r1 HVk
      go_wp2_with fail
      have HOld : Hid (∀ T, wr.heap.size ≤ T → (Value.slice pa t ca).ownBlock ≠ some T) := Lib.hid (fun T hT => own_old HOa.out hT)
      go_region_law (first
        | (refine step_app2 rfl (.tmp 32) (.tmp 33) rfl w1.heap.size (.slice pa t ca) _ rfl (HOa.out.lo (by repeat (first | exact Lo.refl _ | refine Lo.alloc ?_ _ | refine Lo.drew ?_))) (.slice pb t cb) _ (HOb.out.lo (by repeat (first | exact Lo.refl _ | refine Lo.alloc ?_ _ | refine Lo.drew ?_))) HAp.out _ (-2) 2 rfl (by simp [go_sem]) (by simp [go_sem]) (by rw [HLa.out]; omega) (by have := HLk.out.size; simp; omega) ?_
           intro p1 c1 w3 hown hoth hap hlo hfr hsz
           have HO3 := Lib.hid hown
           have HO4 := Lib.hid hoth
           have HAp3 := Lib.hid hap
           have HL3 := Lib.hid (hlo w1 (by repeat (first | exact HLk.out | refine Lo.alloc ?_ _ | refine Lo.drew ?_)) rfl)
           have q0 : w3.cell? ⟨wr.heap.size, 1, none⟩ = some (.int .i64 z) := (World.cell?_of_block (hfr _ (by simp <;> omega) (HOld.out _ (Nat.le_refl _)))).trans (by simp [go_sem])
           have HQ := Lib.hid (fun T i (h1 : wr.heap.size ≤ T) h2 => World.cell?_of_block (a := ⟨T, i, none⟩) (hfr T h2 (HOld.out T h1)))
           clear hown hoth hap hlo hfr hsz
           rw [HLa.out] at HO3 HAp3
           rw [HLa.out])
        | (refine step_app2 rfl (.tmp 35) (.tmp 38) rfl w1.heap.size (.slice pb t cb) _ rfl (HO4.out.lo (by repeat (first | exact Lo.refl _ | refine Lo.alloc ?_ _ | refine Lo.drew ?_))) (.slice p1 (t + 2) c1) _ (HO3.out.lo (by repeat (first | exact Lo.refl _ | refine Lo.alloc ?_ _ | refine Lo.drew ?_))) HAp3.out.symm _ z 0 rfl (by first | (simp [go_sem]; done) | (refine (HQ.out _ _ (by omega) (by simp)).trans ?_; simp [go_sem])) (by first | (simp [go_sem]; done) | (refine (HQ.out _ _ (by omega) (by simp)).trans ?_; simp [go_sem])) (by rw [HLb.out]; omega) (by have := HL3.out.size; simp; omega) ?_
           intro p2 c2 w4 hown hoth hap hlo hfr hsz
           have HO5 := Lib.hid hown
           have HO6 := Lib.hid hoth
           have HAp4 := Lib.hid hap.symm
           have HL4 := Lib.hid (hlo w1 (by repeat (first | exact HL3.out | refine Lo.alloc ?_ _ | refine Lo.drew ?_)) rfl)
           clear hown hoth hap hlo hfr hsz
           rw [HLb.out] at HO5 HAp4
           rw [HLb.out]))
      all_goals
        clear q0 HQ
        clear HOld
        go_wp2_with fail
        go_roundw
        case rel => exact ⟨k + 1, t + 2, p1, c1, p2, c2, by omega, by go_num, rfl, rfl, HT2, Lib.hid (by rw [HSk.out]; exact HO6.out), Lib.hid (by rw [HVk.out]; exact HO5.out), HAp4, HL4⟩
        case measure => simp [intOf]; omega
    · obtain rfl : k = n := by omega
      have HRa := Lib.hid HOa.out.row
      have HRb := Lib.hid HOb.out.row
      rw [HTk.out] at HRb
      go_wp2_with fail
      refine (HP.out _ _ _ HRa.out HRb.out).mono ?_
      rintro e w2 ⟨rfl, lo⟩
      have HL2 := Lib.hid (HLk.out.trans lo)
      clear lo
      go_wp2_with fail
      refine (HGy.out _ (RowK.lo HR1.out HL2.out)).mono ?_
      rintro e w3 ⟨p3, c3, rfl, hrow, lo⟩
      have HL3 := Lib.hid (HL2.out.trans lo)
      have HR3 := Lib.hid hrow
      clear lo hrow
      go_wp2_with fail
      refine (HCP.out _ _ HR3.out).mono ?_
      rintro e w4 ⟨rfl, lo⟩
      have HL4 := Lib.hid (HL3.out.trans lo)
      clear lo
      go_wp2_with fail
      go_ret2
      exact ⟨rfl, HL.out.trans HL4.out⟩

/-- info.Put. -/
theorem iput_any (v : Value) (l : List Ino.Pair) (w : World) (h : PRow w v l) (hlen : l.length ≤ 1000000) : Calls Try.prog 8 #[v] w fun e w' => e = strErr (Ino.put l) ∧ Lo w w' := by
  cases hc : Ino.isP l with
  | false => rw [Ino.put_bad hc]; exact iput_no v l w h hlen hc
  | true =>
    by_cases hn : 16382 < l.length
    · rw [Ino.put_long hc hn]; exact iput_long v l w h hlen hc hn
    · rw [Ino.put_yes hc (by omega)]; exact iput_yes v l w h hc (by omega)
end Go.Proofs.Ytjeahgdefdlabaa

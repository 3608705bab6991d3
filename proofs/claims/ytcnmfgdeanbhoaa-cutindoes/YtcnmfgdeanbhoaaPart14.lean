/-
  Facts that the walks rest on: CuPutW, CoFind, CuFind. No conditions beyond those stated.
-/
import Derived.Test.YtcnmfgdeanbhoaaPart12
import Derived.Test.YtcnmfgdeanbhoaaPart13
import Derived.Test.YtcnmfgdeanbhoaaPart05
import Derived.Test.YtcnmfgdeanbhoaaPart08
import Derived.ScopeJumps
import Derived.WalkMore
/-
  The contract of cutin.Put: it answers what the plain function says. No conditions beyond those stated.
-/
namespace Cu
open Bn He

/-- Do the stairs' offsets have room in two bytes? -/
def room (l : List Kern) (a : List Stair) : Prop := ∀ o ∈ offs (base l) a, o ≤ 65535
def offW (first n : Nat) (x : Stair) : Int := if x.2 = [] then 0 else ((first + n : Nat) : Int)
theorem room_none (l : List Kern) : room l [] := fun o h => by simp [offs] at h
theorem put_step {l : List Kern} (h : isK l = true) (hn : l.length ≤ 8191) {k j : Nat} (hk : k < l.length) (hj : j < 4) :
    isS ((l.getD k zK).2.getD j zS) = true ∧ fsK l (upTo l k (j + 1)) = fsK l (upTo l k j) ++ [offW (base l) (sbs (upTo l k j)).length ((l.getD k zK).2.getD j zS)] ∧ sbs (upTo l k (j + 1)) = sbs (upTo l k j) ++ sb ((l.getD k zK).2.getD j zS) ∧
      (fsK l (upTo l k j)).length = 2 + (4 * k + j) ∧
      (room l (upTo l k j) → base l + (sbs (upTo l k j)).length ≤ 100000) ∧ (room l (upTo l k j) → offW (base l) (sbs (upTo l k j)).length ((l.getD k zK).2.getD j zS) ≤ 65535 → room l (upTo l k (j + 1))) ∧
      (65535 < offW (base l) (sbs (upTo l k j)).length ((l.getD k zK).2.getD j zS) → put l = ([], 7)) := by
  have hs := upTo_step (l := l) (k := k) (j := j) (by rw [kern_four h hk]; exact hj)
  refine ⟨kern_is h hk hj, by rw [hs, fsK_snoc]; rfl, by rw [hs, sbs_app]; simp [sbs], by rw [fsK_len, upTo_len h (by omega) (by omega) (.inr hk)], far_lim h hn hk, fun hr ho => ?_, put_far h hk hj⟩
  intro o hm
  rw [hs, offs_snoc] at hm
  rcases List.mem_append.1 hm with hm | hm
  · exact hr o hm
  · rw [List.mem_singleton] at hm
    subst hm; exact ho
theorem put_end {l : List Kern} (h : isK l = true) (hn : l.length ≤ 8191) (hr : room l (upTo l l.length 0)) :
    put l = (out l, 0) ∧ Bn.put (Co.sz (2 + (4 * l.length + 0))) (fsK l (upTo l l.length 0)) = (bytes (4 + 8 * l.length : Nat) 2 ++ bytes l.length 2 ++ Co.flat (offs (base l) (stairs l)), 0) ∧
      out l = (bytes (4 + 8 * l.length : Nat) 2 ++ bytes l.length 2 ++ Co.flat (offs (base l) (stairs l))) ++ (Co.put (glyphs l)).1 ++ sbs (upTo l l.length 0) ∧ (sbs (upTo l l.length 0)).length ≤ 200000 ∧
      (bytes (4 + 8 * l.length : Nat) 2 ++ bytes l.length 2 ++ Co.flat (offs (base l) (stairs l))).length ≤ 70000 ∧ (Co.put (glyphs l)).1.length ≤ 100000 := by
  have e := upTo_all l
  rw [e] at hr ⊢
  have h4 := ((isK_iff l).1 h).1
  have hb := base_lim h hn
  have h1 := so_far (stairs l) (base l) (fun x hx => by obtain ⟨y, hy, hxy⟩ := stairs_mem _ _ hx; exact (h4 y hy).2 x hxy) hr
  refine ⟨put_yes h hn hr, by rw [Nat.add_zero]; exact fsK_put h hn hr, rfl, by omega, ?_, ?_⟩
  · simp only [List.length_append, bytes_len, Co.flat_len, offs_len, stairs_len l fun x hx => (h4 x hx).1]; omega
  · unfold base at hb; omega
end Cu
namespace Go.Proofs.Ytcnmfgdeanbhoaa
open Go.RowKit

theorem custw_any (T base first : Nat) (p : Option Addr) (c : Nat) (t : List UInt8) (u v : Value) (x : Cu.Stair) (w : World) (h : Wr w T base first p c t) (h1 : Row w u x.1) (h2 : Row w v x.2) (hs : Cu.isS x = true) (hlim : first + t.length ≤ 200000) :
    Calls Try.prog 34 #[.pointer (some ⟨T, 0, none⟩), .agg #[u, v]] w fun e w' => e = .returned (.int .i64 (Cu.offW first t.length x)) ∧ Wrote w w' T base first p c t (t ++ Cu.sb x) := by
  unfold Cu.offW
  by_cases hx : x.2 = []
  · rw [if_pos hx, Cu.sb_none hx, List.append_nil]; exact custw_none T base first p c t u v x w h h1 h2 hx
  · rw [if_neg hx]; exact custw_some T base first p c t u v x w h h1 h2 hs hx hlim

set_option maxHeartbeats 800000 in
theorem cuput_no (v : Value) (l : List Cu.Kern) (w : World) (h : KRowC w v l) (hlen : l.length ≤ 1000000) (hc : Cu.isK l = false) : Calls Try.prog 12 #[v] w fun e w' => e = strErr ([], 1) ∧ Lo w w' := by
  have HI := Lib.hid (curight_any v l w h hlen)
  rw [hc] at HI
  obtain ⟨p, c, rfl, _⟩ := RowR.form h
  unfold strErr
  clear h hc
  go_enter Try.func12, Try.ntmps12
  go_wp2_with fail
  refine HI.out.mono ?_
  rintro e w1 ⟨rfl, lo⟩
  have HL := Lib.hid lo
  clear lo
  go_wp2_with fail
  go_ret2
  exact ⟨rfl, HL.out⟩

set_option maxHeartbeats 800000 in
theorem cuput_long (v : Value) (l : List Cu.Kern) (w : World) (h : KRowC w v l) (hlen : l.length ≤ 1000000) (hc : Cu.isK l = true) (hn : 8191 < l.length) : Calls Try.prog 12 #[v] w fun e w' => e = strErr ([], 7) ∧ Lo w w' := by
  have HI := Lib.hid (curight_any v l w h hlen)
  rw [hc] at HI
  obtain ⟨p, c, rfl, _⟩ := RowR.form h
  have hn2 : (8191 : Int) < (l.length : Int) := by omega
  unfold strErr
  clear h hc
  generalize l.length = n at *
  go_enter Try.func12, Try.ntmps12
  go_wp2_with fail
  refine HI.out.mono ?_
  rintro e w1 ⟨rfl, lo⟩
  have HL := Lib.hid lo
  clear lo
  go_wp2_with fail
  go_ret2
  exact ⟨rfl, HL.out⟩

set_option maxRecDepth 100000 in
set_option maxHeartbeats 6400000 in
theorem cuput_yes (v : Value) (l : List Cu.Kern) (w : World) (h : KRowC w v l) (hc : Cu.isK l = true) (hn : l.length ≤ 8191) : Calls Try.prog 12 #[v] w fun e w' => e = strErr (Cu.put l) ∧ Lo w w' := by
  have HI := Lib.hid (curight_any v l w h (by omega))
  rw [hc] at HI
  have HGy := Lib.hid (fun W h => cuglyphs_any v l W h (by omega))
  have HCP := Lib.hid (fun u W h => coput_any u (Cu.glyphs l) W h)
  have HST := Lib.hid (fun k (hk : k < l.length) j (hj : j < 4) => Cu.put_step hc hn hk hj)
  have HNx := Lib.hid (fun k (hk : k < l.length) => Cu.upTo_next4 hc hk)
  have HF4 := Lib.hid (fun k (hk : k < l.length) => Cu.kern_four hc hk)
  have HEn := Lib.hid (fun hr => Cu.put_end hc hn hr)
  have HR0 : Hid (Cu.room l (Cu.upTo l 0 0)) := Lib.hid (Cu.room_none l)
  have HB0 : Hid (Cu.sbs (Cu.upTo l 0 0) = []) := Lib.hid rfl
  have HV0 : Hid (Cu.fsK l (Cu.upTo l 0 0) = [((4 + 8 * l.length : Nat) : Int), (l.length : Int)]) := Lib.hid rfl
  have HP := Lib.hid (fun W (v u : Value) (hr : Cu.room l (Cu.upTo l l.length 0)) (h1 : Row W v (Co.sz (2 + (4 * l.length + 0)))) (h2 : Row W u (Cu.fsK l (Cu.upTo l l.length 0))) => by
    have := put_any (Co.sz (2 + (4 * l.length + 0))) (Cu.fsK l (Cu.upTo l l.length 0)) v u W h1 h2 (by rw [Co.sz_len]; omega)
    rw [(Cu.put_end hc hn hr).2.1] at this
    exact this)
  have hbase : 4 + 8 * l.length + (Co.put (Cu.glyphs l)).1.length = Cu.base l := rfl
  have hbl := Cu.base_lim hc hn
  have HSs := Lib.hid (fun k => Cu.sz_snoc k)
  have HSl := Lib.hid (fun k => Co.sz_len k)
  have HS0 : Hid (Co.sz 2 = [2, 2]) := Lib.hid rfl
  obtain ⟨p, c, rfl, _⟩ := RowR.form h
  have HR := Lib.hid h
  unfold strErr at *
  generalize Cu.put l = py at *
  generalize Cu.out l = oy at *
  generalize Cu.base l = first at *
  generalize Bn.bytes (4 + 8 * l.length : Nat) 2 ++ Bn.bytes l.length 2 ++ Co.flat (Cu.offs first (Cu.stairs l)) = hd at *
  generalize (Co.put (Cu.glyphs l)).1 = cv at *
  generalize (Co.put (Cu.glyphs l)).2 = ce at *
  generalize Cu.glyphs l = gl at *
  generalize Cu.fsK l = F at *
  generalize Cu.room l = Rm at *
  generalize Cu.upTo l = U at *
  generalize Cu.sbs = Bs at *
  generalize hnn : l.length = n at *
  have HLn := Lib.hid hnn
  generalize Co.sz = S at *
  clear h hc hnn
  go_enter Try.func12, Try.ntmps12
  go_wp2_with fail
  refine HI.out.mono ?_
  rintro e w1 ⟨rfl, lo⟩
  have HL := Lib.hid lo
  have HR1 := Lib.hid (KRowC.lo HR.out lo)
  clear lo HI HR
  go_wp2_with fail
  refine (HGy.out _ HR1.out).mono ?_
  rintro e w2 ⟨p2, c2, rfl, hrow, lo⟩
  have HL2 := Lib.hid (HL.out.trans lo)
  have HR2 := Lib.hid (KRowC.lo HR1.out lo)
  have HRg := Lib.hid hrow
  clear hrow lo HGy HR1 HL
  go_wp2_with fail
  refine (HCP.out _ _ HRg.out).mono ?_
  rintro e w3 ⟨rfl, lo⟩
  have HL3 := Lib.hid (HL2.out.trans lo)
  have HR3 := Lib.hid (KRowC.lo HR2.out lo)
  clear lo HCP HRg HR2 HL2
  go_wp2_with fail
  have HWr : Hid (Wr (((w3.alloc (.cells #[.slice none 0 0, .int .i64 (4 + 8 * (n : Int) + (cv.length : Int))] 61)).alloc (.cells #[.int .i64 2, .int .i64 2] 3)).alloc (.cells #[.int .i64 (4 + 8 * (n : Int)), .int .i64 (n : Int)] 3)) w3.heap.size (w3.heap.size + 1) first none 0 (Bs (U 0 0))) := Lib.hid (by
    rw [HB0.out]
    refine ⟨?_, OwnB.none _ _, Nat.lt_succ_self _, by simp⟩
    have h := lo_block (((Lo.refl _).alloc (.cells #[.int .i64 2, .int .i64 2] 3)).alloc (.cells #[.int .i64 (4 + 8 * (n : Int)), .int .i64 (n : Int)] 3)) (new_block w3 (.cells #[.slice none 0 0, .int .i64 (4 + 8 * (n : Int) + (cv.length : Int))] 61))
    rw [h, show (4 + 8 * (n : Int) + (cv.length : Int)) = (first : Int) by omega]; rfl)
  have HOs : Hid (Own (((w3.alloc (.cells #[.slice none 0 0, .int .i64 (4 + 8 * (n : Int) + (cv.length : Int))] 61)).alloc (.cells #[.int .i64 2, .int .i64 2] 3)).alloc (.cells #[.int .i64 (4 + 8 * (n : Int)), .int .i64 (n : Int)] 3)) (w3.heap.size + 1) (.slice (some ⟨w3.heap.size + 1, 0, none⟩) 2 2) (S 2)) := Lib.hid (by
    have h := own_lit2 (w3.alloc (.cells #[.slice none 0 0, .int .i64 (4 + 8 * (n : Int) + (cv.length : Int))] 61)) (w3.heap.size + 1) (by simp) 2 2
    rw [show (w3.alloc (.cells #[.slice none 0 0, .int .i64 (4 + 8 * (n : Int) + (cv.length : Int))] 61)).heap.size = w3.heap.size + 1 by simp] at h
    rw [HS0.out]
    exact h.lo ((Lo.refl _).alloc _))
  have HOf : Hid (Own (((w3.alloc (.cells #[.slice none 0 0, .int .i64 (4 + 8 * (n : Int) + (cv.length : Int))] 61)).alloc (.cells #[.int .i64 2, .int .i64 2] 3)).alloc (.cells #[.int .i64 (4 + 8 * (n : Int)), .int .i64 (n : Int)] 3)) (w3.heap.size + 1) (.slice (some ⟨w3.heap.size + 1 + 1, 0, none⟩) 2 2) (F (U 0 0))) := Lib.hid (by
    have h := own_lit2 ((w3.alloc (.cells #[.slice none 0 0, .int .i64 (4 + 8 * (n : Int) + (cv.length : Int))] 61)).alloc (.cells #[.int .i64 2, .int .i64 2] 3)) (w3.heap.size + 1) (by simp) (4 + 8 * (n : Int)) (n : Int)
    rw [show ((w3.alloc (.cells #[.slice none 0 0, .int .i64 (4 + 8 * (n : Int) + (cv.length : Int))] 61)).alloc (.cells #[.int .i64 2, .int .i64 2] 3)).heap.size = w3.heap.size + 1 + 1 by simp] at h
    rw [HV0.out, show ((4 + 8 * n : Nat) : Int) = 4 + 8 * (n : Int) by omega]
    exact h)
  have HL0 : Hid (Lo w3 (((w3.alloc (.cells #[.slice none 0 0, .int .i64 (4 + 8 * (n : Int) + (cv.length : Int))] 61)).alloc (.cells #[.int .i64 2, .int .i64 2] 3)).alloc (.cells #[.int .i64 (4 + 8 * (n : Int)), .int .i64 (n : Int)] 3))) := Lib.hid ((((Lo.refl w3).alloc _).alloc _).alloc _)
  have HAp0 : Hid (Apart (.slice (some ⟨w3.heap.size + 1, 0, none⟩) 2 2) (.slice (some ⟨w3.heap.size + 1 + 1, 0, none⟩) 2 2)) := Lib.hid (by
    intro g h1 h2
    simp [Value.ownBlock] at h1 h2
    omega)
  generalize ((w3.alloc (.cells #[.slice none 0 0, .int .i64 (4 + 8 * (n : Int) + (cv.length : Int))] 61)).alloc (.cells #[.int .i64 2, .int .i64 2] 3)).alloc (.cells #[.int .i64 (4 + 8 * (n : Int)), .int .i64 (n : Int)] 3) = w4 at *
  generalize hT : w3.heap.size = T at *
  have HTs := Lib.hid hT
  clear hT hbase
  go_loopw [8, 9, 11, 13, 14, 45] (fun s8 s9 _ _ _ i W => ∃ (k t : Nat) (pa : Option Addr) (ca : Nat) (pb : Option Addr) (cb : Nat) (pw : Option Addr) (cw : Nat), k ≤ n ∧ i = .int .i64 k ∧ s8 = .slice pa t ca ∧ s9 = .slice pb t cb ∧ Hid (t = 2 + (4 * k + 0)) ∧ Hid (Own W (T + 1) (.slice pa t ca) (S (2 + (4 * k + 0)))) ∧ Hid (Own W (T + 1) (.slice pb t cb) (F (U k 0))) ∧ Hid (Apart (.slice pa t ca) (.slice pb t cb)) ∧ Hid (Wr W T (T + 1) first pw cw (Bs (U k 0))) ∧ Hid (Rm (U k 0)) ∧ Hid (Lo w3 W)) (fun _ _ _ _ _ i _ => n - (intOf i).toNat)
  case atStart => exact ⟨0, 2, _, 2, _, 2, none, 0, Nat.zero_le _, rfl, rfl, rfl, Lib.hid rfl, HOs, HOf, HAp0, HWr, HR0, HL0⟩
  case round =>
    obtain ⟨k, t, pa, ca, pb, cb, pw, cw, hk, rfl, rfl, rfl, HT, HOa, HOb, HAp, HW, HRm, HLk⟩ := hrel
    clear HOs HOf HAp0 HWr HR0 HL0 HS0 HV0 HB0
    by_cases hlt : k < n
    · obtain ⟨b, off, u, rfl, e0, e1, hsr⟩ := KRowC.at2 HR3.out (Cu.getK_some (l := l) (i := k) (by rw [HLn.out]; exact hlt))
      have c0 := (HLk.out.cell (World.block_lt_of_cell? _ _ e0)).trans e0
      have c1 := (HLk.out.cell (World.block_lt_of_cell? _ _ e1)).trans e1
      have HSTk := Lib.hid (HST.out k hlt)
      have HF4k := Lib.hid (HF4.out k hlt)
      have HNxk := Lib.hid (HNx.out k hlt)
      obtain ⟨ps, cs, rfl, _⟩ := RowR.form hsr
      have HSR := Lib.hid hsr
      clear e0 e1 hsr HST HF4 HNx HP HEn
      generalize l.getD k Cu.zK = x at *
      obtain ⟨g, q⟩ := x
      dsimp only at c0 c1 HSTk HF4k HSR
      have hq := HF4k.out
      simp only [hq] at c1 HSR
      clear hq
      go_wp2_with fail
      go_loopw [8, 9, 13, 14, 52] (fun s8 s9 _ _ i W => ∃ (j t : Nat) (pa : Option Addr) (ca : Nat) (pb : Option Addr) (cb : Nat) (pw : Option Addr) (cw : Nat), j ≤ 4 ∧ i = .int .i64 j ∧ s8 = .slice pa t ca ∧ s9 = .slice pb t cb ∧ Hid (t = 2 + (4 * k + j)) ∧ Hid (Own W (T + 1) (.slice pa t ca) (S (2 + (4 * k + j)))) ∧ Hid (Own W (T + 1) (.slice pb t cb) (F (U k j))) ∧ Hid (Apart (.slice pa t ca) (.slice pb t cb)) ∧ Hid (Wr W T (T + 1) first pw cw (Bs (U k j))) ∧ Hid (Rm (U k j)) ∧ Hid (Lo w3 W)) (fun _ _ _ _ i _ => 4 - (intOf i).toNat)
      case atStart => exact ⟨0, t, pa, ca, pb, cb, pw, cw, Nat.zero_le _, rfl, rfl, rfl, HT, Lib.hid (HOa.out.lo ((Lo.refl _).alloc _)), Lib.hid (HOb.out.lo ((Lo.refl _).alloc _)), HAp, Lib.hid (HW.out.lo ((Lo.refl _).alloc _)), HRm, Lib.hid (HLk.out.alloc _)⟩
      case round =>
        obtain ⟨j, t, pa, ca, pb, cb, pw, cw, hj, rfl, rfl, rfl, HT, HOa, HOb, HAp, HW, HRm, HLj⟩ := hrel
        by_cases hj4 : j < 4
        · obtain ⟨b2, off2, u2, v2, rfl, d0, d1, ra, rb⟩ := SRowC.at2 (SRowC.lo HSR.out HLj.out) (Cu.getS_some (l := q) (i := j) (by rw [HF4k.out]; exact hj4))
          obtain ⟨g1, g2, g3, g4, g5, g6, g7⟩ := HSTk.out j hj4
          have HX := Lib.hid (fun W pw cw (h : Wr W T (T + 1) first pw cw (Bs (U k j))) (ra : Row W u2 (q.getD j Cu.zS).1) (rb : Row W v2 (q.getD j Cu.zS).2) => custw_any T (T + 1) first pw cw (Bs (U k j)) u2 v2 (q.getD j Cu.zS) W h ra rb g1 (by have := g5 HRm.out; omega))
          have HRa := Lib.hid ra
          have HRb := Lib.hid rb
          obtain ⟨pu, cu, rfl, _⟩ := ra.form
          obtain ⟨pv, cv2, rfl, _⟩ := rb.form
          rw [← g3] at HX
          have HF := Lib.hid g2
          have HFl := Lib.hid g4
          have HR6 := Lib.hid (g6 HRm.out)
          have HR7 := Lib.hid g7
          clear ra rb g1 g2 g3 g4 g5 g6 g7 HSTk
          generalize q.getD j Cu.zS = x at *
          generalize Cu.offW first (Bs (U k j)).length x = o at *
          obtain ⟨x1, x2⟩ := x
          dsimp only at HRa HRb HX d0 d1
          generalize x1.length = n1 at *
          generalize x2.length = n2 at *
          go_wp2_with fail
          refine (HX.out _ pw cw (HW.out.lo ((Lo.refl _).alloc _)) (HRa.out.lo ((Lo.refl _).alloc _)) (HRb.out.lo ((Lo.refl _).alloc _))).mono ?_
          rintro e w5 ⟨rfl, ⟨pw2, cw2, hwr⟩, hlo, hagr⟩
          have HW5 := Lib.hid hwr
          have HL5 := Lib.hid (hlo w3 (HLj.out.alloc _) (by rw [HTs.out]; exact Nat.le_refl _))
          have HOa5 := Lib.hid (Own.agr (HOa.out.lo ((Lo.refl _).alloc _)) hagr (fun g hg hS => by
            rcases hS with rfl | hS
            · have := (World.ownsRow.lt HOa.out g hg).1; omega
            · exact own_bytes HOa.out HW.out.own g hg hS))
          have HOb5 := Lib.hid (Own.agr (HOb.out.lo ((Lo.refl _).alloc _)) hagr (fun g hg hS => by
            rcases hS with rfl | hS
            · have := (World.ownsRow.lt HOb.out g hg).1; omega
            · exact own_bytes HOb.out HW.out.own g hg hS))
          have hszT : T + 1 ≤ w5.heap.size := hwr.size
          clear hwr hlo hagr HX HW HOa HOb HRa HRb
          by_cases ho : 65535 < o
          · have HE := Lib.hid (HR7.out ho)
            clear HR6 HR7
            go_wp2_with fail
            go_ret2
            rw [HE.out]
            exact ⟨rfl, HL3.out.trans HL5.out⟩
          · have HRm2 := Lib.hid (HR6.out (by omega))
            have HSj := Lib.hid (HSs.out (2 + (4 * k + j)))
            have HLa : Hid ((S (2 + (4 * k + j))).length = t) := Lib.hid (by rw [HSl.out, HT.out])
            have HLb : Hid ((F (U k j)).length = t) := Lib.hid (by rw [HFl.out, HT.out])
            have HT2 : Hid (t + 1 = 2 + (4 * k + (j + 1))) := Lib.hid (by rw [HT.out]; omega)
            have htb : t ≤ 40000 := by have := HT.out; omega
            clear HR6 HR7
            go_wp2_with (first
              | (at_builtin; refine wpList_appT _ rfl (.tmp 60) (.tmp 61) rfl (T + 1) (.slice pa t ca) _ rfl (HOa5.out.lo ((Lo.refl _).alloc _)) _ [2] rfl (row1 _ _ (by simp) 2) (by simp) (by rw [HLa.out]; simp; omega) (by simp; omega) ?_
                 rw [HLa.out]
                 intro p1 c1 w6 told
                 have HO6 := Lib.hid told.own
                 have HB6 := Lib.hid (told.other (HOb5.out.lo ((Lo.refl _).alloc _)) HAp.out)
                 have HA6 := Lib.hid (told.agr)
                 have HW6 := Lib.hid (Wr.agr (HW5.out.lo ((Lo.refl _).alloc _)) told.agr (fun hS => by have := (World.ownsRow.lt HOa5.out T hS).1; omega) (fun g hg hS => own_bytes HOa5.out HW5.out.own g hS hg))
                 have HL6 := Lib.hid (told.lo w3 (HL5.out.alloc _) (by rw [HTs.out]; omega))
                 clear told)
              | (at_builtin; refine wpList_appT _ rfl (.tmp 63) (.tmp 65) rfl (T + 1) (.slice pb t cb) _ rfl (HB6.out.1.lo ((Lo.refl _).alloc _)) _ [o] rfl (row1 _ _ (by simp) o) (by simp) (by rw [HLb.out]; simp; omega) (by have := HW6.out.size; simp; omega) ?_
                 rw [HLb.out]
                 intro p2 c2 w7 told
                 have HO7 := Lib.hid told.own
                 have HA7 := Lib.hid (told.other (HO6.out.lo ((Lo.refl _).alloc _)) HB6.out.2.symm)
                 have HW7 := Lib.hid (Wr.agr (HW6.out.lo ((Lo.refl _).alloc _)) told.agr (fun hS => by have := (World.ownsRow.lt HB6.out.1 T hS).1; omega) (fun g hg hS => own_bytes HB6.out.1 HW6.out.own g hS hg))
                 have HL7 := Lib.hid (told.lo w3 (HL6.out.alloc _) (by rw [HTs.out]; omega))
                 clear told))
            go_roundw
            case rel => exact ⟨j + 1, t + 1, p1, c1, p2, c2, pw2, cw2, by omega, by go_num, rfl, rfl, HT2, Lib.hid (by rw [← Nat.add_assoc (4 * k), ← Nat.add_assoc 2, HSj.out]; exact HA7.out.1), Lib.hid (by rw [HF.out]; exact HO7.out), Lib.hid HA7.out.2.symm, HW7, HRm2, HL7⟩
            case measure => simp [intOf]; omega
        · obtain rfl : j = 4 := by omega
          rw [HNxk.out] at HOb HW HRm
          go_wp2_with fail
          go_roundw
          case rel => exact ⟨k + 1, t, pa, ca, pb, cb, pw, cw, by omega, by go_num, rfl, rfl, Lib.hid (by rw [HT.out]; omega), Lib.hid (by have := HOa.out; rw [show 2 + (4 * (k + 1) + 0) = 2 + (4 * k + 4) by omega]; exact this), HOb, HAp, HW, HRm, HLj⟩
          case measure => simp [intOf]; omega
    · obtain rfl : k = n := by omega
      obtain ⟨q1, _, q2, q3, q4, q5⟩ := HEn.out HRm.out
      have HPy := Lib.hid q1
      have HOy := Lib.hid q2
      have hadd1 : ∀ W, (Op.stringOp .add ⟨hd.toArray⟩ ⟨cv.toArray⟩).run Try.prog W = .ok (.string ⟨(hd ++ cv).toArray⟩) W := fun W => by
        rw [run_string_add_sum W _ _ (by show hd.length + cv.length ≤ _; omega), Gk.cat_list]
      have hadd2 : ∀ W, (Op.stringOp .add ⟨(hd ++ cv).toArray⟩ ⟨(Bs (U k 0)).toArray⟩).run Try.prog W = .ok (.string ⟨oy.toArray⟩) W := fun W => by
        rw [q2, run_string_add_sum W _ _ (by show (hd ++ cv).length + (Bs (U k 0)).length ≤ _; rw [List.length_append]; omega), Gk.cat_list]
      have HRa := Lib.hid HOa.out.row
      have HRb := Lib.hid HOb.out.row
      have HPk := Lib.hid (fun W v u => HP.out W v u HRm.out)
      clear q1 q2 HP HEn
      go_wp2_with fail
      refine (HPk.out _ _ _ HRa.out HRb.out).mono ?_
      rintro e w5 ⟨rfl, lo⟩
      have HL5 := Lib.hid (HLk.out.trans lo)
      have HW5 := Lib.hid (HW.out.lo lo)
      clear lo
      have hct := content_text HW5.out.own
      obtain ⟨⟨d0, d1⟩, _, _⟩ := cu_two HW5.out.block
      go_wp2_with fail
      go_ret2
      rw [HPy.out]
      exact ⟨rfl, HL3.out.trans HL5.out⟩

/-- cutin.Put. -/
theorem cuput_any (v : Value) (l : List Cu.Kern) (w : World) (h : KRowC w v l) (hlen : l.length ≤ 1000000) : Calls Try.prog 12 #[v] w fun e w' => e = strErr (Cu.put l) ∧ Lo w w' := by
  cases hc : Cu.isK l with
  | false => rw [Cu.put_bad hc]; exact cuput_no v l w h hlen hc
  | true =>
    by_cases hn : 8191 < l.length
    · rw [Cu.put_long hc hn]; exact cuput_long v l w h hlen hc hn
    · exact cuput_yes v l w h hc (by omega)
end Go.Proofs.Ytcnmfgdeanbhoaa
/-
  The contract of cover.Find (a search by halves with a goto): it answers what the plain function says. No conditions beyond those stated.
-/
namespace Co
theorem find_idx {l : List Int} (h : isCov l = true) {i : Nat} (hi : i < l.length) {g : Int} (hg : l.getD i 0 = g) : find l g = (i, true) := by rw [← hg]; exact find_at h hi
theorem find_out {l : List Int} {g : Int} (h : ∀ i, i < l.length → l.getD i 0 ≠ g) : find l g = (0, false) := by
  refine find_no (.inr fun hm => ?_)
  obtain ⟨i, hi, e⟩ := List.mem_iff_getElem.1 hm
  exact h i hi (by simp [List.getD, List.getElem?_eq_getElem hi, e])
end Co
namespace Go.Proofs.Ytcnmfgdeanbhoaa
open Go.RowKit

set_option maxHeartbeats 400000 in
theorem cofind_arg (v : Value) (l : List Int) (g : Int) (w : World) (h : Row w v l) (hc : Co.isCov l = false) :
    Calls Try.prog 48 #[v, .int .i64 g] w fun e w' => e = .returned (.tuple #[.int .i64 0, .bool false]) ∧ w = w' := by
  have HI := Lib.hid (cois_any v l w h)
  rw [hc] at HI
  obtain ⟨p, c, rfl, _⟩ := h.form
  clear h hc
  go_enter Try.func48, Try.ntmps48
  go_wp2_with fail
  go_step3
  go_wp2_with fail
  refine HI.out.mono ?_
  rintro e w1 ⟨rfl, rfl⟩
  go_wp2_with fail
  rw [Exit.noGoto_ret]
  go_ret2
  exact ⟨rfl, rfl⟩

set_option maxRecDepth 100000 in
set_option maxHeartbeats 1000000 in
theorem cofind_ok (v : Value) (l : List Int) (g : Int) (w : World) (h : Row w v l) (hc : Co.isCov l = true) :
    Calls Try.prog 48 #[v, .int .i64 g] w fun e w' => e = .returned (.tuple #[.int .i64 ((Co.find l g).1 : Nat), .bool (Co.find l g).2]) ∧ w = w' := by
  have HI := Lib.hid (cois_any v l w h)
  rw [hc] at HI
  obtain ⟨p, c, rfl, _⟩ := h.form
  have HR := Lib.hid h
  have hn : l.length ≤ 65535 := Co.cov_len hc
  have HF := Lib.hid (fun (i : Nat) (hi : i < l.length) (he : l.getD i 0 = g) => Co.find_idx hc hi he)
  have HO := Lib.hid (fun (k : ∀ i, i < l.length → l.getD i 0 ≠ g) => Co.find_out k)
  have HLess := Lib.hid (Co.cov_less hc)
  generalize Co.find l g = ans at *
  generalize hN : l.length = n at *
  have HNn := Lib.hid hN
  clear h hc hN
  go_enter Try.func48, Try.ntmps48
  go_wp2_with fail
  refine wp_scope_jumps 0 (fun a' w' => w' = w ∧ ∃ (lo hi : Nat) (u8 u14 u15 u16 u17 u18 u19 u20 u21 u22 u23 u24 u25 u26 u27 u28 u29 u30 u31 u32 u33 u34 u35 u36 : Value), a' = { tmps := #[.slice p n c, .int .i64 g, undef, undef, .int .i64 0, .bool false, .int .i64 (lo : Int), .int .i64 (hi : Int), u8, .slice p n c, .bool true, .bool false, .slice p n c, .int .i64 (n : Int), u14, u15, u16, u17, u18, u19, u20, u21, u22, u23, u24, u25, u26, u27, u28, u29, u30, u31, u32, u33, u34, u35, u36], defers := [] } ∧ lo ≤ hi ∧ hi ≤ n ∧ Hid (∀ i, i < n → l.getD i 0 = g → lo ≤ i ∧ i < hi))
    (fun a' _ => (intOf (a'.tmps.getD 7 undef)).toNat - (intOf (a'.tmps.getD 6 undef)).toNat) rfl ?_ ?_
  · go_wp2_with fail
    refine HI.out.mono ?_
    rintro e w1 ⟨rfl, rfl⟩
    by_cases h0 : 0 = n
    · subst h0
      go_wp2_with fail
      go_step3
      go_wp2_with fail
      simp only [Exit.jump]
      go_ret2
      rw [HO.out (fun i hi => by omega)]
      exact ⟨rfl, rfl⟩
    · have hq : ((0 : Int) == (n : Int)) = false := by simp; omega
      obtain ⟨mid, hm⟩ : ∃ m, (0 + n) / 2 = m := ⟨_, rfl⟩
      have hmid : (n : Int) / 2 = (mid : Int) := by omega
      have hb1 : 0 ≤ mid ∧ mid < n := by omega
      have hb2 : mid < n := by omega
      have hb3 : (mid : Int) < (n : Int) := by omega
      obtain ⟨b, off, rfl, cm⟩ := HR.out.at_ (k := mid) hb2
      have HF1 := Lib.hid (HF.out mid hb2)
      have HL1 := Lib.hid (fun (i : Nat) (h : i < mid) => HLess.out mid i h hb2)
      have HL2 := Lib.hid (fun (i : Nat) (h : mid < i) (h2 : i < n) => HLess.out i mid h h2)
      generalize hz : l.getD mid 0 = z at *
      have HZ := Lib.hid hz
      clear hz
      by_cases hg : z = g
      · have hqg : (z == g) = true := by simpa using hg
        have HA := Lib.hid (HF1.out hg)
        clear hg hm HF1 HL1 HL2
        go_wp2_with fail
        go_step3
        go_wp2_with fail
        simp only [Exit.jump]
        go_ret2
        rw [HA.out]
        exact ⟨rfl, rfl⟩
      · have hqg : (z == g) = false := by simpa using hg
        by_cases hlt : z < g
        · have HS : Hid (∀ i, i < n → l.getD i 0 = g → mid + 1 ≤ i ∧ i < n) := Lib.hid (fun i hi' he => by
            have h1 : 0 ≤ i ∧ i < n := ⟨Nat.zero_le _, hi'⟩
            have h2 := HZ.out
            rcases Nat.lt_trichotomy i mid with h | h | h
            · have := HL1.out i h; omega
            · subst h; omega
            · omega)
          clear hg HF1 HL1 HL2 HZ
          go_wp2_with fail
          go_step3
          go_wp2_with fail
          go_step3
          exact ⟨rfl, rfl, mid + 1, n, _, _, _, _, _, _, _, _, _, _, _, _, _, _, _, _, _, _, _, _, _, _, _, _, rfl, by omega, by omega, HS⟩
        · have HS : Hid (∀ i, i < n → l.getD i 0 = g → 0 ≤ i ∧ i < mid) := Lib.hid (fun i hi' he => by
            have h1 : 0 ≤ i ∧ i < n := ⟨Nat.zero_le _, hi'⟩
            have h2 := HZ.out
            rcases Nat.lt_trichotomy i mid with h | h | h
            · omega
            · subst h; omega
            · have := HL2.out i h hi'; omega)
          clear hg HF1 HL1 HL2 HZ
          go_wp2_with fail
          go_step3
          go_wp2_with fail
          go_step3
          exact ⟨rfl, rfl, 0, mid, _, _, _, _, _, _, _, _, _, _, _, _, _, _, _, _, _, _, _, _, _, _, _, _, rfl, by omega, by omega, HS⟩
  · rintro a' w' ⟨rfl, lo, hi, u8, u14, u15, u16, u17, u18, u19, u20, u21, u22, u23, u24, u25, u26, u27, u28, u29, u30, u31, u32, u33, u34, u35, u36, rfl, hlo, hhi, HB⟩
    by_cases h0 : lo = hi
    · have hq : ((lo : Int) == (hi : Int)) = true := by simp [h0]
      have HA := Lib.hid (HO.out (fun i hi' he => by have := HB.out i hi' he; omega))
      clear h0
      go_wp2_with fail
      simp only [Exit.jump]
      go_ret2
      rw [HA.out]
      exact ⟨rfl, rfl⟩
    · have hq : ((lo : Int) == (hi : Int)) = false := by simp; omega
      obtain ⟨mid, hm⟩ : ∃ m, (lo + hi) / 2 = m := ⟨_, rfl⟩
      have hmid : ((lo : Int) + (hi : Int)) / 2 = (mid : Int) := by omega
      have hb1 : lo ≤ mid ∧ mid < hi := by omega
      have hb2 : mid < n := by omega
      have hb3 : (mid : Int) < (n : Int) := by omega
      obtain ⟨b, off, rfl, cm⟩ := HR.out.at_ (k := mid) hb2
      have HF1 := Lib.hid (HF.out mid hb2)
      have HL1 := Lib.hid (fun (i : Nat) (h : i < mid) => HLess.out mid i h hb2)
      have HL2 := Lib.hid (fun (i : Nat) (h : mid < i) (h2 : i < n) => HLess.out i mid h h2)
      generalize hz : l.getD mid 0 = z at *
      have HZ := Lib.hid hz
      clear hz
      by_cases hg : z = g
      · have hqg : (z == g) = true := by simpa using hg
        have HA := Lib.hid (HF1.out hg)
        clear hg hm HF1 HL1 HL2
        go_wp2_with fail
        simp only [Exit.jump]
        go_ret2
        rw [HA.out]
        exact ⟨rfl, rfl⟩
      · have hqg : (z == g) = false := by simpa using hg
        by_cases hlt : z < g
        · have HS : Hid (∀ i, i < n → l.getD i 0 = g → mid + 1 ≤ i ∧ i < hi) := Lib.hid (fun i hi' he => by
            have h1 := HB.out i hi' he
            have h2 := HZ.out
            rcases Nat.lt_trichotomy i mid with h | h | h
            · have := HL1.out i h; omega
            · subst h; omega
            · omega)
          clear hg HF1 HL1 HL2 HZ
          go_wp2_with fail
          go_step3
          refine ⟨rfl, ⟨rfl, mid + 1, hi, _, _, _, _, _, _, _, _, _, _, _, _, _, _, _, _, _, _, _, _, _, _, _, _, rfl, by omega, by omega, HS⟩, ?_⟩
          simp [intOf]; omega
        · have HS : Hid (∀ i, i < n → l.getD i 0 = g → lo ≤ i ∧ i < mid) := Lib.hid (fun i hi' he => by
            have h1 := HB.out i hi' he
            have h2 := HZ.out
            rcases Nat.lt_trichotomy i mid with h | h | h
            · omega
            · subst h; omega
            · have := HL2.out i h hi'; omega)
          clear hg HF1 HL1 HL2 HZ
          go_wp2_with fail
          go_step3
          refine ⟨rfl, ⟨rfl, lo, mid, _, _, _, _, _, _, _, _, _, _, _, _, _, _, _, _, _, _, _, _, _, _, _, _, rfl, by omega, by omega, HS⟩, ?_⟩
          simp [intOf]; omega

/-- cover.Find. -/
theorem cofind_any (v : Value) (l : List Int) (g : Int) (w : World) (h : Row w v l) :
    Calls Try.prog 48 #[v, .int .i64 g] w fun e w' => e = .returned (.tuple #[.int .i64 ((Co.find l g).1 : Nat), .bool (Co.find l g).2]) ∧ w = w' := by
  cases hc : Co.isCov l with
  | false => rw [Co.find_no (.inl hc)]; exact cofind_arg v l g w h hc
  | true => exact cofind_ok v l g w h hc
end Go.Proofs.Ytcnmfgdeanbhoaa
/-
  The contract of cutin.Find: a glyph's kern at a corner. No conditions beyond those stated.
-/
namespace Cu
open Bn He
theorem find_bad {l : List Kern} (h : isK l = false) (g c v : Int) : find l g c v = 0 := by unfold find; rw [if_neg (by rw [h]; simp)]
theorem find_low {l : List Kern} (g : Int) {c : Int} (hc : c < 0 ∨ 3 < c) (v : Int) : find l g c v = 0 := by unfold find; rw [if_neg (by omega)]
theorem glyphs_at {l : List Kern} {i : Nat} (h : i < l.length) : (glyphs l).getD i 0 = (l.getD i zK).1 := by simp [glyphs, List.getD, h]
theorem find_none {l : List Kern} {g : Int} (h : g ∉ glyphs l) (c v : Int) : find l g c v = 0 := by
  unfold find
  by_cases hc : isK l = true ∧ 0 ≤ c ∧ c ≤ 3
  · rw [if_pos hc]
    have : (l.find? fun x => decide (x.1 = g)) = none := by
      rw [List.find?_eq_none]
      intro x hx hg
      simp only [decide_eq_true_eq] at hg
      exact h (List.mem_map.2 ⟨x, hx, hg⟩)
    rw [this]
  · rw [if_neg hc]
/-- By the coverage's answer. -/
theorem find_cov {l : List Kern} (h : isK l = true) (g : Int) {c : Nat} (hc : c < 4) (v : Int) :
    ((Co.find (glyphs l) g).2 = false → find l g c v = 0) ∧ ((Co.find (glyphs l) g).2 = true → (Co.find (glyphs l) g).1 < l.length ∧ (l.getD (Co.find (glyphs l) g).1 zK).2.length = 4 ∧ find l g c v = ht ((l.getD (Co.find (glyphs l) g).1 zK).2.getD c zS) v) := by
  obtain ⟨h1, h2⟩ := (isK_iff l).1 h
  by_cases hg : g ∈ glyphs l
  · obtain ⟨i, hi, hgi⟩ := List.mem_iff_getElem.1 hg
    have hi2 : i < l.length := by rw [glyphs_len] at hi; exact hi
    have e : (glyphs l).getD i 0 = g := by simp [List.getD, hi, hgi]
    have hf : Co.find (glyphs l) g = (i, true) := by rw [← e]; exact Co.find_at h2 hi
    rw [hf]
    refine ⟨fun q => (by cases q), fun _ => ⟨hi2, (h1 _ (getK_mem hi2)).1, ?_⟩⟩
    rw [glyphs_at hi2] at e
    rw [← e]
    exact find_at h (getK_some hi2) c (by rw [(h1 _ (getK_mem hi2)).1]; exact hc) v
  · rw [Co.find_no (.inr hg)]
    exact ⟨fun _ => find_none hg c v, fun q => (by cases q)⟩
end Cu
namespace Go.Proofs.Ytcnmfgdeanbhoaa
open Go.RowKit

set_option maxHeartbeats 800000 in
theorem cufind_corner (v : Value) (l : List Cu.Kern) (g c h : Int) (w : World) (hr : KRowC w v l) (hc : c < 0 ∨ 3 < c) :
    Calls Try.prog 22 #[v, .int .i64 g, .int .i64 c, .int .i64 h] w fun e w' => e = .returned (.int .i64 0) ∧ Lo w w' := by
  obtain ⟨p, cc, rfl, _⟩ := RowR.form hr
  clear hr
  rcases hc with hc | hc
  · go_enter Try.func22, Try.ntmps22
    go_wp2_with fail
    go_ret
    exact ⟨rfl, Lo.refl _⟩
  · have h1 : ¬ c < 0 := by omega
    have h2 : 4 ≤ c := by omega
    go_enter Try.func22, Try.ntmps22
    go_wp2_with fail
    go_ret
    exact ⟨rfl, Lo.refl _⟩

set_option maxHeartbeats 800000 in
theorem cufind_no (v : Value) (l : List Cu.Kern) (g : Int) (c : Nat) (h : Int) (w : World) (hr : KRowC w v l) (hlen : l.length ≤ 1000000) (hc : c < 4) (hk : Cu.isK l = false) :
    Calls Try.prog 22 #[v, .int .i64 g, .int .i64 (c : Int), .int .i64 h] w fun e w' => e = .returned (.int .i64 0) ∧ Lo w w' := by
  have HI := Lib.hid (curight_any v l w hr hlen)
  rw [hk] at HI
  obtain ⟨p, cc, rfl, _⟩ := RowR.form hr
  clear hr hk
  have h1 : ¬ (c : Int) < 0 := by omega
  have h2 : ¬ (4 : Int) ≤ (c : Int) := by omega
  generalize l.length = n at *
  go_enter Try.func22, Try.ntmps22
  go_wp2_with fail
  refine HI.out.mono ?_
  rintro e w1 ⟨rfl, lo⟩
  have HL := Lib.hid lo
  clear lo
  go_wp2_with fail
  go_ret
  exact ⟨rfl, HL.out⟩

set_option maxHeartbeats 1600000 in
theorem cufind_yes (v : Value) (l : List Cu.Kern) (g : Int) (c : Nat) (h : Int) (w : World) (hr : KRowC w v l) (hlen : l.length ≤ 1000000) (hc : c < 4) (hk : Cu.isK l = true) :
    Calls Try.prog 22 #[v, .int .i64 g, .int .i64 (c : Int), .int .i64 h] w fun e w' => e = .returned (.int .i64 (Cu.find l g c h)) ∧ Lo w w' := by
  have HI := Lib.hid (curight_any v l w hr hlen)
  rw [hk] at HI
  have HG := Lib.hid (fun W h => cuglyphs_any v l W h hlen)
  have HF := Lib.hid (fun u W h => cofind_any u (Cu.glyphs l) g W h)
  have HA := Lib.hid (fun (u v : Value) (x : Cu.Stair) W (a : Row W u x.1) (b : Row W v x.2) => cuat_any u v x h W a b)
  obtain ⟨f0, f1⟩ := Cu.find_cov hk g hc h
  obtain ⟨p, cc, rfl, _⟩ := RowR.form hr
  have HR := Lib.hid hr
  generalize (Co.find (Cu.glyphs l) g).2 = ok at *
  generalize (Co.find (Cu.glyphs l) g).1 = i at *
  have h1 : ¬ (c : Int) < 0 := by omega
  have h2 : ¬ (4 : Int) ≤ (c : Int) := by omega
  cases ok with
  | false =>
    rw [f0 rfl]
    clear f0 f1 hr hk HA
    generalize l.length = n at *
    go_enter Try.func22, Try.ntmps22
    go_wp2_with fail
    refine HI.out.mono ?_
    rintro e w1 ⟨rfl, lo⟩
    have HL := Lib.hid lo
    clear lo
    go_wp2_with fail
    refine (HG.out _ (KRowC.lo HR.out HL.out)).mono ?_
    rintro e w2 ⟨p1, c1, rfl, hrow, lo⟩
    have HL2 := Lib.hid (HL.out.trans lo)
    have HR2 := Lib.hid hrow
    clear hrow lo
    go_wp2_with fail
    refine (HF.out _ _ HR2.out).mono ?_
    rintro e w3 ⟨rfl, rfl⟩
    go_wp2_with fail
    go_ret
    exact ⟨rfl, HL2.out⟩
  | true =>
    obtain ⟨f2, f3, f4⟩ := f1 rfl
    rw [f4]
    have HX := Lib.hid (fun W (a : KRowC W (.slice p l.length cc) l) => KRowC.at2 a (Cu.getK_some f2))
    clear f0 f1 hr hk f4
    generalize l.length = n at *
    generalize hm : l.getD i Cu.zK = x at *
    clear hm
    obtain ⟨gx, q⟩ := x
    have HQ := Lib.hid (fun W (u : Value) (a : SRowC W u q) => (by
      obtain ⟨ps, cs, rfl, _⟩ := RowR.form a
      obtain ⟨b, off, u, v, rfl, d⟩ := SRowC.at2 a (Cu.getS_some (l := q) (i := c) (by rw [f3]; exact hc))
      dsimp only at f3
      rw [f3]
      exact ⟨b, off, cs, u, v, rfl, d⟩ : ∃ b off cs u' v', u = .slice (some ⟨b, off, none⟩) 4 cs ∧ W.cell? ⟨b, off + c * 2, none⟩ = some u' ∧ W.cell? ⟨b, off + c * 2 + 1, none⟩ = some v' ∧ Row W u' (q.getD c Cu.zS).1 ∧ Row W v' (q.getD c Cu.zS).2))
    have HAx := Lib.hid (fun u v => HA.out u v (q.getD c Cu.zS))
    dsimp only at HX ⊢
    clear HA f3
    generalize q.getD c Cu.zS = y at *
    go_enter Try.func22, Try.ntmps22
    go_wp2_with fail
    refine HI.out.mono ?_
    rintro e w1 ⟨rfl, lo⟩
    have HL := Lib.hid lo
    clear lo HI
    go_wp2_with fail
    refine (HG.out _ (KRowC.lo HR.out HL.out)).mono ?_
    rintro e w2 ⟨p1, c1, rfl, hrow, lo⟩
    have HL2 := Lib.hid (HL.out.trans lo)
    have HR2 := Lib.hid hrow
    clear hrow lo HG
    go_wp2_with fail
    refine (HF.out _ _ HR2.out).mono ?_
    rintro e w3 ⟨rfl, rfl⟩
    obtain ⟨b, off, u, rfl, c1, c2, hs⟩ := HX.out _ (KRowC.lo HR.out HL2.out)
    obtain ⟨b2, off2, cs, u', v', rfl, d1, d2, ra, rb⟩ := HQ.out _ _ hs
    have HAy := Lib.hid (HAx.out u' v' _ ra rb)
    obtain ⟨pa, ca, rfl, _⟩ := ra.form
    obtain ⟨pb, cb, rfl, _⟩ := rb.form
    clear hs ra rb HX HQ HAx HF
    generalize y.1.length = n1 at *
    generalize y.2.length = n2 at *
    go_wp2_with fail
    refine HAy.out.mono ?_
    rintro e w4 ⟨rfl, lo⟩
    have HL4 := Lib.hid (HL2.out.trans lo)
    clear lo
    go_wp2_with fail
    go_ret
    exact ⟨rfl, HL4.out⟩

/-- Find. -/
theorem cufind_any (v : Value) (l : List Cu.Kern) (g c h : Int) (w : World) (hr : KRowC w v l) (hlen : l.length ≤ 1000000) :
    Calls Try.prog 22 #[v, .int .i64 g, .int .i64 c, .int .i64 h] w fun e w' => e = .returned (.int .i64 (Cu.find l g c h)) ∧ Lo w w' := by
  by_cases hc : c < 0 ∨ 3 < c
  · rw [Cu.find_low g hc]; exact cufind_corner v l g c h w hr hc
  · obtain ⟨k, rfl⟩ := Int.eq_ofNat_of_zero_le (show 0 ≤ c by omega)
    cases hk : Cu.isK l with
    | false => rw [Cu.find_bad hk]; exact cufind_no v l g k h w hr hlen (by omega) hk
    | true => exact cufind_yes v l g k h w hr hlen (by omega) hk
end Go.Proofs.Ytcnmfgdeanbhoaa

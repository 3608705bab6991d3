/-
  The contract of head.Put: three tables, or an error. No conditions.
-/
import Derived.Test.YtbcilhdamjgoeaaHeFill
namespace Go.Proofs.Ytbcilhdamjgoeaa
open Go.RowKit

/-- Three texts and an error, as they are told. -/
def threeErr (a : List UInt8 × List UInt8 × List UInt8 × Int) : Ending := .returned (.tuple #[.string ⟨a.1.toArray⟩, .string ⟨a.2.1.toArray⟩, .string ⟨a.2.2.1.toArray⟩, .int .i64 a.2.2.2])

set_option maxRecDepth 100000 in
set_option maxHeartbeats 800000 in
theorem hput_no (h : He.Head) (w : World) (hh : He.isHead h = false) : Calls Try.prog 22 #[aggH h] w fun e w' => e = threeErr ([], [], [], 1) ∧ Lo w w' := by
  have HI := Lib.hid (fun W => his_any h W)
  rw [hh] at HI
  clear hh
  unfold aggH at *
  go_enter Try.func22, Try.ntmps22
  go_wp2_with fail
  refine (HI.out _).mono ?_
  rintro e w1 ⟨rfl, lo⟩
  have HL := Lib.hid (((Lo.refl w).alloc _).trans lo)
  clear lo
  go_wp2_with fail
  refine bodyPost_ret (v := .tuple #[.string ⟨#[]⟩, .string ⟨#[]⟩, .string ⟨#[]⟩, .int .i64 1]) ?_ rfl ⟨rfl, HL.out⟩
  simp [results, Try.results22, go_sem]

/-- So many noughts, as cells. -/
def zeroB (n : Nat) : Array Value := (Lib.byteCells (He.nts n)).toArray
theorem make_bytes (n : Nat) (hn : n ≤ 1000) (W : World) (hz : madeCells #[Value.int .u8 0] n = zeroB n) : (Instr.makeSlice 94 (.int .i64 (n : Int)) (.int .i64 (n : Int))).run Try.prog W = .ok (.slice (some ⟨W.heap.size, 0, none⟩) n n) (W.alloc (.cells (zeroB n) 5)) := by
  obtain ⟨i0, hi0, hz0, hz1, hz2⟩ := info_parts (show (Try.prog.info? 5).map (fun i => (i.zero, i.size, i.bytes)) = some (some (.int .u8 0), 1, 1) by kernel_rfl)
  have := run_makeSlice W 94 5 i0 (.int .u8 0) Try.underlying94 hi0 hz0 .i64 .i64 (n : Int) (n : Int) (by omega) (by omega) (by rw [hz1]; omega) (by rw [hz2]; omega) (by omega)
  rw [hz1, Int.toNat_natCast, Nat.mul_one, show (Value.int .u8 0).cells = #[Value.int .u8 0] from rfl, hz] at this
  exact this
theorem zeroB_buf (W : World) (n : Nat) : Buf (W.alloc (.cells (zeroB n) 5)) W.heap.size (He.nts n) := new_block W _

theorem three_bufs {w W : World} {a b c : Nat} (h : (((w.alloc (.cells (zeroB a) 5)).alloc (.cells (zeroB b) 5)).alloc (.cells (zeroB c) 5)).drew = W) :
    Buf W w.heap.size (He.nts a) ∧ Buf W (w.heap.size + 1) (He.nts b) ∧ Buf W (w.heap.size + 1 + 1) (He.nts c) ∧ Lo w W := by
  subst h
  refine ⟨?_, ?_, ?_, ((((Lo.refl w).alloc _).alloc _).alloc _).drew⟩
  · exact lo_block ((((Lo.refl _).alloc _).alloc _).drew) (zeroB_buf w a)
  · have := zeroB_buf (w.alloc (.cells (zeroB a) 5)) b
    rw [World.size_alloc] at this
    exact lo_block (((Lo.refl _).alloc _).drew) this
  · have := zeroB_buf ((w.alloc (.cells (zeroB a) 5)).alloc (.cells (zeroB b) 5)) c
    rw [World.size_alloc, World.size_alloc] at this
    exact lo_block ((Lo.refl _).drew) this
/-- Bytes, turned into a text. -/
theorem buf_text {w : World} {B n : Nat} {l : List UInt8} (h : Buf w B l) (hn : l.length = n) (k : Nat) : (convert 94 9 (.slice (some ⟨B, 0, none⟩) n n)).run Try.prog (w.drewN k) = .ok (.string ⟨l.toArray⟩) (w.drewN k) := by
  subst hn
  refine run_convert_bytes_back _ 94 9 5 ⟨B, 0, none⟩ l.length l Try.underlying94 Try.underlying5 Try.underlying9 fun j hj => ?_
  have ha : (⟨B, 0, none⟩ : Addr).add j = ⟨B, j, none⟩ := by rw [Addr.add_lit, Nat.zero_add]
  rw [ha]
  show w.cell? ⟨B, j, none⟩ = _
  refine block_cell h ?_
  unfold Lib.byteCells
  simp [hj]

set_option maxRecDepth 100000 in
set_option maxHeartbeats 3200000 in
theorem hput_yes (h : He.Head) (w : World) (hh : He.isHead h = true) : Calls Try.prog 22 #[aggH h] w fun e w' => e = threeErr (He.putA h, He.putB h, He.putC h, 0) ∧ Lo w w' := by
  have HI := Lib.hid (fun W => his_any h W)
  rw [hh] at HI
  have HFA := Lib.hid (fun (B : Nat) (W : World) (hb : Buf W B (He.nts 54)) => fillHead_any h B (He.nts 54) W hb (He.nts_len _) hh)
  have HFB := Lib.hid (fun (B : Nat) (W : World) (hb : Buf W B (He.nts 6)) => fillMaxp_any h B (He.nts 6) W hb (He.nts_len _) hh)
  have HFC := Lib.hid (fun (B : Nat) (W : World) (hb : Buf W B (He.nts 36)) => fillHhea_any h B (He.nts 36) W hb (He.nts_len _) hh)
  rw [He.fillA_eq] at HFA
  rw [He.fillB_eq] at HFB
  rw [He.fillC_eq] at HFC
  have hmf : ∀ (fn : Fn) (first cap : Array Value) (w : World), (Instr.makeFunc fn first cap).run Try.prog w = .ok (.func fn first cap) w := fun _ _ _ _ => rfl
  have hm1 : ∀ W : World, (Instr.makeSlice 94 (.int .i64 54) (.int .i64 54)).run Try.prog W = .ok (.slice (some ⟨W.heap.size, 0, none⟩) 54 54) (W.alloc (.cells (zeroB 54) 5)) := fun W => make_bytes 54 (by omega) W (by kernel_rfl)
  have hm2 : ∀ W : World, (Instr.makeSlice 94 (.int .i64 6) (.int .i64 6)).run Try.prog W = .ok (.slice (some ⟨W.heap.size, 0, none⟩) 6 6) (W.alloc (.cells (zeroB 6) 5)) := fun W => make_bytes 6 (by omega) W (by kernel_rfl)
  have hm3 : ∀ W : World, (Instr.makeSlice 94 (.int .i64 36) (.int .i64 36)).run Try.prog W = .ok (.slice (some ⟨W.heap.size, 0, none⟩) 36 36) (W.alloc (.cells (zeroB 36) 5)) := fun W => make_bytes 36 (by omega) W (by kernel_rfl)
  have hlA := He.putA_len h
  have hlB := He.putB_len h
  have hlC := He.putC_len h
  unfold aggH at *
  generalize He.putA h = pa at *
  generalize He.putB h = pb at *
  generalize He.putC h = pc at *
  go_enter Try.func22, Try.ntmps22
  go_wp2_with fail
  refine (HI.out _).mono ?_
  rintro e w1 ⟨rfl, lo⟩
  have HL := Lib.hid (((Lo.refl w).alloc _).trans lo)
  have HT := Lib.hid (lo_block lo (new_block w _))
  have HS : Hid (w.heap.size < w1.heap.size) := Lib.hid (by have := lo.size; simp at this; omega)
  clear lo HI
  go_wp2_with fail
  go_region
  · go_simp
    generalize hW : World.drew _ = w2
    obtain ⟨bA, bB, bC, lo⟩ := three_bufs hW
    have HL := Lib.hid (HL.out.trans lo)
    have HT := Lib.hid (lo_block lo HT.out)
    clear hW lo hm1 hm2 hm3
    obtain ⟨⟨r0, r1, r2, r3, r4, r5⟩, _⟩ := six_at HT.out
    go_wp2_with fail
    refine (HFA.out _ _ bA).mono ?_
    rintro e w3 ⟨rfl, hb, hk⟩
    have bA := hb
    have bB := bB.kept hk (by omega)
    have bC := bC.kept hk (by omega)
    have HL := Lib.hid (hk.lo HL.out (by have := HS.out; omega))
    have HT := Lib.hid (hk.block HT.out (by have := HS.out; omega))
    clear hb hk r0 r1 r2 r3 r4 r5
    obtain ⟨⟨r0, r1, r2, r3, r4, r5⟩, _⟩ := six_at HT.out
    go_wp2_with fail
    refine (HFB.out _ _ bB).mono ?_
    rintro e w4 ⟨rfl, hb, hk⟩
    have bB := hb
    have bA := bA.kept hk (by omega)
    have bC := bC.kept hk (by omega)
    have HL := Lib.hid (hk.lo HL.out (by have := HS.out; omega))
    have HT := Lib.hid (hk.block HT.out (by have := HS.out; omega))
    clear hb hk r0 r1 r2 r3 r4 r5
    obtain ⟨⟨r0, r1, r2, r3, r4, r5⟩, _⟩ := six_at HT.out
    go_wp2_with fail
    refine (HFC.out _ _ bC).mono ?_
    rintro e w5 ⟨rfl, hb, hk⟩
    have bC := hb
    have bA := bA.kept hk (by omega)
    have bB := bB.kept hk (by omega)
    have HL := Lib.hid (hk.lo HL.out (by have := HS.out; omega))
    clear hb hk r0 r1 r2 r3 r4 r5 HT
    have cA := fun k => buf_text bA hlA k
    have cB := fun k => buf_text bB hlB k
    have cC := fun k => buf_text bC hlC k
    go_wp2_with fail
    go_quiet (fail)
    have HL := Lib.hid (HL.out.drewN nq)
    go_wp2_with fail
    refine bodyPost_ret (v := .tuple #[.string ⟨pa.toArray⟩, .string ⟨pb.toArray⟩, .string ⟨pc.toArray⟩, .int .i64 0]) ?_ rfl ⟨rfl, HL.out⟩
    simp [results, Try.results22, go_sem]
  · go_simp
    generalize hW : World.drew _ = w2
    obtain ⟨bA, bC, bB, lo⟩ := three_bufs hW
    have HL := Lib.hid (HL.out.trans lo)
    have HT := Lib.hid (lo_block lo HT.out)
    clear hW lo hm1 hm2 hm3
    obtain ⟨⟨r0, r1, r2, r3, r4, r5⟩, _⟩ := six_at HT.out
    go_wp2_with fail
    refine (HFA.out _ _ bA).mono ?_
    rintro e w3 ⟨rfl, hb, hk⟩
    have bA := hb
    have bB := bB.kept hk (by omega)
    have bC := bC.kept hk (by omega)
    have HL := Lib.hid (hk.lo HL.out (by have := HS.out; omega))
    have HT := Lib.hid (hk.block HT.out (by have := HS.out; omega))
    clear hb hk r0 r1 r2 r3 r4 r5
    obtain ⟨⟨r0, r1, r2, r3, r4, r5⟩, _⟩ := six_at HT.out
    go_wp2_with fail
    refine (HFB.out _ _ bB).mono ?_
    rintro e w4 ⟨rfl, hb, hk⟩
    have bB := hb
    have bA := bA.kept hk (by omega)
    have bC := bC.kept hk (by omega)
    have HL := Lib.hid (hk.lo HL.out (by have := HS.out; omega))
    have HT := Lib.hid (hk.block HT.out (by have := HS.out; omega))
    clear hb hk r0 r1 r2 r3 r4 r5
    obtain ⟨⟨r0, r1, r2, r3, r4, r5⟩, _⟩ := six_at HT.out
    go_wp2_with fail
    refine (HFC.out _ _ bC).mono ?_
    rintro e w5 ⟨rfl, hb, hk⟩
    have bC := hb
    have bA := bA.kept hk (by omega)
    have bB := bB.kept hk (by omega)
    have HL := Lib.hid (hk.lo HL.out (by have := HS.out; omega))
    clear hb hk r0 r1 r2 r3 r4 r5 HT
    have cA := fun k => buf_text bA hlA k
    have cB := fun k => buf_text bB hlB k
    have cC := fun k => buf_text bC hlC k
    go_wp2_with fail
    go_quiet (fail)
    have HL := Lib.hid (HL.out.drewN nq)
    go_wp2_with fail
    refine bodyPost_ret (v := .tuple #[.string ⟨pa.toArray⟩, .string ⟨pb.toArray⟩, .string ⟨pc.toArray⟩, .int .i64 0]) ?_ rfl ⟨rfl, HL.out⟩
    simp [results, Try.results22, go_sem]
  · go_simp
    generalize hW : World.drew _ = w2
    obtain ⟨bB, bA, bC, lo⟩ := three_bufs hW
    have HL := Lib.hid (HL.out.trans lo)
    have HT := Lib.hid (lo_block lo HT.out)
    clear hW lo hm1 hm2 hm3
    obtain ⟨⟨r0, r1, r2, r3, r4, r5⟩, _⟩ := six_at HT.out
    go_wp2_with fail
    refine (HFA.out _ _ bA).mono ?_
    rintro e w3 ⟨rfl, hb, hk⟩
    have bA := hb
    have bB := bB.kept hk (by omega)
    have bC := bC.kept hk (by omega)
    have HL := Lib.hid (hk.lo HL.out (by have := HS.out; omega))
    have HT := Lib.hid (hk.block HT.out (by have := HS.out; omega))
    clear hb hk r0 r1 r2 r3 r4 r5
    obtain ⟨⟨r0, r1, r2, r3, r4, r5⟩, _⟩ := six_at HT.out
    go_wp2_with fail
    refine (HFB.out _ _ bB).mono ?_
    rintro e w4 ⟨rfl, hb, hk⟩
    have bB := hb
    have bA := bA.kept hk (by omega)
    have bC := bC.kept hk (by omega)
    have HL := Lib.hid (hk.lo HL.out (by have := HS.out; omega))
    have HT := Lib.hid (hk.block HT.out (by have := HS.out; omega))
    clear hb hk r0 r1 r2 r3 r4 r5
    obtain ⟨⟨r0, r1, r2, r3, r4, r5⟩, _⟩ := six_at HT.out
    go_wp2_with fail
    refine (HFC.out _ _ bC).mono ?_
    rintro e w5 ⟨rfl, hb, hk⟩
    have bC := hb
    have bA := bA.kept hk (by omega)
    have bB := bB.kept hk (by omega)
    have HL := Lib.hid (hk.lo HL.out (by have := HS.out; omega))
    clear hb hk r0 r1 r2 r3 r4 r5 HT
    have cA := fun k => buf_text bA hlA k
    have cB := fun k => buf_text bB hlB k
    have cC := fun k => buf_text bC hlC k
    go_wp2_with fail
    go_quiet (fail)
    have HL := Lib.hid (HL.out.drewN nq)
    go_wp2_with fail
    refine bodyPost_ret (v := .tuple #[.string ⟨pa.toArray⟩, .string ⟨pb.toArray⟩, .string ⟨pc.toArray⟩, .int .i64 0]) ?_ rfl ⟨rfl, HL.out⟩
    simp [results, Try.results22, go_sem]
  · go_simp
    generalize hW : World.drew _ = w2
    obtain ⟨bB, bC, bA, lo⟩ := three_bufs hW
    have HL := Lib.hid (HL.out.trans lo)
    have HT := Lib.hid (lo_block lo HT.out)
    clear hW lo hm1 hm2 hm3
    obtain ⟨⟨r0, r1, r2, r3, r4, r5⟩, _⟩ := six_at HT.out
    go_wp2_with fail
    refine (HFA.out _ _ bA).mono ?_
    rintro e w3 ⟨rfl, hb, hk⟩
    have bA := hb
    have bB := bB.kept hk (by omega)
    have bC := bC.kept hk (by omega)
    have HL := Lib.hid (hk.lo HL.out (by have := HS.out; omega))
    have HT := Lib.hid (hk.block HT.out (by have := HS.out; omega))
    clear hb hk r0 r1 r2 r3 r4 r5
    obtain ⟨⟨r0, r1, r2, r3, r4, r5⟩, _⟩ := six_at HT.out
    go_wp2_with fail
    refine (HFB.out _ _ bB).mono ?_
    rintro e w4 ⟨rfl, hb, hk⟩
    have bB := hb
    have bA := bA.kept hk (by omega)
    have bC := bC.kept hk (by omega)
    have HL := Lib.hid (hk.lo HL.out (by have := HS.out; omega))
    have HT := Lib.hid (hk.block HT.out (by have := HS.out; omega))
    clear hb hk r0 r1 r2 r3 r4 r5
    obtain ⟨⟨r0, r1, r2, r3, r4, r5⟩, _⟩ := six_at HT.out
    go_wp2_with fail
    refine (HFC.out _ _ bC).mono ?_
    rintro e w5 ⟨rfl, hb, hk⟩
    have bC := hb
    have bA := bA.kept hk (by omega)
    have bB := bB.kept hk (by omega)
    have HL := Lib.hid (hk.lo HL.out (by have := HS.out; omega))
    clear hb hk r0 r1 r2 r3 r4 r5 HT
    have cA := fun k => buf_text bA hlA k
    have cB := fun k => buf_text bB hlB k
    have cC := fun k => buf_text bC hlC k
    go_wp2_with fail
    go_quiet (fail)
    have HL := Lib.hid (HL.out.drewN nq)
    go_wp2_with fail
    refine bodyPost_ret (v := .tuple #[.string ⟨pa.toArray⟩, .string ⟨pb.toArray⟩, .string ⟨pc.toArray⟩, .int .i64 0]) ?_ rfl ⟨rfl, HL.out⟩
    simp [results, Try.results22, go_sem]
  · go_simp
    generalize hW : World.drew _ = w2
    obtain ⟨bC, bA, bB, lo⟩ := three_bufs hW
    have HL := Lib.hid (HL.out.trans lo)
    have HT := Lib.hid (lo_block lo HT.out)
    clear hW lo hm1 hm2 hm3
    obtain ⟨⟨r0, r1, r2, r3, r4, r5⟩, _⟩ := six_at HT.out
    go_wp2_with fail
    refine (HFA.out _ _ bA).mono ?_
    rintro e w3 ⟨rfl, hb, hk⟩
    have bA := hb
    have bB := bB.kept hk (by omega)
    have bC := bC.kept hk (by omega)
    have HL := Lib.hid (hk.lo HL.out (by have := HS.out; omega))
    have HT := Lib.hid (hk.block HT.out (by have := HS.out; omega))
    clear hb hk r0 r1 r2 r3 r4 r5
    obtain ⟨⟨r0, r1, r2, r3, r4, r5⟩, _⟩ := six_at HT.out
    go_wp2_with fail
    refine (HFB.out _ _ bB).mono ?_
    rintro e w4 ⟨rfl, hb, hk⟩
    have bB := hb
    have bA := bA.kept hk (by omega)
    have bC := bC.kept hk (by omega)
    have HL := Lib.hid (hk.lo HL.out (by have := HS.out; omega))
    have HT := Lib.hid (hk.block HT.out (by have := HS.out; omega))
    clear hb hk r0 r1 r2 r3 r4 r5
    obtain ⟨⟨r0, r1, r2, r3, r4, r5⟩, _⟩ := six_at HT.out
    go_wp2_with fail
    refine (HFC.out _ _ bC).mono ?_
    rintro e w5 ⟨rfl, hb, hk⟩
    have bC := hb
    have bA := bA.kept hk (by omega)
    have bB := bB.kept hk (by omega)
    have HL := Lib.hid (hk.lo HL.out (by have := HS.out; omega))
    clear hb hk r0 r1 r2 r3 r4 r5 HT
    have cA := fun k => buf_text bA hlA k
    have cB := fun k => buf_text bB hlB k
    have cC := fun k => buf_text bC hlC k
    go_wp2_with fail
    go_quiet (fail)
    have HL := Lib.hid (HL.out.drewN nq)
    go_wp2_with fail
    refine bodyPost_ret (v := .tuple #[.string ⟨pa.toArray⟩, .string ⟨pb.toArray⟩, .string ⟨pc.toArray⟩, .int .i64 0]) ?_ rfl ⟨rfl, HL.out⟩
    simp [results, Try.results22, go_sem]
  · go_simp
    generalize hW : World.drew _ = w2
    obtain ⟨bC, bB, bA, lo⟩ := three_bufs hW
    have HL := Lib.hid (HL.out.trans lo)
    have HT := Lib.hid (lo_block lo HT.out)
    clear hW lo hm1 hm2 hm3
    obtain ⟨⟨r0, r1, r2, r3, r4, r5⟩, _⟩ := six_at HT.out
    go_wp2_with fail
    refine (HFA.out _ _ bA).mono ?_
    rintro e w3 ⟨rfl, hb, hk⟩
    have bA := hb
    have bB := bB.kept hk (by omega)
    have bC := bC.kept hk (by omega)
    have HL := Lib.hid (hk.lo HL.out (by have := HS.out; omega))
    have HT := Lib.hid (hk.block HT.out (by have := HS.out; omega))
    clear hb hk r0 r1 r2 r3 r4 r5
    obtain ⟨⟨r0, r1, r2, r3, r4, r5⟩, _⟩ := six_at HT.out
    go_wp2_with fail
    refine (HFB.out _ _ bB).mono ?_
    rintro e w4 ⟨rfl, hb, hk⟩
    have bB := hb
    have bA := bA.kept hk (by omega)
    have bC := bC.kept hk (by omega)
    have HL := Lib.hid (hk.lo HL.out (by have := HS.out; omega))
    have HT := Lib.hid (hk.block HT.out (by have := HS.out; omega))
    clear hb hk r0 r1 r2 r3 r4 r5
    obtain ⟨⟨r0, r1, r2, r3, r4, r5⟩, _⟩ := six_at HT.out
    go_wp2_with fail
    refine (HFC.out _ _ bC).mono ?_
    rintro e w5 ⟨rfl, hb, hk⟩
    have bC := hb
    have bA := bA.kept hk (by omega)
    have bB := bB.kept hk (by omega)
    have HL := Lib.hid (hk.lo HL.out (by have := HS.out; omega))
    clear hb hk r0 r1 r2 r3 r4 r5 HT
    have cA := fun k => buf_text bA hlA k
    have cB := fun k => buf_text bB hlB k
    have cC := fun k => buf_text bC hlC k
    go_wp2_with fail
    go_quiet (fail)
    have HL := Lib.hid (HL.out.drewN nq)
    go_wp2_with fail
    refine bodyPost_ret (v := .tuple #[.string ⟨pa.toArray⟩, .string ⟨pb.toArray⟩, .string ⟨pc.toArray⟩, .int .i64 0]) ?_ rfl ⟨rfl, HL.out⟩
    simp [results, Try.results22, go_sem]

/-- head.Put. -/
theorem hput_any (h : He.Head) (w : World) : Calls Try.prog 22 #[aggH h] w fun e w' => e = threeErr (He.put h) ∧ Lo w w' := by
  unfold He.put
  cases hh : He.isHead h with
  | false => exact hput_no h w hh
  | true => exact hput_yes h w hh
end Go.Proofs.Ytbcilhdamjgoeaa

/-
  Contract of chart.lay: glyphs laid into an array, span by span. No conditions beyond those stated.
-/
import Derived.Test.YtjfobpbnofjjdaaChBase
import Derived.Test.YtjfobpbnofjjdaaGkArr
import Derived.Lib.MinMax
namespace Go.Proofs.Ytjfobpbnofjjdaa
open Go.RowKit

theorem lay_start (k : List Ch.Span) (x : Ch.Span) (a : Int) (m : Nat) : Ch.laidTo k x (max x.fr a) a m = Ch.laid k a m := Ch.laidTo_start k x a m rfl

set_option maxRecDepth 100000 in
set_option maxHeartbeats 3200000 in
theorem lay_any (k : List Ch.Span) (a : Int) (B n cap m ty : Nat) (v : Value) (w0 w : World) (h0 : Lo w0 w) (hB : w0.heap.size ≤ B) (hr : SRow w0 v k) (harr : ArrAt w B ty (Ch.laid [] a m)) (hnm : n ≤ m) (ha : 0 ≤ a)
    (hk : Ch.chain (-1) k = true) (hin : ∀ x ∈ k, x.to - a < n) (hlen : k.length ≤ 65536) (hm : m ≤ 100000) :
    Calls Try.prog 30 #[.slice (some ⟨B, 0, none⟩) n cap, .int .i64 a, v] w fun e w' => e = .returned (.tuple #[]) ∧ ArrAt w' B ty (Ch.laid k a m) ∧ Lo w0 w' := by
  obtain ⟨p, c, rfl, _⟩ := RowK.form hr
  have HR := Lib.hid hr
  have H0 := Lib.hid h0
  have HA := Lib.hid harr
  have HLn := Lib.hid (fun l x c => Ch.laidTo_len l x c a m)
  have HK := Lib.hid hk
  have HIn := Lib.hid hin
  have HBw := Lib.hid hB
  have HAll : Hid (k.take k.length = k) := Lib.hid List.take_length
  generalize hkn : k.length = kn at *
  have HN := Lib.hid hkn
  clear hkn hr h0 harr hk hin hB
  go_enter Try.func30, Try.ntmps30
  go_wp2_with fail
  go_loopw [7, 8, 11] (fun _ _ s11 W => ∃ j : Nat, j ≤ kn ∧ s11 = .int .i64 j ∧ Hid (ArrAt W B ty (Ch.laid (k.take j) a m)) ∧ Hid (Lo w0 W)) (fun _ _ s11 _ => kn - (intOf s11).toNat)
  case atStart => exact ⟨0, Nat.zero_le _, rfl, HA, H0⟩
  case round =>
    obtain ⟨j, hj, rfl, HA1, HL1⟩ := hrel
    rename World => W1
    by_cases hlt : j < kn
    · have hj' : j < k.length := by rw [HN.out]; exact hlt
      obtain ⟨b, off, rfl, r0, r1, r2, r3⟩ := SRow.at4 (RowK.lo HR.out HL1.out) (Ch.getD_some hj')
      have HIx := Lib.hid (HIn.out _ (Ch.getD_mem hj'))
      have HCh : Hid (Ch.chain (-1) (k.take j ++ [k.getD j Ch.zs]) = true) := Lib.hid (by rw [← Ch.take_snoc hj']; exact Ch.chain_take _ HK.out)
      have HOk := Lib.hid (Ch.chain_mem HK.out _ (Ch.getD_mem hj')).1
      have HTk := Lib.hid (Ch.take_snoc hj')
      have HG := Lib.hid (fun (c : Int) (W : World) h7 h8 => glyph_ok HOk.out c W h7 h8)
      clear hj'
      generalize k.getD j Ch.zs = x at *
      have hok := (Ch.okSpan_iff x).1 HOk.out
      have HAs : Hid (ArrAt (W1.alloc (.cells #[.int .i64 x.fr, .int .i64 x.to, .int .i64 x.gl, .int .i64 x.st] 49)) B ty (Ch.laidTo (k.take j) x (max x.fr a) a m)) := Lib.hid (by rw [lay_start]; exact ArrAt.lo HA1.out ((Lo.refl _).alloc _))
      have HLs : Hid (Lo w0 (W1.alloc (.cells #[.int .i64 x.fr, .int .i64 x.to, .int .i64 x.gl, .int .i64 x.st] 49))) := Lib.hid (HL1.out.alloc _)
      have HTs := Lib.hid (new_block W1 (.cells #[.int .i64 x.fr, .int .i64 x.to, .int .i64 x.gl, .int .i64 x.st] 49))
      have hTB : W1.heap.size ≠ B := by have := HA1.out.lt; omega
      unfold aggS at HG
      obtain ⟨hx1, hx2, hx3, _⟩ := hok
      go_wp2_with fail
      clear r0 r1 r2 r3 HA1
      go_loopw [8] (fun s8 W => ∃ c : Int, s8 = .int .i64 c ∧ max x.fr a ≤ c ∧ (c ≤ x.to + 1 ∨ c = max x.fr a) ∧ Hid (ArrAt W B ty (Ch.laidTo (k.take j) x c a m)) ∧ Hid (Lo w0 W) ∧ Hid (W.heap[W1.heap.size]? = some (.cells #[.int .i64 x.fr, .int .i64 x.to, .int .i64 x.gl, .int .i64 x.st] 49 (0, 0)))) (fun s8 _ => (x.to + 1 - intOf s8).toNat)
      case atStart => exact ⟨max x.fr a, rfl, Int.le_refl _, .inr rfl, HAs, HLs, HTs⟩
      case round =>
        obtain ⟨c, rfl, hc1, hc2, HA2, HL2, HT2⟩ := hrel
        rename World => W2
        obtain ⟨⟨s0, s1, s2, s3⟩, _⟩ := four_at HT2.out
        by_cases hle : c ≤ x.to
        · have HG1 := Lib.hid (fun W => HG.out c W (by omega) (by omega))
          have HSet := Lib.hid (Ch.laidTo_set (k.take j) x a m (c := c) (by omega) (by omega))
          have hix := HIx.out
          go_wp2_with fail
          refine (HG1.out _).mono ?_
          rintro e w3 ⟨rfl, lo⟩
          have HL3 := Lib.hid (HL2.out.trans lo)
          have HT3 := Lib.hid (lo_block lo HT2.out)
          have HA3 := Lib.hid (ArrAt.lo HA2.out lo)
          have hcell := ArrAt.cell HA3.out (i := (c - a).toNat) (by rw [HLn.out]; omega)
          have hfr := ArrAt.frozen HA3.out (c - a).toNat
          have HA4 : Hid (ArrAt (w3.setCell ⟨B, (c - a).toNat, none⟩ (.int .i64 (Ch.glyphOf x c))) B ty (Ch.laidTo (k.take j) x (c + 1) a m)) := Lib.hid (by rw [← HSet.out]; exact ArrAt.set HA3.out _ _)
          have HL4 : Hid (Lo w0 (w3.setCell ⟨B, (c - a).toNat, none⟩ (.int .i64 (Ch.glyphOf x c)))) := Lib.hid (HL3.out.set HBw.out _)
          have HT4 : Hid ((w3.setCell ⟨B, (c - a).toNat, none⟩ (.int .i64 (Ch.glyphOf x c))).heap[W1.heap.size]? = some (.cells #[.int .i64 x.fr, .int .i64 x.to, .int .i64 x.gl, .int .i64 x.st] 49 (0, 0))) := Lib.hid (by rw [set_other hTB]; exact HT3.out)
          clear lo s0 s1 s2 s3 HG1 HSet
          go_wp2_with fail
          go_roundw
          case rel => exact ⟨c + 1, by go_num, by omega, by omega, HA4, HL4, HT4⟩
          case measure => simp [intOf]; omega
        · have HE : Hid (Ch.laidTo (k.take j) x c a m = Ch.laid (k.take (j + 1)) a m) := Lib.hid (by rw [HTk.out]; exact Ch.laidTo_end HCh.out a m (by omega) (by omega))
          go_wp2_with fail
          go_roundw
          case rel => exact ⟨j + 1, by omega, by go_num, by rw [← HE.out]; exact HA2, HL2⟩
          case measure => simp [intOf]; omega
    · obtain rfl : j = kn := by omega
      have HE : Hid (Ch.laid (k.take j) a m = Ch.laid k a m) := Lib.hid (by rw [HAll.out])
      go_wp2_with fail
      go_end0
      exact ⟨rfl, by rw [← HE.out]; exact HA1.out, HL1.out⟩
end Go.Proofs.Ytjfobpbnofjjdaa

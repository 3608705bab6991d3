/-
  Contracts of chart.written, PutSmall and PutTrimmed. No conditions beyond those stated.
-/
import Derived.Test.YtjfobpbnofjjdaaChUsed
import Derived.Test.YtjfobpbnofjjdaaChConcat
import Derived.Test.YtjfobpbnofjjdaaChLay
import Derived.Test.YtjfobpbnofjjdaaChArr
import Derived.Test.YtjfobpbnofjjdaaBnPut
namespace Go.Proofs.Ytjfobpbnofjjdaa
open Go.RowKit

theorem two_cells (w : World) (a b : Value) (ty : Nat) : (w.alloc (.cells #[a, b] ty)).cell? ⟨w.heap.size, 0, none⟩ = some a ∧ (w.alloc (.cells #[a, b] ty)).cell? ⟨w.heap.size, 1, none⟩ = some b :=
  ⟨block_cell (new_block w _) rfl, block_cell (new_block w _) rfl⟩

set_option maxHeartbeats 1600000 in
theorem written_any (xs ys : List Int) (size : Int) (v u : Value) (w : World) (h : Row w v xs) (h2 : Row w u ys) (hx : xs.length ≤ 10) (hy : ys.length ≤ 40000) :
    Calls Try.prog 31 #[v, .int .i64 size, u] w fun e w' => e = .returned (.string ⟨(Bn.put (List.replicate xs.length 2 ++ List.replicate ys.length size) (xs ++ ys)).1.toArray⟩) ∧ Lo w w' := by
  obtain ⟨p, c, rfl, _⟩ := h.form
  obtain ⟨q, d, rfl, _⟩ := h2.form
  have HR := Lib.hid h
  have HR2 := Lib.hid h2
  have HM1 := Lib.hid (fun W => repeated_any 2 xs.length W (by omega))
  have HM2 := Lib.hid (fun W => repeated_any size ys.length W (by omega))
  have HC1 := Lib.hid (fun (va vb : Value) (B : Nat) (W : World) c0 c1 ha hb => concat_any (List.replicate xs.length 2) (List.replicate ys.length size) va vb B W c0 c1 ha hb (by rw [List.length_replicate, List.length_replicate]; omega))
  have HC2 := Lib.hid (fun (va vb : Value) (B : Nat) (W : World) c0 c1 ha hb => concat_any xs ys va vb B W c0 c1 ha hb (by omega))
  have HP := Lib.hid (fun (v u : Value) (W : World) h1 h2 => put_any (List.replicate xs.length 2 ++ List.replicate ys.length size) (xs ++ ys) v u W h1 h2 (by rw [List.length_append, List.length_replicate, List.length_replicate]; omega))
  rw [List.length_replicate, List.length_replicate] at HC1
  generalize Bn.put (List.replicate xs.length 2 ++ List.replicate ys.length size) (xs ++ ys) = y at *
  unfold Many at HM1 HM2
  unfold strErr at HP
  generalize xs.length = nx at *
  generalize ys.length = ny at *
  clear h h2
  go_enter Try.func31, Try.ntmps31
  go_wp2_with fail
  refine (HM1.out _).mono ?_
  rintro e w1 ⟨p1, c1, rfl, hr, lo⟩
  have HL := Lib.hid lo
  have HA := Lib.hid hr
  clear lo hr HM1
  go_wp2_with fail
  refine (HM2.out _).mono ?_
  rintro e w2 ⟨p2, c2, rfl, hr, lo⟩
  have HL := Lib.hid (HL.out.trans lo)
  have HA := Lib.hid (HA.out.lo lo)
  have HB := Lib.hid hr
  clear lo hr HM2
  go_wp2_with fail
  refine (HC1.out _ _ _ _ (two_cells w2 _ _ _).1 (two_cells w2 _ _ _).2 (HA.out.lo ((Lo.refl _).alloc _)) (HB.out.lo ((Lo.refl _).alloc _))).mono ?_
  rintro e w3 ⟨p3, c3, rfl, hr, lo⟩
  have HL := Lib.hid ((HL.out.alloc _).trans lo)
  have HS := Lib.hid hr
  have HR := Lib.hid (HR.out.lo HL.out)
  have HR2 := Lib.hid (HR2.out.lo HL.out)
  clear lo hr HC1 HA HB
  go_wp2_with fail
  refine (HC2.out _ _ _ _ (two_cells w3 _ _ _).1 (two_cells w3 _ _ _).2 (HR.out.lo ((Lo.refl _).alloc _)) (HR2.out.lo ((Lo.refl _).alloc _))).mono ?_
  rintro e w4 ⟨p4, c4, rfl, hr, lo⟩
  have HL := Lib.hid ((HL.out.alloc _).trans lo)
  have HS := Lib.hid (HS.out.lo (((Lo.refl _).alloc _).trans lo))
  have HT := Lib.hid hr
  clear lo hr HC2 HR HR2
  go_wp2_with fail
  refine (HP.out _ _ _ HS.out HT.out).mono ?_
  rintro e w5 ⟨rfl, lo⟩
  have HL := Lib.hid (HL.out.trans lo)
  clear lo HP HS HT
  go_wp2_with fail
  go_ret
  exact ⟨rfl, HL.out⟩
end Go.Proofs.Ytjfobpbnofjjdaa

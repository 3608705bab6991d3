/-
  Contract of segment.fillHead: the first seven numbers laid into an array. No conditions beyond those stated.
-/
import Derived.Test.YtfnpindohoflaaaSgBase
import Derived.Test.YtfnpindohoflaaaPlain
import Derived.Test.YtfnpindohoflaaaGkCopy
import Derived.Test.YtfnpindohoflaaaShelf
namespace Go.Proofs.Ytfnpindohoflaaa
open Go.RowKit

theorem rowSeven (w : World) (B : Nat) (hB : B = w.heap.size) (a b c d e f g : Int) : ∀ j, j < 7 → (w.alloc (.cells #[.int .i64 a, .int .i64 b, .int .i64 c, .int .i64 d, .int .i64 e, .int .i64 f, .int .i64 g] 3)).cell? ⟨B, 0 + j, none⟩ = some (.int .i64 ([a, b, c, d, e, f, g].getD j 0)) := by
  subst hB
  intro j hj
  obtain rfl | rfl | rfl | rfl | rfl | rfl | rfl : j = 0 ∨ j = 1 ∨ j = 2 ∨ j = 3 ∨ j = 4 ∨ j = 5 ∨ j = 6 := by omega
  all_goals simp [go_sem]

set_option maxRecDepth 100000 in
set_option maxHeartbeats 1600000 in
theorem fillHead_any (n g B ty : Nat) (L : List Int) (w0 w : World) (h0 : Lo w0 w) (hB : w0.heap.size ≤ B) (harr : ArrAt w B ty L) (hL : 7 ≤ L.length) (h1 : 1 ≤ n) (hn : n ≤ 8200) (hg : g ≤ 100000) :
    Calls Try.prog 29 #[.slice (some ⟨B, 0, none⟩) 7 7, .int .i64 (n : Int), .int .i64 (g : Int)] w fun e w' => e = .returned (.tuple #[]) ∧ ArrAt w' B ty (Sg.hd n g ++ L.drop 7) ∧ Lo w0 w' ∧ ∀ T, T ≠ B → T < w.heap.size → w'.heap[T]? = w.heap[T]? := by
  obtain ⟨t, e1, e2, e3, e4, e5⟩ := Sg.pow2_is (n := n) (by omega) hn
  have HB := Lib.hid (fun W => Try.bits_Len (n : Int) W (by omega) (by omega))
  rw [Int.toNat_natCast, e4] at HB
  have HLn := Lib.hid (fun W => length_any n g W (by omega) (by omega))
  have hhd : Sg.hd n g = [4, ((16 + 8 * n + 2 * g : Nat) : Int), 0, ((2 * n : Nat) : Int), ((2 * 2 ^ t : Nat) : Int), (t : Int), ((2 * n : Nat) : Int) - ((2 * 2 ^ t : Nat) : Int)] := by
    unfold Sg.hd
    rw [e1]
  rw [hhd]
  clear hhd e1 e4
  have hw : wrap64 ((2 : Int) ^ t) = ((2 ^ t : Nat) : Int) := by
    rw [Int.natCast_pow]; exact wrap_id (by have : (0 : Int) ≤ 2 ^ t := Int.pow_nonneg (by omega); omega) (by rw [show (2 : Int) ^ t = ((2 ^ t : Nat) : Int) by rw [Int.natCast_pow]; rfl]; omega)
  generalize 2 ^ t = P at *
  clear e3
  have HCp := Lib.hid (fun (W : World) (a1 a3 a4 a5 a6 : Int) (hA : ArrAt W B ty L) => copy_into 3 B ty 0 7 7 W.heap.size 0 7 7 L [4, a1, 0, a3, a4, a5, a6] (W.alloc (.cells #[.int .i64 4, .int .i64 a1, .int .i64 0, .int .i64 a3, .int .i64 a4, .int .i64 a5, .int .i64 a6] 3)) (hA.lo ((Lo.refl _).alloc _)) (rowSeven W _ rfl _ _ _ _ _ _ _) rfl (Nat.le_refl _) (by omega))
  have HA := Lib.hid harr
  have H0 := Lib.hid h0
  have HBw := Lib.hid hB
  clear harr h0 hB
  go_enter Try.func29, Try.ntmps29
  go_wp2_with fail
  refine (HB.out _).mono ?_
  rintro e w1 ⟨rfl, rfl⟩
  go_wp2_with fail
  refine (HLn.out _).mono ?_
  rintro e w2 ⟨rfl, rfl⟩
  obtain ⟨w3, hcp, hA3, hL3, hO3⟩ := HCp.out w1 (16 + 8 * (n : Int) + 2 * (g : Int)) (2 * (n : Int)) (2 * (P : Int)) (t : Int) (2 * (n : Int) - 2 * (P : Int)) HA.out
  have HA3 := Lib.hid hA3
  have HL3 := Lib.hid (hL3 w0 (H0.out.alloc _) HBw.out)
  have HO3 := Lib.hid hO3
  clear hA3 hL3 hO3 HCp HB HLn
  go_wp2_with fail
  go_end0
  refine ⟨rfl, ?_, HL3.out, fun T hT hlt => ?_⟩
  · have := HA3.out
    rw [List.take_zero, List.nil_append, Nat.zero_add] at this
    rw [show ((16 + 8 * n + 2 * g : Nat) : Int) = 16 + 8 * (n : Int) + 2 * (g : Int) by omega, show ((2 * n : Nat) : Int) = 2 * (n : Int) by omega, show ((2 * P : Nat) : Int) = 2 * (P : Int) by omega]
    exact this
  · rw [HO3.out T hT]
    exact ((Lo.refl w1).alloc _).block T hlt
end Go.Proofs.Ytfnpindohoflaaa

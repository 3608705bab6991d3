/-
  Contracts of the document's records and wrong for layer 4. No conditions beyond those stated.
-/
import Derived.Test.YtchhjfocanjniaaGreatSfRef
import Derived.Test.YtchhjfocanjniaaGreatGkStep
namespace Sf
/-- A record as it is read: tag, sum, place, length. -/
abbrev Rq := List UInt8 × Nat × Nat × Nat
def rq (s : List UInt8) (i : Nat) : Rq := (recTag s i, recSum s i, recAt s i, recLen s i)
theorem num_lt (s : List UInt8) (pos : Nat) : num s pos 4 < 4294967296 := by
  unfold num
  have := Bn.be_lt ((s.drop pos).take 4)
  exact Nat.lt_of_lt_of_le this (Nat.le_trans (Nat.pow_le_pow_right (by omega) (show ((s.drop pos).take 4).length ≤ 4 by rw [List.length_take]; omega)) (by decide))
end Sf
namespace Go.Proofs.YtchhjfocanjniaaGreat
open Go.RowKit

def encQ (x : Sf.Rq) : List Value := [.string ⟨x.1.toArray⟩, .int .i64 x.2.1, .int .i64 x.2.2.1, .int .i64 x.2.2.2]
theorem encQ_len (x : Sf.Rq) : (encQ x).length = 4 := rfl
theorem encQ_one (x : Sf.Rq) : ∀ u ∈ encQ x, u.oneCell' = true := by
  intro u hu
  simp only [encQ, List.mem_cons, List.not_mem_nil, or_false] at hu
  rcases hu with rfl | rfl | rfl | rfl <;> rfl
theorem rq_info : (Tryz.prog.info? 55).map (fun i => (i.zero, i.size, i.bytes)) = some (some (.agg #[.string ⟨#[]⟩, .int .i64 0, .int .i64 0, .int .i64 0]), 4, 40) := by kernel_rfl
abbrev QRow (w : World) (v : Value) (l : List Sf.Rq) : Prop := RowK encQ 4 w v l
theorem QRow.at4 {w : World} {p : Option Addr} {n c : Nat} {l : List Sf.Rq} (h : QRow w (.slice p n c) l) {i : Nat} {x : Sf.Rq} (hx : l[i]? = some x) :
    ∃ b off, p = some ⟨b, off, none⟩ ∧ w.cell? ⟨b, off + i * 4, none⟩ = some (.string ⟨x.1.toArray⟩) ∧ w.cell? ⟨b, off + i * 4 + 1, none⟩ = some (.int .i64 x.2.1) ∧ w.cell? ⟨b, off + i * 4 + 2, none⟩ = some (.int .i64 x.2.2.1) ∧ w.cell? ⟨b, off + i * 4 + 3, none⟩ = some (.int .i64 x.2.2.2) := by
  obtain ⟨b, off, h1, h2⟩ := RowK.at_ h hx
  exact ⟨b, off, h1, h2 0 (by omega), h2 1 (by omega), h2 2 (by omega), h2 3 (by omega)⟩
abbrev OwnQ (w : World) (base : Nat) (v : Value) (l : List Sf.Rq) : Prop := OwnK encQ 55 4 w base v l
theorem OwnQ.lo2 {w w' : World} {base : Nat} {v : Value} {l : List Sf.Rq} (h : OwnQ w base v l) (hl : Lo w w') : OwnQ w' base v l := OwnK.lo h hl
def rqs (s : List UInt8) (n : Nat) : List Sf.Rq := (List.range n).map (Sf.rq s)
theorem rqs_len (s : List UInt8) (n : Nat) : (rqs s n).length = n := by simp [rqs]
theorem rqs_snoc (s : List UInt8) (n : Nat) : rqs s (n + 1) = rqs s n ++ [Sf.rq s n] := by simp [rqs, List.range_succ]
theorem rqs_at (s : List UInt8) {n i : Nat} (h : i < n) : (rqs s n)[i]? = some (Sf.rq s i) := by simp [rqs, h]

set_option maxRecDepth 100000 in
set_option maxHeartbeats 2000000 in
theorem records_any (s : List UInt8) (n : Nat) (w : World) (hn : Hid (Sf.num s 4 2 = n)) (hn64 : n ≤ 64) (h : 12 + 16 * n ≤ s.length) (hl : s.length ≤ 16777216) :
    Calls Tryz.prog 20 #[.string ⟨s.toArray⟩] w fun e w' => ∃ p c, e = .returned (.slice p n c) ∧ QRow w' (.slice p n c) (rqs s n) ∧ Lo w w' := by
  have HC := Lib.hid (rnumber_any s 4 2 w (by omega) (by omega) hl)
  rw [hn.out] at HC
  have HNum := Lib.hid (fun pos W (hp : pos + 4 ≤ s.length) => rnumber_any s pos 4 W hp (by omega) hl)
  have HSn := Lib.hid (rqs_snoc s)
  have HLen := Lib.hid (rqs_len s)
  go_enter Tryz.func20, Tryz.ntmps20
  go_wp2_with fail
  refine HC.out.mono ?_
  rintro e w1 ⟨rfl, rfl⟩
  go_wp2_with fail
  go_loopw [3, 5, 6] (fun u i _ W => ∃ (k : Nat) (p : Option Addr) (c : Nat), k ≤ n ∧ i = .int .i64 k ∧ u = .slice p k c ∧ Hid (OwnQ W w.heap.size (.slice p k c) (rqs s k)) ∧ Hid (Lo w W)) (fun _ i _ _ => n - (intOf i).toNat)
  case atStart => exact ⟨0, none, 0, Nat.zero_le _, rfl, rfl, Lib.hid (OwnK.none _ _ _ _ _), Lib.hid (Lo.refl _)⟩
  case round =>
    obtain ⟨k, p, c, hk, rfl, rfl, HO, HL⟩ := hrel
    by_cases hlt : k < n
    · obtain ⟨x, hx⟩ : ∃ x : Nat, x = 12 + 16 * k := ⟨_, rfl⟩
      have hxs : x + 16 ≤ s.length := by omega
      have hx1 : (12 : Int) + 16 * (k : Int) = (x : Int) := by omega
      have e1 : (⟨s.toArray⟩ : ByteArray).extract x (x + 4) = ⟨((s.drop x).take 4).toArray⟩ := by rw [Gk.extract_list, Nat.add_sub_cancel_left]
      have HQ : Hid (Sf.rq s k = ((s.drop x).take 4, Sf.num s (x + 4) 4, Sf.num s (x + 8) 4, Sf.num s (x + 12) 4)) := Lib.hid (by
        rw [hx]; unfold Sf.rq Sf.recTag Sf.recSum Sf.recAt Sf.recLen
        rw [show 12 + 16 * k + 4 = 16 + 16 * k by omega, show 12 + 16 * k + 8 = 20 + 16 * k by omega, show 12 + 16 * k + 12 = 24 + 16 * k by omega])
      have C1 := Lib.hid (fun W => HNum.out (x + 4) W (by omega))
      have C2 := Lib.hid (fun W => HNum.out (x + 8) W (by omega))
      have C3 := Lib.hid (fun W => HNum.out (x + 12) W (by omega))
      rw [show ((x + 4 : Nat) : Int) = (x : Int) + 4 by omega, show ((4 : Nat) : Int) = 4 from rfl] at C1
      rw [show ((x + 8 : Nat) : Int) = (x : Int) + 8 by omega, show ((4 : Nat) : Int) = 4 from rfl] at C2
      rw [show ((x + 12 : Nat) : Int) = (x : Int) + 12 by omega, show ((4 : Nat) : Int) = 4 from rfl] at C3
      clear hx
      have HSk := Lib.hid (HSn.out k)
      rw [HQ.out] at HSk
      generalize (s.drop x).take 4 = t1 at *
      generalize Sf.num s (x + 4) 4 = z1 at *
      generalize Sf.num s (x + 8) 4 = z2 at *
      generalize Sf.num s (x + 12) 4 = z3 at *
      clear HQ
      have HTL := Lib.hid (HLen.out k)
      have a0 : (0 : Int) ≤ (x : Int) := by omega
      have a1 : IntKind.i64.wrap ((x : Int) + 4) = (x : Int) + 4 := IntWalk.i64_in _ (by omega)
      have a2 : IntKind.i64.wrap ((x : Int) + 8) = (x : Int) + 8 := IntWalk.i64_in _ (by omega)
      have a3 : IntKind.i64.wrap ((x : Int) + 12) = (x : Int) + 12 := IntWalk.i64_in _ (by omega)
      have a4 : (0 : Int) ≤ (x : Int) + 4 := by omega
      have a5 : (x : Int) ≤ (x : Int) + 4 := by omega
      have a6 : (x : Int) + 4 ≤ (s.length : Int) := by omega
      have a7 : ((x : Int) + 4).toNat = x + 4 := by omega
      go_wp2_with fail
      go_region_held3 (fun W => Hid (Lo w W)) (first | assumption | exact Lib.hid HL.out.drew | exact Lib.hid (Lo.alloc (Hid.out (by assumption)) _))
        (first
          | (go_at_call 19; (with_reducible refine (C1.out _).mono ?_); rintro e w2 ⟨rfl, rfl⟩)
          | (go_at_call 19; (with_reducible refine (C2.out _).mono ?_); rintro e w2 ⟨rfl, rfl⟩)
          | (go_at_call 19; (with_reducible refine (C3.out _).mono ?_); rintro e w2 ⟨rfl, rfl⟩)
          | (refine step_appK (enc := encQ) rfl (.tmp 17) (.tmp 36) 51 rfl 55 4 40 _ Tryz.underlying51 rq_info rfl (by omega) (by omega) encQ_len encQ_one w.heap.size (.slice p k c) _ rfl (OwnQ.lo2 HO.out (((Lo.refl _).drew).alloc _)) _ (t1, z1, z2, z3) rfl (fun j u hj => block_cell (new_block _ _) (by simpa [encQ] using hj)) (by rw [HTL.out]; omega) (by have := HL.out.size; simp; omega) ?_; intro q1 c1 w3 hown hlo; have HO3 := Lib.hid hown; have HL3 := Lib.hid (hlo w (((HL.out).drew).alloc _) (Nat.le_refl _)); clear hown hlo; rw [HTL.out] at HO3; rw [HTL.out]))
      all_goals
        clear e1 a1 a2 a3 a4 a5 a6 a7 C1 C2 C3 hx1
        go_wp2_with fail
        go_roundw
        case rel => exact ⟨k + 1, q1, c1, by omega, by go_num, rfl, Lib.hid (by rw [HSk.out]; exact HO3.out), HL3⟩
        case measure => simp [intOf]; omega
    · obtain rfl : k = n := by omega
      go_wp2_with fail
      go_ret
      exact ⟨p, c, rfl, OwnK.row encQ_len HO.out, HL.out⟩
end Go.Proofs.YtchhjfocanjniaaGreat

/-
  The walk of the law HmtxBack: it returns true for all metrics and texts. No conditions.
-/
import Derived.Test.YtchhjfocanjniaaHmWide
namespace Go.Proofs.Ytchhjfocanjniaa
open Go.RowKit

set_option maxRecDepth 100000 in
set_option maxHeartbeats 800000 in
theorem hmtxBack_long (v : Value) (l : List Hm.Metric) (a : ByteArray) (w : World) (hr : MRow w v l) (h : ¬ (l.length ≤ 700 ∧ a.size ≤ 1000)) :
    Calls Try.prog 4 #[v, .string a] w fun e w' => e = .returned (.bool true) ∧ Lo w w' := by
  obtain ⟨p, c, rfl, hlen⟩ := RowK.form hr
  generalize l.length = n at *
  clear hr
  by_cases h1 : n ≤ 700
  · have h2 : ¬ a.size ≤ 1000 := fun h2 => h ⟨h1, h2⟩
    clear h
    go_enter Try.func4, Try.ntmps4
    go_wp2_with fail
    go_ret
    exact ⟨rfl, Lo.refl _⟩
  · clear h
    go_enter Try.func4, Try.ntmps4
    go_wp2_with fail
    go_ret
    exact ⟨rfl, Lo.refl _⟩

set_option maxRecDepth 100000 in
set_option maxHeartbeats 800000 in
theorem hmtxBack_none (v : Value) (l : List Hm.Metric) (a : ByteArray) (w : World) (hr : MRow w v l) (h1 : l.length ≤ 700) (h2 : a.size ≤ 1000) (hn : (Hm.put l).2.2 ≠ 0) :
    Calls Try.prog 4 #[v, .string a] w fun e w' => e = .returned (.bool true) ∧ Lo w w' := by
  have HP := Lib.hid (fun W (h : MRow W v l) => hput_any v l W h (by omega))
  unfold strNumErr at HP
  obtain ⟨e1, e2⟩ := Hm.put_refused hn
  rw [e1, e2] at HP
  obtain ⟨p, c, rfl, hlen⟩ := RowK.form hr
  have HR := Lib.hid hr
  generalize (Hm.put l).2.2 = er at *
  have hb : (er != 0) = true := by simpa using hn
  clear hn e1 e2 hr
  generalize l.length = n at *
  go_enter Try.func4, Try.ntmps4
  go_wp2_with fail
  refine (HP.out _ HR.out).mono ?_
  rintro e w1 ⟨rfl, lo⟩
  have HL := Lib.hid lo
  clear lo HP HR
  go_wp2_with fail
  refine (wide_any _).mono ?_
  rintro e w2 ⟨rfl, lo⟩
  have HL2 := Lib.hid (HL.out.trans lo)
  clear lo HL
  go_wp2_with fail
  go_ret
  exact ⟨rfl, HL2.out⟩

/-- A region that draws its order, whose operations leave a world of a class: one walk, in the order of the text. -/
theorem wp_region_class {P : Program} {C : World → Prop} {id : Nat} {Q : Exit → Act → World → Prop} {a : Act} {w : World} {l : List Oper} (hm : P.follows .mixedOrders = true) (hB : Region.lexB .any l.toArray = true) (hC : C w.drew)
    (h : wpQuiet P l.toArray C (fun a' => ∀ w', C w' → Q .normal a' w') l a) : (Code.region id l.toArray true).wp P Q a w :=
  wp_region_quiet (C := C) hm hB hC (by simpa using h)

abbrev PairAt (b o1 o2 : Nat) (a1 a2 : Int) (w0 W : World) : Prop := W.cell? ⟨b, o1, none⟩ = some (.int .i64 a1) ∧ W.cell? ⟨b, o2, none⟩ = some (.int .i64 a2) ∧ Hid (Lo w0 W)

set_option maxRecDepth 100000 in
set_option maxHeartbeats 2000000 in
theorem hmtxBack_some (v : Value) (l : List Hm.Metric) (m : List UInt8) (w : World) (hr : MRow w v l) (h1 : l.length ≤ 700) (h2 : m.length ≤ 1000) (hn : (Hm.put l).2.2 = 0) :
    Calls Try.prog 4 #[v, .string ⟨m.toArray⟩] w fun e w' => e = .returned (.bool true) ∧ Lo w w' := by
  have HP := Lib.hid (fun W (h : MRow W v l) => hput_any v l W h (by omega))
  unfold strNumErr at HP
  obtain ⟨g1, g2, g3, g4, g5⟩ := Hm.get_put hn m
  have HG := Lib.hid (fun W => hget_any ((Hm.put l).1 ++ m) l.length (Hm.put l).2.1 W (by rw [List.length_append]; omega))
  unfold GotMet at HG
  rw [g1] at HG
  rw [hn] at HP
  dsimp only at HG HP
  have HSm := Lib.hid (fun (v u : Value) (W : World) (h : MRow W v l) (h2 : MRow W u l) => msame_any l v u W h h2)
  obtain ⟨p, c, rfl, hlen⟩ := RowK.form hr
  have HR := Lib.hid hr
  have HA : Hid (∀ i, i < l.length → l[i]? = some (Hm.at0 l i)) := Lib.hid (fun i hi => at0_some hi)
  have HG5 := Lib.hid g5
  have HG4 := Lib.hid g4
  have hcat := Gk.cat_list (Hm.put l).1 m
  generalize (Hm.put l).1 = s at *
  generalize (Hm.put l).2.1 = k at *
  have HN : Hid (∀ n, l.length = n → l.length = n) := Lib.hid (fun _ h => h)
  generalize hnn : l.length = n at *
  have hsl : s.length = 2 * k + 2 * n := HG4.out
  have hbne : (s.length : Int) = 2 * (k : Int) + 2 * (n : Int) := by omega
  have hadd : s.length + m.length ≤ 100000 := by omega
  clear hr hn g1 g4 g5 hsl
  go_enter Try.func4, Try.ntmps4
  go_wp2_with fail
  refine (HP.out _ HR.out).mono ?_
  rintro e w1 ⟨rfl, lo⟩
  have HL := Lib.hid lo
  have HR1 := Lib.hid (RowK.lo HR.out lo)
  clear lo HP HR
  go_wp2_with fail
  refine (HG.out _).mono ?_
  rintro e w2 ⟨p2, c2, rfl, hrow, lo⟩
  have HL2 := Lib.hid (HL.out.trans lo)
  have HR2 := Lib.hid (RowK.lo HR1.out lo)
  have HM2 := Lib.hid hrow
  clear lo HL HR1 hrow HG
  go_wp2_with fail
  refine (HSm.out _ _ _ HR2.out HM2.out).mono ?_
  rintro e w3 ⟨rfl, lo⟩
  have HL3 := Lib.hid (HL2.out.trans lo)
  have HR3 := Lib.hid (RowK.lo HR2.out lo)
  clear lo HL2 HR2 HM2 HSm hcat
  have HNN := Lib.hid hnn
  clear hnn
  by_cases hk2 : k < 2
  · obtain rfl : k = 1 := by omega
    have hbne2 : (s.length : Int) = 2 + 2 * (n : Int) := by omega
    clear hbne HG5 HG4
    rw [show ((1 : Nat) : Int) = 1 from rfl]
    have CW : Hid (∀ W, Lo w3 W → Calls Try.prog 12 #[] W fun e w' => e = .returned (.bool true) ∧ Lo w3 w') := Lib.hid (fun W hW => (wide_any W).mono fun _ _ ⟨h1, h2⟩ => ⟨h1, hW.trans h2⟩)
    go_wp2_with fail
    refine wp_region_class (C := fun W => Lo w3 W) (by kernel_rfl) (by kernel_rfl) ((Lo.refl w3).drew) ?_
    repeat (go_big_quiet_step (first | (intro hW; exact CW.out _ hW) | (intro _; rfl)))
    refine wpQuiet_nil ?_
    intro w4 H4
    have HL4 := Lib.hid (HL3.out.trans H4)
    clear CW H4
    go_wp2_with fail
    go_ret
    exact ⟨rfl, HL4.out⟩
  · have HNE : Hid ((Hm.at0 l (k - 2)).1 ≠ (Hm.at0 l (k - 1)).1) := Lib.hid (by rcases HG5.out with h | h; exact absurd h hk2; exact h)
    obtain ⟨b, off, rfl, c1, _⟩ := MRow.at2 HR3.out (HA.out (k - 2) (by omega))
    obtain ⟨b', off', he, c2', _⟩ := MRow.at2 HR3.out (HA.out (k - 1) (by omega))
    simp only [Option.some.injEq, Addr.mk.injEq, and_true] at he
    obtain ⟨rfl, rfl⟩ := he
    generalize (Hm.at0 l (k - 2)).1 = a1 at *
    generalize (Hm.at0 l (k - 1)).1 = a2 at *
    have hb := World.block_lt_of_cell? w3 _ c1
    have CS : Hid (∀ W, Lo w3 W → PairAt b (off + (k - 2) * 2) (off + (k - 1) * 2) a1 a2 w3 W) := Lib.hid (fun W lo => ⟨(lo.cell hb).trans c1, (lo.cell hb).trans c2', Lib.hid lo⟩)
    have CW : Hid (∀ W, PairAt b (off + (k - 2) * 2) (off + (k - 1) * 2) a1 a2 w3 W → Calls Try.prog 12 #[] W fun e w' => e = .returned (.bool true) ∧ PairAt b (off + (k - 2) * 2) (off + (k - 1) * 2) a1 a2 w3 w') := Lib.hid (fun W hW => (wide_any W).mono fun _ _ ⟨h1, h2⟩ => ⟨h1, CS.out _ (hW.2.2.out.trans h2)⟩)
    have j0 : decide ((k : Int) < 2) = false := by simp; omega
    have j1 : IntKind.i64.wrap ((k : Int) - 2) = (k : Int) - 2 := IntWalk.i64_in _ (by omega)
    have j2 : IntKind.i64.wrap ((k : Int) - 1) = (k : Int) - 1 := IntWalk.i64_in _ (by omega)
    have j3 : (0 : Int) ≤ (k : Int) - 2 := by omega
    have j3' : (2 : Int) ≤ (k : Int) := by omega
    have j4 : (0 : Int) ≤ (k : Int) - 1 := by omega
    have j4' : (1 : Int) ≤ (k : Int) := by omega
    have j5 : (k : Int) - 2 < (n : Int) := by omega
    have j6 : (k : Int) - 1 < (n : Int) := by omega
    have j7 : ((k : Int) - 2).toNat = k - 2 := by omega
    have j8 : ((k : Int) - 1).toNat = k - 1 := by omega
    have j9 : (a1 != a2) = true := by simpa using HNE.out
    clear c1 c2' hb
    go_wp2_with fail
    go_region_held3 (fun W => PairAt b (off + (k - 2) * 2) (off + (k - 1) * 2) a1 a2 w3 W) (first | assumption | exact CS.out _ ((Lo.refl _).drew))
      (first | (go_at_call 12; refine (CW.out _ (by assumption)).mono ?_; rintro e w4 ⟨rfl, H4⟩))
    all_goals
      have HL4 := Lib.hid (HL3.out.trans H4.2.2.out)
      clear CW CS j1 j2 j7 j8
      go_wp2_with fail
      go_ret
      exact ⟨rfl, HL4.out⟩

theorem hmtxBack_walk (v : Value) (l : List Hm.Metric) (a : ByteArray) (w : World) (hr : MRow w v l) (_wa : a.size ≤ maxLen) :
    Calls Try.prog 4 #[v, .string a] w fun e w' => e = .returned (.bool true) ∧ Below w.heap.size w w' := by
  by_cases h : l.length ≤ 700 ∧ a.size ≤ 1000
  · by_cases hn : (Hm.put l).2.2 = 0
    · exact hmtxBack_some v l a.data.toList w hr h.1 h.2 hn
    · exact hmtxBack_none v l a w hr h.1 h.2 hn
  · exact hmtxBack_long v l a w hr h
end Go.Proofs.Ytchhjfocanjniaa

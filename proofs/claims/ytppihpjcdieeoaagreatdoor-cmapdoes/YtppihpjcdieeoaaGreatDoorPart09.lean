/-
  Facts that the walks rest on: GrGroups, GrDivide. No conditions beyond those stated.
-/
import Derived.Test.YtppihpjcdieeoaaGreatDoorPart08
/-
  The contract of group.groups: an iterator over the groups of a subtable, as spans. No conditions beyond those stated.
-/
namespace Go.Proofs.YtppihpjcdieeoaaGreatDoor
open Go.RowKit Go.Shelf
attribute [local go_sem] Oper.semAt_some wide_fn wide_depth

set_option maxHeartbeats 1000000 in
theorem groups_make (m : Nat) (s : List UInt8) (step n : Int) (w : World) :
    CallsIn Fence.wide m Tryz.prog 99 #[.string ⟨s.toArray⟩, .int .i64 step, .int .i64 n] w fun e w' => e = .returned (.func (.func 133) #[] #[.pointer (some ⟨w.heap.size + 2, 0, none⟩), .pointer (some ⟨w.heap.size, 0, none⟩), .pointer (some ⟨w.heap.size + 1, 0, none⟩)]) ∧
      w' = ((w.alloc (.cells #[.string ⟨s.toArray⟩] 9)).alloc (.cells #[.int .i64 step] 3)).alloc (.cells #[.int .i64 n] 3) := by
  refine callsIn_of_wp Tryz.func99 rfl trivial ?_ rfl
  simp only [Tryz.ntmps99, List.size_toArray, List.length_cons, List.length_nil, Nat.reduceAdd, Nat.reduceSub, Array.replicate_succ, Array.replicate_zero, List.push_toArray, List.append_toArray, List.nil_append, List.cons_append]
  gi_wp2
  go_ret
  exact ⟨rfl, rfl⟩

theorem Row.three3 {w : World} {p : Option Addr} {c : Nat} {x0 x1 x2 : Int} (h : Row w (.slice p 3 c) [x0, x1, x2]) :
    ∃ b off, p = some ⟨b, off, none⟩ ∧ w.cell? ⟨b, off, none⟩ = some (.int .i64 x0) ∧ w.cell? ⟨b, off + 1, none⟩ = some (.int .i64 x1) ∧ w.cell? ⟨b, off + 2, none⟩ = some (.int .i64 x2) := by
  obtain ⟨b, off, rfl, h0⟩ := h.at_ (k := 0) (by omega)
  obtain ⟨b1, off1, e1, h1⟩ := h.at_ (k := 1) (by omega)
  obtain ⟨b3, off3, e3, h3⟩ := h.at_ (k := 2) (by omega)
  simp only [Option.some.injEq, Addr.mk.injEq, and_true] at e1 e3
  obtain ⟨rfl, rfl⟩ := e1
  obtain ⟨rfl, rfl⟩ := e3
  exact ⟨b, off, rfl, h0, h1, h3⟩

/-- The groups, so many. -/
def come (s : List UInt8) (k : Nat) : List Ch.Span := (List.range k).map (Gp.row s)
theorem come_succ (s : List UInt8) (k : Nat) : come s (k + 1) = come s k ++ [Gp.row s k] := Gp.rows_step s k

/-- What only makes new blocks keeps all. -/
theorem KpS.lo {n₀ n₁ B : Nat} {W W' : World} (h : Lo W W') (hn : n₀ ≤ W.heap.size) : KpS n₀ n₁ B W W' := by
  have hc : Good B W → ∀ b, Owned B W' b → Owned B W b := fun g b hb => by
    unfold Owned at *
    rwa [Below.cell h (p := ⟨B, 0, none⟩) g.lt] at hb
  exact ⟨h.mono hn, fun g => ⟨Nat.lt_of_lt_of_le g.lt h.size, fun b hb => Nat.lt_of_lt_of_le (g.own b (hc g b hb)) h.size⟩, fun g b hb => .inl (hc g b hb),
    fun _ b o hb _ _ _ => (h.block b (Array.getElem?_eq_some_iff.1 hb).1).trans hb⟩

set_option maxRecDepth 100000 in
set_option maxHeartbeats 3200000 in
theorem groups_in (m l n₀ n₁ B : Nat) (s : List UInt8) (N : Nat) (hN : N ≤ 65536) (hsl : 16 + 12 * N ≤ s.length) (hs9 : s.length ≤ 9223372036854775807) (J Jx : List Ch.Span → World → Prop)
    (hY : ∀ (m : Nat) pre x W, J pre W → pre.length < N → YieldAt Fence.wide m Tryz.prog l #[aggS x] W fun e W' => (e = .returned (.bool true) ∧ J (pre ++ [x]) W' ∧ KpS n₀ n₁ B W W') ∨ (e = .returned (.bool false) ∧ Jx (pre ++ [x]) W'))
    (hA : ∀ pre A B, J pre A → A.grownBy B none → J pre B) (B1 B2 B3 : Nat) (W : World) (h1 : Boxed W B1 3 (.int .i64 (N : Int))) (h2 : Boxed W B2 9 (.string ⟨s.toArray⟩)) (h3 : Boxed W B3 3 (.int .i64 (13 - He.fld s 0 2)))
    (hb2 : n₁ ≤ B2) (hb3 : n₁ ≤ B3) (ho2 : ¬ Owned B W B2) (ho3 : ¬ Owned B W B3) (hg : Good B W) (hn : n₀ ≤ W.heap.size) (h0 : J [] W) :
    CallsIn Fence.wide m Tryz.prog 133 #[.func (.yield l) #[] #[], .pointer (some ⟨B1, 0, none⟩), .pointer (some ⟨B2, 0, none⟩), .pointer (some ⟨B3, 0, none⟩)] W fun e W' => (∃ v, e = .returned v) ∧
      ((∃ ys, ys = come s N ∧ J ys W') ∨ (∃ pre, (∃ k, k ≤ N ∧ pre = come s k) ∧ Jx pre W')) := by
  have c1 := h1.cell
  have H2 := Lib.hid (fun W' (h : KpS n₀ n₁ B W W') => h.keep hg h2 rfl hb2 ho2)
  have H3 := Lib.hid (fun W' (h : KpS n₀ n₁ B W W') => h.keep hg h3 rfl hb3 ho3)
  have c2 := h2.cell
  clear h1 h2 h3 ho2 ho3 hg
  refine callsIn_of_wp Tryz.func133 rfl trivial ?_ rfl
  simp only [Tryz.ntmps133, List.size_toArray, List.length_cons, List.length_nil, Nat.reduceAdd, Nat.reduceSub, Array.replicate_succ, Array.replicate_zero, List.push_toArray, List.append_toArray, List.nil_append, List.cons_append]
  gi_wp2
  clear c1
  gi_loopw [9] (fun i wr => ∃ k : Nat, k ≤ N ∧ i = .int .i64 (k : Int) ∧ Hid (J (come s k) wr) ∧ Hid (KpS n₀ n₁ B W wr))
    (fun i _ => (N - (intOf i).toNat))
  case atStart => exact ⟨0, Nat.zero_le _, rfl, Lib.hid h0, Lib.hid (KpS.refl _ _ _ _)⟩
  case round =>
    obtain ⟨k, hk, rfl, HJ, HX⟩ := hrel
    by_cases hlt : k < N
    · have hlk : (come s k).length < N := by simp [come]; omega
      have hbh2 := (H2.out _ HX.out).1
      have hbh3 := (H3.out _ HX.out).1
      have hbx2 : wr.cell? ⟨B2, 0, none⟩ = some (.string ⟨s.toArray⟩) := block_cell hbh2 rfl
      have hlw : B2 < wr.heap.size := (Array.getElem?_eq_some_iff.1 hbh2).1
      clear hbh2
      have HLn := Lib.hid (fun W => glength_any (k : Int) W (by omega) (by omega))
      have HU : Hid (come s (k + 1) = come s k ++ [Gp.row s k]) := Lib.hid (come_succ s k)
      have HG := Lib.hid (fun (W : World) (v : Value) (hr : Row W v [4, 4, 4]) => get_any s (16 + 12 * (k : Int)) v _ W hr (by simp) hs9 (by omega))
      have hbg := Gp.bget_three s (16 + 12 * k)
      rw [if_neg (by omega), show ((16 + 12 * k : Nat) : Int) = 16 + 12 * (k : Int) by omega, show 16 + 12 * k + 4 = 20 + 12 * k by omega, show 16 + 12 * k + 8 = 24 + 12 * k by omega] at hbg
      rw [hbg] at HG
      clear hbg
      unfold GotRow at HG
      simp only [List.length_cons, List.length_nil, Nat.zero_add, Nat.reduceAdd] at HG
      have hRow : Gp.row s k = ⟨He.fld s (16 + 12 * k) 4, He.fld s (20 + 12 * k) 4, He.fld s (24 + 12 * k) 4, 13 - He.fld s 0 2⟩ := rfl
      rw [hRow] at HU
      have HY := Lib.hid (fun W (h : J (come s k) W) => hY (m - 1) (come s k) ⟨He.fld s (16 + 12 * k) 4, He.fld s (20 + 12 * k) 4, He.fld s (24 + 12 * k) 4, 13 - He.fld s 0 2⟩ W h hlk)
      have HB3 : Hid (∀ W', Lo wr W' → W'.cell? ⟨B3, 0, none⟩ = some (.int .i64 (13 - He.fld s 0 2))) := Lib.hid (fun W' h => block_cell ((h.block B3 (Array.getElem?_eq_some_iff.1 hbh3).1).trans hbh3) rfl)
      have HJA : Hid (∀ W', Lo wr W' → J (come s k) W') := Lib.hid (fun W' h => hA _ _ _ HJ.out ⟨h.os, h.tape, h.output, h.size, fun j hj _ => h.block j hj⟩)
      clear hRow
      dsimp only [aggS] at HY
      generalize He.fld s (16 + 12 * k) 4 = x0 at *
      generalize He.fld s (20 + 12 * k) 4 = x1 at *
      generalize He.fld s (24 + 12 * k) 4 = x2 at *
      generalize 13 - He.fld s 0 2 = x3 at *
      have HR : Hid (Row ((wr.alloc (.cells #[.int .i64 4, .int .i64 4, .int .i64 4] 3)).drew) (.slice (some ⟨wr.heap.size, 0, none⟩) 3 3) [4, 4, 4]) := Lib.hid (Row.lo (row3 wr _ rfl 4 4 4) ((Lo.refl _).drew))
      have HLw : Hid (Lo wr ((wr.alloc (.cells #[.int .i64 4, .int .i64 4, .int .i64 4] 3)).drew)) := Lib.hid (((Lo.refl wr).alloc _).drew)
      clear hbh3
      have hmix : Tryz.prog.follows .mixedOrders = true := by kernel_rfl
      gi_wp2
      refine Go.wpIn_mono (Q := fun e a W' => match e with | .normal => ∃ p2 cp2, a = { tmps := #[.func (.yield l) #[] #[], .pointer (some ⟨B1, 0, none⟩), .pointer (some ⟨B2, 0, none⟩), .pointer (some ⟨B3, 0, none⟩), undef, .int .i64 (k : Int), .slice p2 3 cp2, .int .i64 0, .int .i64 (N : Int), .int .i64 (k : Int), .bool true, .int .i64 (k : Int),
        .tuple #[.slice p2 3 cp2, .int .i64 0], .string ⟨s.toArray⟩, .int .i64 (k : Int), .int .i64 (16 + 12 * (k : Int)), .slice (some ⟨wr.heap.size, 0, none⟩) 3 3, .tuple #[.slice p2 3 cp2, .int .i64 0], .slice p2 3 cp2, .int .i64 0, u20, u21, u22, u23, u24, u25, u26, u27, u28, u29, u30, u31, u32, u33, u34], defers := [] } ∧ Hid (Row W' (.slice p2 3 cp2) [x0, x1, x2]) ∧ Hid (Lo wr W') | _ => False) (wpIn_wide.2 ?reg) ?rest
      case reg =>
        clear HY HJA HB3 HX HJ HU
        go_region_with (first
          | (go_at_call 132; refine (HLn.out _).mono ?_; rintro e w' ⟨rfl, rfl⟩)
          | (go_at_call 33; refine (HG.out _ _ HR.out).mono ?_; rintro e w' ⟨p2, cp2, rfl, hrow, lo⟩))
        all_goals exact ⟨_, _, rfl, Lib.hid hrow, Lib.hid (Lo.trans HLw.out lo)⟩
      case rest =>
        intro e a' W3 hq
        cases e <;> first | exact hq.elim | skip
        obtain ⟨p2, cp2, rfl, hrow, hlo⟩ := hq
        obtain ⟨b, off, rfl, d0, d1, d2⟩ := Row.three3 hrow.out
        have d3 := HB3.out _ hlo.out
        have hlo2 := Lib.hid (hlo.out.drew)
        obtain ⟨fn, tmps, assign, body, hy, hR⟩ := HY.out _ (HJA.out _ hlo2.out)
        have HR2 := Lib.hid (hR.mono (R' := fun e W' => ∃ b, e = .returned (.bool b) ∧ ((b = true ∧ J (come s (k + 1)) W' ∧ KpS n₀ n₁ B W3.drew W') ∨ (b = false ∧ Jx (come s (k + 1)) W'))) (fun e W' h => by
          rw [HU.out]
          rcases h with ⟨rfl, h1, h2⟩ | ⟨rfl, h1⟩
          · exact ⟨true, rfl, .inl ⟨rfl, h1, h2⟩⟩
          · exact ⟨false, rfl, .inr ⟨rfl, h1⟩⟩))
        clear HG HR HLw HLn hlw hbx2 hR HU
        gi_wp2
        refine Go.wpIn_mono (Q := fun e a W' => match e with | .normal => ∃ b', a = { tmps := #[.func (.yield l) #[] #[], .pointer (some ⟨B1, 0, none⟩), .pointer (some ⟨B2, 0, none⟩), .pointer (some ⟨B3, 0, none⟩), undef, .int .i64 (k : Int), .slice (some ⟨b, off, none⟩) 3 cp2, .int .i64 0, .int .i64 (N : Int), .int .i64 (k : Int), .bool true, .int .i64 (k : Int),
          .tuple #[.slice (some ⟨b, off, none⟩) 3 cp2, .int .i64 0], .string ⟨s.toArray⟩, .int .i64 (k : Int), .int .i64 (16 + 12 * (k : Int)), .slice (some ⟨wr.heap.size, 0, none⟩) 3 3, .tuple #[.slice (some ⟨b, off, none⟩) 3 cp2, .int .i64 0], .slice (some ⟨b, off, none⟩) 3 cp2, .int .i64 0,
          .func (.yield l) #[] #[], .slice (some ⟨b, off, none⟩) 3 cp2, .pointer (some ⟨b, off, none⟩), .int .i64 x0, .slice (some ⟨b, off, none⟩) 3 cp2, .pointer (some ⟨b, off + 1, none⟩), .int .i64 x1, .slice (some ⟨b, off, none⟩) 3 cp2, .pointer (some ⟨b, off + 2, none⟩), .int .i64 x2, .int .i64 x3,
          .agg #[.int .i64 x0, .int .i64 x1, .int .i64 x2, .int .i64 x3], .bool b', .bool (!b'), u34], defers := [] } ∧ Hid ((b' = true ∧ J (come s (k + 1)) W' ∧ KpS n₀ n₁ B W3.drew W') ∨ (b' = false ∧ Jx (come s (k + 1)) W')) | _ => False) ?reg4 ?rest4
        case reg4 =>
          clear HJA HB3 HJ HY hrow hlo2
          gi_region_with_o (refine HR2.out.mono ?_; rintro e W5 ⟨b', rfl, hp⟩)
          all_goals exact ⟨_, rfl, Lib.hid hp⟩
        case rest4 =>
          intro e a' W4 hq
          cases e <;> first | exact hq.elim | skip
          obtain ⟨b', rfl, hp⟩ := hq
          clear hy HR2
          rcases hp.out with ⟨rfl, h1, h2⟩ | ⟨rfl, h1⟩
          · have HJ1 := Lib.hid h1
            have HX1 : Hid (KpS n₀ n₁ B W W4) := Lib.hid ((HX.out.trans (KpS.lo hlo.out.drew (Nat.le_trans hn HX.out.below.size))).trans h2)
            clear h1 h2 hp
            gi_wp2
            go_roundw
            case rel => exact ⟨k + 1, by omega, rfl, HJ1, HX1⟩
            case measure => simp [intOf]; omega
          · have HJ1 := Lib.hid h1
            clear h1 hp
            gi_wp2
            refine bodyPost_ret (results_none rfl _ _ _) rfl ?_
            exact ⟨⟨_, rfl⟩, .inr ⟨_, ⟨k + 1, by omega, rfl⟩, HJ1.out⟩⟩
    · obtain rfl : k = N := by omega
      gi_wp2
      go_end0
      exact ⟨⟨_, rfl⟩, .inl ⟨_, rfl, HJ.out⟩⟩
/-- The iterator's contract, as a loop takes it. -/
theorem groups_stops (n₀ n₁ B : Nat) (s : List UInt8) (N : Nat) (hN : N ≤ 65536) (hsl : 16 + 12 * N ≤ s.length) (hs9 : s.length ≤ 9223372036854775807) (B1 B2 B3 : Nat) (w : World) (hn : n₀ ≤ w.heap.size) (hB : Boxed w B 22 (.slice none 0 0))
    (h1 : Boxed w B1 3 (.int .i64 (N : Int))) (h2 : Boxed w B2 9 (.string ⟨s.toArray⟩)) (h3 : Boxed w B3 3 (.int .i64 (13 - He.fld s 0 2))) (hb2 : n₁ ≤ B2) (hb3 : n₁ ≤ B3) (m : Nat) :
    SeqStopsK Fence.wide m Tryz.prog 133 #[.pointer (some ⟨B1, 0, none⟩), .pointer (some ⟨B2, 0, none⟩), .pointer (some ⟨B3, 0, none⟩)] (fun x => #[aggS x]) (KpS n₀ n₁ B) (fun ys => ys = come s N) (fun pre => ∃ k, k ≤ N ∧ pre = come s k) N w := by
  intro l J Jx W hW hJ hJx hY h0
  have hno : ∀ b, ¬ Owned B W b := fun b hb => by
    obtain ⟨v, hv, hb⟩ := hb
    rw [hW.cell (p := ⟨B, 0, none⟩) hB.lt, hB.cell] at hv
    cases hv
    simp [Value.ownBlock] at hb
  have hk : ∀ {b : Nat} {o : Obj}, w.heap[b]? = some o → W.heap[b]? = some o := fun {b o} h => (hW.block b (Array.getElem?_eq_some_iff.1 h).1).trans h
  exact groups_in m l n₀ n₁ B s N hN hsl hs9 J Jx (fun m' pre x W1 h hl => YieldAt.anyDepth wide_depth m' (hY pre x W1 h hl)) (fun pre A B h hg => hJ pre A B none h hg (fun r e => by cases e)) B1 B2 B3 W (hk h1) (hk h2) (hk h3) hb2 hb3 (hno _) (hno _)
    ⟨Nat.lt_of_lt_of_le hB.lt hW.size, fun b hb => absurd hb (hno b)⟩ (Nat.le_trans hn hW.size) h0
end Go.Proofs.YtppihpjcdieeoaaGreatDoor
/-
  The contract of group.divide: a span is yielded as it is, or a span for each of its runes. No conditions beyond those stated.
-/
namespace Go.Proofs.YtppihpjcdieeoaaGreatDoor
open Go.RowKit Go.Shelf
attribute [local go_sem] Oper.semAt_some wide_fn wide_depth

/-- What a round does that is handed a span. -/
def Yields (n₀ n₁ B N l : Nat) (J Jx : List Ch.Span → World → Prop) : Prop := ∀ (m : Nat) pre y W1, J pre W1 → pre.length < N → YieldAt Fence.wide m Tryz.prog l #[aggS y] W1 fun e W' =>
  (e = .returned (.bool true) ∧ J (pre ++ [y]) W' ∧ KpS n₀ n₁ B W1 W') ∨ (e = .returned (.bool false) ∧ Jx (pre ++ [y]) W')
/-- What a callee that yields these spans does. -/
def Divided (n₀ n₁ B : Nat) (J Jx : List Ch.Span → World → Prop) (pre part : List Ch.Span) (W : World) (e : Ending) (W' : World) : Prop :=
  (e = .returned (.bool true) ∧ J (pre ++ part) W' ∧ KpS n₀ n₁ B W W') ∨ (e = .returned (.bool false) ∧ ∃ q, q <+: part ∧ Jx (pre ++ q) W')

set_option maxHeartbeats 1000000 in
theorem divide_none (m l n₀ n₁ B : Nat) (J Jx : List Ch.Span → World → Prop) (hA : ∀ pre W o, J pre W → J pre (W.alloc o)) (x : Ch.Span) (ho : Ch.okSpan x = true) (step : Int) (hs : x.st = step) (hu : Gp.used x = false)
    (pre : List Ch.Span) (W : World) (hn : n₀ ≤ W.heap.size) (h0 : J pre W) :
    CallsIn Fence.wide m Tryz.prog 152 #[aggS x, .int .i64 step, .func (.yield l) #[] #[]] W (Divided n₀ n₁ B J Jx pre [] W) := by
  have HU := Lib.hid hu
  obtain ⟨a1, a2, a3, a4, a5, a6, a7, a8⟩ := (Ch.okSpan_iff x).1 ho
  have HV := Lib.hid (fun w => gused_any x w a1 a2 a3 a4 a5 a6 a7)
  subst hs
  rw [hu] at HV
  clear hu ho a8
  obtain ⟨fr, tt, gl, st⟩ := x
  unfold aggS at *
  dsimp only at *
  refine callsIn_of_wp Tryz.func152 rfl trivial ?_ rfl
  simp only [Tryz.ntmps152, List.size_toArray, List.length_cons, List.length_nil, Nat.reduceAdd, Nat.reduceSub, Array.replicate_succ, Array.replicate_zero, List.push_toArray, List.append_toArray, List.nil_append, List.cons_append]
  gi_wp2_with (gi_at_call 154; refine (callsIn_wide.2 (HV.out _)).mono ?_; rintro e w' ⟨rfl, v, rfl⟩)
  refine bodyPost_ret (results_tmp rfl _ _ _) rfl ?_
  exact .inl ⟨rfl, by rw [List.append_nil]; exact hA _ _ _ (hA _ _ _ h0), (KpS.alloc hn _).trans (KpS.alloc (by simp; omega) _)⟩

set_option maxHeartbeats 1000000 in
theorem divide_one (m l n₀ n₁ B N : Nat) (J Jx : List Ch.Span → World → Prop) (hY : Yields n₀ n₁ B N l J Jx) (hA : ∀ pre W o, J pre W → J pre (W.alloc o)) (x : Ch.Span) (ho : Ch.okSpan x = true) (step : Int) (hs : x.st = step) (hu : Gp.used x = true)
    (pre : List Ch.Span) (hN : pre.length < N) (W : World) (hn : n₀ ≤ W.heap.size) (h0 : J pre W) :
    CallsIn Fence.wide m Tryz.prog 152 #[aggS x, .int .i64 step, .func (.yield l) #[] #[]] W (Divided n₀ n₁ B J Jx pre [x] W) := by
  obtain ⟨a1, a2, a3, a4, a5, a6, a7, a8⟩ := (Ch.okSpan_iff x).1 ho
  have HV := Lib.hid (fun w => gused_any x w a1 a2 a3 a4 a5 a6 a7)
  have HY := Lib.hid (fun m W1 (h : J pre W1) => hY m pre x W1 h hN)
  subst hs
  rw [hu] at HV
  clear hu ho a8
  obtain ⟨fr, tt, gl, st⟩ := x
  unfold aggS at *
  dsimp only at *
  have HD := Lib.hid (fun (W1 : World) (k : KpS n₀ n₁ B W W1) (e' : Ending) (W' : World)
    (h : (e' = .returned (.bool true) ∧ J (pre ++ [⟨fr, tt, gl, st⟩]) W' ∧ KpS n₀ n₁ B W1 W') ∨ (e' = .returned (.bool false) ∧ Jx (pre ++ [⟨fr, tt, gl, st⟩]) W')) =>
      (show ∃ b, e' = .returned (.bool b) ∧ Divided n₀ n₁ B J Jx pre [⟨fr, tt, gl, st⟩] W (.returned (.bool b)) W' from by
        rcases h with ⟨rfl, h1, h2⟩ | ⟨rfl, h1⟩
        · exact ⟨true, rfl, .inl ⟨rfl, h1, k.trans h2⟩⟩
        · exact ⟨false, rfl, .inr ⟨rfl, _, List.prefix_refl _, h1⟩⟩))
  refine callsIn_of_wp Tryz.func152 rfl trivial ?_ rfl
  simp only [Tryz.ntmps152, List.size_toArray, List.length_cons, List.length_nil, Nat.reduceAdd, Nat.reduceSub, Array.replicate_succ, Array.replicate_zero, List.push_toArray, List.append_toArray, List.nil_append, List.cons_append]
  gi_wp2_with (gi_at_call 154; refine (callsIn_wide.2 (HV.out _)).mono ?_; rintro e w' ⟨rfl, v, rfl⟩; obtain ⟨fn, tmps, assign, body, hy, hR⟩ := HY.out (m - 1) _ (hA _ _ (.cells v 63) (hA _ _ (.cells #[.int .i64 fr, .int .i64 tt, .int .i64 gl, .int .i64 st] 63) h0)))
  refine hR.mono ?_
  rintro e W3 h
  obtain ⟨b, rfl, hd⟩ := HD.out _ ((KpS.alloc hn _).trans (KpS.alloc (by simp; omega) _)) _ _ h
  have HE := Lib.hid hd
  clear hd h hR hy HD
  gi_wp2
  refine bodyPost_ret (results_tmp rfl _ _ _) rfl ?_
  exact HE.out

/-- A span's runes, one after another. -/
theorem cut_grow {step : Int} {x : Ch.Span} {k : Nat} (h : x.fr + k ≤ x.to) (h0 : ¬ x.gl + x.st * k = 0) : Gp.cutTo step x (k + 1) = Gp.cutTo step x k ++ [⟨x.fr + k, x.fr + k, x.gl + x.st * k, step⟩] := by
  rw [Gp.cut_step h, if_neg h0]
theorem cut_stay {step : Int} {x : Ch.Span} {k : Nat} (h : x.fr + k ≤ x.to) (h0 : x.gl + x.st * k = 0) : Gp.cutTo step x (k + 1) = Gp.cutTo step x k := by
  rw [Gp.cut_step h, if_pos h0, List.append_nil]
theorem cut_pre (step : Int) (x : Ch.Span) {k n : Nat} (h : k ≤ n) : Gp.cutTo step x k <+: Gp.cutTo step x n := by
  obtain ⟨m, rfl⟩ := Nat.exists_eq_add_of_le h
  unfold Gp.cutTo
  rw [Ch.spansOf_append, List.map_append]
  exact List.prefix_append _ _

set_option maxRecDepth 100000 in
set_option maxHeartbeats 3200000 in
theorem divide_many0 (m l n₀ n₁ B N : Nat) (J Jx : List Ch.Span → World → Prop) (hY : Yields n₀ n₁ B N l J Jx) (hA : ∀ pre W o, J pre W → J pre (W.alloc o)) (x : Ch.Span) (ho : Ch.okSpan x = true) (step : Int) (hst : x.st = 0) (hs : x.st ≠ step) (hs1 : step = 0 ∨ step = 1)
    (pre : List Ch.Span) (hN : pre.length + (Gp.cutTo step x (x.to - x.fr + 1).toNat).length ≤ N) (W : World) (hn : n₀ ≤ W.heap.size) (hn1 : n₁ ≤ W.heap.size) (hg : Good B W) (h0 : J pre W) :
    CallsIn Fence.wide m Tryz.prog 152 #[aggS x, .int .i64 step, .func (.yield l) #[] #[]] W (Divided n₀ n₁ B J Jx pre (Gp.cutTo step x (x.to - x.fr + 1).toNat) W) := by
  obtain ⟨a1, a2, a3, a4, a5, a6, a7, a8⟩ := (Ch.okSpan_iff x).1 ho
  have HO := Lib.hid ho
  have HS := Lib.hid hs
  obtain ⟨M, hM⟩ : ∃ M, (x.to - x.fr + 1).toNat = M := ⟨_, rfl⟩
  have hMi : x.to - x.fr + 1 = (M : Int) := by omega
  rw [hM] at hN ⊢
  obtain ⟨C, hC⟩ : ∃ C : Nat → List Ch.Span, C = Gp.cutTo step x := ⟨_, rfl⟩
  have HC0 : Hid (C 0 = []) := Lib.hid (by rw [hC]; rfl)
  have HCn : Hid (pre.length + (C M).length ≤ N) := Lib.hid (by rw [hC]; exact hN)
  have HCp : Hid (∀ k, k ≤ M → C k <+: C M) := Lib.hid (fun k h => by rw [hC]; exact cut_pre step x h)
  have HCg : Hid (∀ (k : Nat) (g : Int), k < M → g = x.gl + x.st * k → ¬ g = 0 → C (k + 1) = C k ++ [⟨x.fr + k, x.fr + k, g, step⟩] ∧ (pre ++ C k).length < N) := Lib.hid (fun k g h hg h1 => by
    have e : C (k + 1) = C k ++ [⟨x.fr + k, x.fr + k, g, step⟩] := by rw [hC, hg]; exact cut_grow (by omega) (by rw [← hg]; exact h1)
    refine ⟨e, ?_⟩
    have h2 := (HCp.out (k + 1) h).length_le
    rw [e, List.length_append] at h2
    simp only [List.length_cons, List.length_nil] at h2
    rw [List.length_append]
    have := HCn.out
    omega)
  have HCs : Hid (∀ (k : Nat) (g : Int), k < M → g = x.gl + x.st * k → g = 0 → C (k + 1) = C k) := Lib.hid (fun k g h hg h1 => by rw [hC]; exact cut_stay (by omega) (by rw [← hg]; exact h1))
  have HB : Hid (∀ k : Nat, k < M → 0 ≤ x.gl + x.st * k ∧ x.gl + x.st * k ≤ 65535) := Lib.hid (fun k h => by
    rcases (show x.st = 0 ∨ x.st = 1 by omega) with e | e
    · rw [e]; simp; omega
    · rw [e] at a8 ⊢; simp at a8 ⊢; omega)
  rw [← hC]
  clear hC ho hN hM
  obtain ⟨fr, tt, gl, st⟩ := x
  unfold aggS
  dsimp only at *
  subst hst
  have hq : ((0 : Int) == step) = false := by simpa using hs
  refine callsIn_of_wp Tryz.func152 rfl trivial ?_ rfl
  simp only [Tryz.ntmps152, List.size_toArray, List.length_cons, List.length_nil, Nat.reduceAdd, Nat.reduceSub, Array.replicate_succ, Array.replicate_zero, List.push_toArray, List.append_toArray, List.nil_append, List.cons_append]
  gi_wp2
  have hW1 : KpS n₀ n₁ B W (W.alloc (.cells #[.int .i64 fr, .int .i64 tt, .int .i64 gl, .int .i64 0] 63)) := KpS.alloc hn _
  have hg1 := hg.alloc (.cells #[.int .i64 fr, .int .i64 tt, .int .i64 gl, .int .i64 0] 63)
  have ho1 : ¬ Owned B (W.alloc (.cells #[.int .i64 fr, .int .i64 tt, .int .i64 gl, .int .i64 0] 63)) W.heap.size := hg.new _
  have hb1 : (W.alloc (.cells #[.int .i64 fr, .int .i64 tt, .int .i64 gl, .int .i64 0] 63)).heap[W.heap.size]? = some (.cells #[.int .i64 fr, .int .i64 tt, .int .i64 gl, .int .i64 0] 63) := new_block W _
  have hsz : n₀ ≤ (W.alloc (.cells #[.int .i64 fr, .int .i64 tt, .int .i64 gl, .int .i64 0] 63)).heap.size := by rw [World.size_alloc]; omega
  have hJ1 := hA _ _ (.cells #[.int .i64 fr, .int .i64 tt, .int .i64 gl, .int .i64 0] 63) h0
  obtain ⟨bx, hbx⟩ : ∃ bx, W.heap.size = bx := ⟨_, rfl⟩
  rw [hbx] at hn1 ho1 hb1 ⊢
  generalize (W.alloc (.cells #[.int .i64 fr, .int .i64 tt, .int .i64 gl, .int .i64 0] 63)) = W1 at *
  have HG := Lib.hid hg1
  have HO1 := Lib.hid ho1
  have HB1 := Lib.hid hb1
  have HJ1 := Lib.hid hJ1
  clear hg1 ho1 hb1 hJ1 hg h0
  gi_loopw [28] (fun i wr => ∃ k : Nat, k ≤ M ∧ i = .int .i64 (k : Int) ∧ Hid (J (pre ++ C k) wr) ∧ Hid (KpS n₀ n₁ B W1 wr))
    (fun i _ => (M - (intOf i).toNat))
  case atStart => exact ⟨0, Nat.zero_le _, rfl, Lib.hid (by rw [HC0.out, List.append_nil]; exact HJ1.out), Lib.hid (KpS.refl _ _ _ _)⟩
  case round =>
    obtain ⟨k, hk, rfl, HJ, HK⟩ := hrel
    have hbr := (HK.out.keep HG.out HB1.out rfl hn1 HO1.out).1
    have c0 := block_cell (i := 0) hbr rfl
    have c1 := block_cell (i := 1) hbr rfl
    have c2 := block_cell (i := 2) hbr rfl
    have c3 := block_cell (i := 3) hbr rfl
    by_cases hlt : k < M
    · have hg0 := HB.out k hlt
      have HL1 : Hid (M - (k + 1) < M - k) := Lib.hid (by omega)
      obtain ⟨b1, b2⟩ : fr + (k : Int) ≤ tt ∧ (k : Int) < M := ⟨by omega, by omega⟩
      have hsw : n₀ ≤ wr.heap.size := Nat.le_trans hsz HK.out.below.size
      have hgw := HK.out.good HG.out
      have hGk : gl = gl + 0 * (k : Int) := by simp
      rw [← hGk] at hg0
      obtain ⟨g0, g1⟩ := hg0
      have HV := Lib.hid (fun w => gused_any ⟨fr + (k : Int), fr + (k : Int), gl, step⟩ w (by dsimp only; omega) (by dsimp only; omega) (by dsimp only; omega) (by dsimp only; omega) (by dsimp only; omega) (by dsimp only; omega) (by dsimp only; omega))
      have HU : Gp.used ⟨fr + (k : Int), fr + (k : Int), gl, step⟩ = decide (0 < gl) := by
        unfold Gp.used
        rw [Bool.eq_iff_iff]
        simp
      have HJ1 := Lib.hid (hA _ _ (.cells #[.int .i64 (fr + (k : Int)), .int .i64 (fr + (k : Int)), .int .i64 (gl), .int .i64 step] 63) HJ.out)
      have HK1 : Hid (KpS n₀ n₁ B W1 (wr.alloc (.cells #[.int .i64 (fr + (k : Int)), .int .i64 (fr + (k : Int)), .int .i64 (gl), .int .i64 step] 63))) := Lib.hid (HK.out.trans (KpS.alloc hsw _))
      have HSZ : Hid (n₀ ≤ (wr.alloc (.cells #[.int .i64 (fr + (k : Int)), .int .i64 (fr + (k : Int)), .int .i64 (gl), .int .i64 step] 63)).heap.size) := Lib.hid (by rw [World.size_alloc]; omega)
      by_cases hz : gl = 0
      · have HC1 := Lib.hid (HCs.out k _ hlt hGk hz)
        rw [HU, show decide (0 < gl) = false by simp; omega] at HV
        dsimp only [aggS] at HV
        have HZ := Lib.hid hz
        clear HU hGk hz
        gi_wp2_with (gi_at_call 154; refine (callsIn_wide.2 (HV.out _)).mono ?_; rintro e w' ⟨rfl, v, rfl⟩)
        go_roundw
        case rel => exact ⟨k + 1, by omega, rfl, Lib.hid (by rw [HC1.out]; exact hA _ _ _ HJ1.out), Lib.hid (HK1.out.trans (KpS.alloc HSZ.out _))⟩
        case measure => simp [intOf]; omega
      · obtain ⟨hc1, hln⟩ := HCg.out k _ hlt hGk hz
        have HC1 := Lib.hid hc1
        rw [HU, show decide (0 < gl) = true by simp; omega] at HV
        have HY := Lib.hid (fun W (h : J (pre ++ C k) W) => hY (m - 1) (pre ++ C k) ⟨fr + (k : Int), fr + (k : Int), gl, step⟩ W h hln)
        dsimp only [aggS] at HV HY
        have HZ := Lib.hid hz
        clear HU hGk hz hc1 hln
        gi_wp2_with (gi_at_call 154; refine (callsIn_wide.2 (HV.out _)).mono ?_; rintro e w' ⟨rfl, v, rfl⟩; obtain ⟨fn, tmps, assign, body, hy, hR⟩ := HY.out _ (hA _ _ (.cells v 63) HJ1.out))
        refine hR.mono ?_
        rintro e W3 (⟨rfl, hJ3, hk3⟩ | ⟨rfl, hJx3⟩)
        · have HJ3 := Lib.hid hJ3
          have HK3 := Lib.hid hk3
          clear hJ3 hk3 hy hR
          gi_wp2
          go_roundw
          case rel => exact ⟨k + 1, by omega, rfl, Lib.hid (by rw [HC1.out, ← List.append_assoc]; exact HJ3.out), Lib.hid ((HK1.out.trans (KpS.alloc HSZ.out _)).trans HK3.out)⟩
          case measure => simp [intOf]; omega
        · have HJ3 := Lib.hid hJx3
          clear hJx3 hy hR
          gi_wp2
          refine bodyPost_ret (results_tmp rfl _ _ _) rfl ?_
          exact .inr ⟨rfl, C (k + 1), HCp.out (k + 1) (by omega), by rw [HC1.out, ← List.append_assoc]; exact HJ3.out⟩
    · obtain rfl : k = M := by omega
      gi_wp2
      refine bodyPost_ret (results_tmp rfl _ _ _) rfl ?_
      exact .inl ⟨rfl, HJ.out, hW1.trans HK.out⟩

set_option maxRecDepth 100000 in
set_option maxHeartbeats 3200000 in
theorem divide_many1 (m l n₀ n₁ B N : Nat) (J Jx : List Ch.Span → World → Prop) (hY : Yields n₀ n₁ B N l J Jx) (hA : ∀ pre W o, J pre W → J pre (W.alloc o)) (x : Ch.Span) (ho : Ch.okSpan x = true) (step : Int) (hst : x.st = 1) (hs : x.st ≠ step) (hs1 : step = 0 ∨ step = 1)
    (pre : List Ch.Span) (hN : pre.length + (Gp.cutTo step x (x.to - x.fr + 1).toNat).length ≤ N) (W : World) (hn : n₀ ≤ W.heap.size) (hn1 : n₁ ≤ W.heap.size) (hg : Good B W) (h0 : J pre W) :
    CallsIn Fence.wide m Tryz.prog 152 #[aggS x, .int .i64 step, .func (.yield l) #[] #[]] W (Divided n₀ n₁ B J Jx pre (Gp.cutTo step x (x.to - x.fr + 1).toNat) W) := by
  obtain ⟨a1, a2, a3, a4, a5, a6, a7, a8⟩ := (Ch.okSpan_iff x).1 ho
  have HO := Lib.hid ho
  have HS := Lib.hid hs
  obtain ⟨M, hM⟩ : ∃ M, (x.to - x.fr + 1).toNat = M := ⟨_, rfl⟩
  have hMi : x.to - x.fr + 1 = (M : Int) := by omega
  rw [hM] at hN ⊢
  obtain ⟨C, hC⟩ : ∃ C : Nat → List Ch.Span, C = Gp.cutTo step x := ⟨_, rfl⟩
  have HC0 : Hid (C 0 = []) := Lib.hid (by rw [hC]; rfl)
  have HCn : Hid (pre.length + (C M).length ≤ N) := Lib.hid (by rw [hC]; exact hN)
  have HCp : Hid (∀ k, k ≤ M → C k <+: C M) := Lib.hid (fun k h => by rw [hC]; exact cut_pre step x h)
  have HCg : Hid (∀ (k : Nat) (g : Int), k < M → g = x.gl + x.st * k → ¬ g = 0 → C (k + 1) = C k ++ [⟨x.fr + k, x.fr + k, g, step⟩] ∧ (pre ++ C k).length < N) := Lib.hid (fun k g h hg h1 => by
    have e : C (k + 1) = C k ++ [⟨x.fr + k, x.fr + k, g, step⟩] := by rw [hC, hg]; exact cut_grow (by omega) (by rw [← hg]; exact h1)
    refine ⟨e, ?_⟩
    have h2 := (HCp.out (k + 1) h).length_le
    rw [e, List.length_append] at h2
    simp only [List.length_cons, List.length_nil] at h2
    rw [List.length_append]
    have := HCn.out
    omega)
  have HCs : Hid (∀ (k : Nat) (g : Int), k < M → g = x.gl + x.st * k → g = 0 → C (k + 1) = C k) := Lib.hid (fun k g h hg h1 => by rw [hC]; exact cut_stay (by omega) (by rw [← hg]; exact h1))
  have HB : Hid (∀ k : Nat, k < M → 0 ≤ x.gl + x.st * k ∧ x.gl + x.st * k ≤ 65535) := Lib.hid (fun k h => by
    rcases (show x.st = 0 ∨ x.st = 1 by omega) with e | e
    · rw [e]; simp; omega
    · rw [e] at a8 ⊢; simp at a8 ⊢; omega)
  rw [← hC]
  clear hC ho hN hM
  obtain ⟨fr, tt, gl, st⟩ := x
  unfold aggS
  dsimp only at *
  subst hst
  have hq : ((1 : Int) == step) = false := by simpa using hs
  refine callsIn_of_wp Tryz.func152 rfl trivial ?_ rfl
  simp only [Tryz.ntmps152, List.size_toArray, List.length_cons, List.length_nil, Nat.reduceAdd, Nat.reduceSub, Array.replicate_succ, Array.replicate_zero, List.push_toArray, List.append_toArray, List.nil_append, List.cons_append]
  gi_wp2
  have hW1 : KpS n₀ n₁ B W (W.alloc (.cells #[.int .i64 fr, .int .i64 tt, .int .i64 gl, .int .i64 1] 63)) := KpS.alloc hn _
  have hg1 := hg.alloc (.cells #[.int .i64 fr, .int .i64 tt, .int .i64 gl, .int .i64 1] 63)
  have ho1 : ¬ Owned B (W.alloc (.cells #[.int .i64 fr, .int .i64 tt, .int .i64 gl, .int .i64 1] 63)) W.heap.size := hg.new _
  have hb1 : (W.alloc (.cells #[.int .i64 fr, .int .i64 tt, .int .i64 gl, .int .i64 1] 63)).heap[W.heap.size]? = some (.cells #[.int .i64 fr, .int .i64 tt, .int .i64 gl, .int .i64 1] 63) := new_block W _
  have hsz : n₀ ≤ (W.alloc (.cells #[.int .i64 fr, .int .i64 tt, .int .i64 gl, .int .i64 1] 63)).heap.size := by rw [World.size_alloc]; omega
  have hJ1 := hA _ _ (.cells #[.int .i64 fr, .int .i64 tt, .int .i64 gl, .int .i64 1] 63) h0
  obtain ⟨bx, hbx⟩ : ∃ bx, W.heap.size = bx := ⟨_, rfl⟩
  rw [hbx] at hn1 ho1 hb1 ⊢
  generalize (W.alloc (.cells #[.int .i64 fr, .int .i64 tt, .int .i64 gl, .int .i64 1] 63)) = W1 at *
  have HG := Lib.hid hg1
  have HO1 := Lib.hid ho1
  have HB1 := Lib.hid hb1
  have HJ1 := Lib.hid hJ1
  clear hg1 ho1 hb1 hJ1 hg h0
  gi_loopw [28] (fun i wr => ∃ k : Nat, k ≤ M ∧ i = .int .i64 (k : Int) ∧ Hid (J (pre ++ C k) wr) ∧ Hid (KpS n₀ n₁ B W1 wr))
    (fun i _ => (M - (intOf i).toNat))
  case atStart => exact ⟨0, Nat.zero_le _, rfl, Lib.hid (by rw [HC0.out, List.append_nil]; exact HJ1.out), Lib.hid (KpS.refl _ _ _ _)⟩
  case round =>
    obtain ⟨k, hk, rfl, HJ, HK⟩ := hrel
    have hbr := (HK.out.keep HG.out HB1.out rfl hn1 HO1.out).1
    have c0 := block_cell (i := 0) hbr rfl
    have c1 := block_cell (i := 1) hbr rfl
    have c2 := block_cell (i := 2) hbr rfl
    have c3 := block_cell (i := 3) hbr rfl
    by_cases hlt : k < M
    · have hg0 := HB.out k hlt
      have HL1 : Hid (M - (k + 1) < M - k) := Lib.hid (by omega)
      obtain ⟨b1, b2⟩ : fr + (k : Int) ≤ tt ∧ (k : Int) < M := ⟨by omega, by omega⟩
      have hsw : n₀ ≤ wr.heap.size := Nat.le_trans hsz HK.out.below.size
      have hgw := HK.out.good HG.out
      have hGk : gl + (k : Int) = gl + 1 * (k : Int) := by simp
      rw [← hGk] at hg0
      obtain ⟨g0, g1⟩ := hg0
      have HV := Lib.hid (fun w => gused_any ⟨fr + (k : Int), fr + (k : Int), gl + (k : Int), step⟩ w (by dsimp only; omega) (by dsimp only; omega) (by dsimp only; omega) (by dsimp only; omega) (by dsimp only; omega) (by dsimp only; omega) (by dsimp only; omega))
      have HU : Gp.used ⟨fr + (k : Int), fr + (k : Int), gl + (k : Int), step⟩ = decide (0 < gl + (k : Int)) := by
        unfold Gp.used
        rw [Bool.eq_iff_iff]
        simp
      have HJ1 := Lib.hid (hA _ _ (.cells #[.int .i64 (fr + (k : Int)), .int .i64 (fr + (k : Int)), .int .i64 (gl + (k : Int)), .int .i64 step] 63) HJ.out)
      have HK1 : Hid (KpS n₀ n₁ B W1 (wr.alloc (.cells #[.int .i64 (fr + (k : Int)), .int .i64 (fr + (k : Int)), .int .i64 (gl + (k : Int)), .int .i64 step] 63))) := Lib.hid (HK.out.trans (KpS.alloc hsw _))
      have HSZ : Hid (n₀ ≤ (wr.alloc (.cells #[.int .i64 (fr + (k : Int)), .int .i64 (fr + (k : Int)), .int .i64 (gl + (k : Int)), .int .i64 step] 63)).heap.size) := Lib.hid (by rw [World.size_alloc]; omega)
      by_cases hz : gl + (k : Int) = 0
      · have HC1 := Lib.hid (HCs.out k _ hlt hGk hz)
        rw [HU, show decide (0 < gl + (k : Int)) = false by simp; omega] at HV
        dsimp only [aggS] at HV
        have HZ := Lib.hid hz
        clear HU hGk hz
        gi_wp2_with (gi_at_call 154; refine (callsIn_wide.2 (HV.out _)).mono ?_; rintro e w' ⟨rfl, v, rfl⟩)
        go_roundw
        case rel => exact ⟨k + 1, by omega, rfl, Lib.hid (by rw [HC1.out]; exact hA _ _ _ HJ1.out), Lib.hid (HK1.out.trans (KpS.alloc HSZ.out _))⟩
        case measure => simp [intOf]; omega
      · obtain ⟨hc1, hln⟩ := HCg.out k _ hlt hGk hz
        have HC1 := Lib.hid hc1
        rw [HU, show decide (0 < gl + (k : Int)) = true by simp; omega] at HV
        have HY := Lib.hid (fun W (h : J (pre ++ C k) W) => hY (m - 1) (pre ++ C k) ⟨fr + (k : Int), fr + (k : Int), gl + (k : Int), step⟩ W h hln)
        dsimp only [aggS] at HV HY
        have HZ := Lib.hid hz
        clear HU hGk hz hc1 hln
        gi_wp2_with (gi_at_call 154; refine (callsIn_wide.2 (HV.out _)).mono ?_; rintro e w' ⟨rfl, v, rfl⟩; obtain ⟨fn, tmps, assign, body, hy, hR⟩ := HY.out _ (hA _ _ (.cells v 63) HJ1.out))
        refine hR.mono ?_
        rintro e W3 (⟨rfl, hJ3, hk3⟩ | ⟨rfl, hJx3⟩)
        · have HJ3 := Lib.hid hJ3
          have HK3 := Lib.hid hk3
          clear hJ3 hk3 hy hR
          gi_wp2
          go_roundw
          case rel => exact ⟨k + 1, by omega, rfl, Lib.hid (by rw [HC1.out, ← List.append_assoc]; exact HJ3.out), Lib.hid ((HK1.out.trans (KpS.alloc HSZ.out _)).trans HK3.out)⟩
          case measure => simp [intOf]; omega
        · have HJ3 := Lib.hid hJx3
          clear hJx3 hy hR
          gi_wp2
          refine bodyPost_ret (results_tmp rfl _ _ _) rfl ?_
          exact .inr ⟨rfl, C (k + 1), HCp.out (k + 1) (by omega), by rw [HC1.out, ← List.append_assoc]; exact HJ3.out⟩
    · obtain rfl : k = M := by omega
      gi_wp2
      refine bodyPost_ret (results_tmp rfl _ _ _) rfl ?_
      exact .inl ⟨rfl, HJ.out, hW1.trans HK.out⟩

/-- group.divide. -/
theorem divide_any (m l n₀ n₁ B N : Nat) (J Jx : List Ch.Span → World → Prop) (hY : Yields n₀ n₁ B N l J Jx) (hA : ∀ pre W o, J pre W → J pre (W.alloc o)) (x : Ch.Span) (ho : Ch.okSpan x = true) (step : Int) (hs1 : step = 0 ∨ step = 1)
    (pre : List Ch.Span) (hN : pre.length + (Gp.part step x).length ≤ N) (W : World) (hn : n₀ ≤ W.heap.size) (hn1 : n₁ ≤ W.heap.size) (hg : Good B W) (h0 : J pre W) :
    CallsIn Fence.wide m Tryz.prog 152 #[aggS x, .int .i64 step, .func (.yield l) #[] #[]] W (Divided n₀ n₁ B J Jx pre (Gp.part step x) W) := by
  by_cases hs : x.st = step
  · by_cases hu : Gp.used x = true
    · rw [Gp.part_same ho hs, if_pos hu] at hN ⊢
      exact divide_one m l n₀ n₁ B N J Jx hY hA x ho step hs hu pre (by rw [List.length_cons, List.length_nil] at hN; omega) W hn h0
    · rw [Gp.part_same ho hs, if_neg hu]
      exact divide_none m l n₀ n₁ B J Jx hA x ho step hs (by simpa using hu) pre W hn h0
  · rw [Gp.part_other ho hs] at hN ⊢
    obtain ⟨a1, a2, a3, a4, a5, a6, a7, a8⟩ := (Ch.okSpan_iff x).1 ho
    rcases (show x.st = 0 ∨ x.st = 1 by omega) with e | e
    · exact divide_many0 m l n₀ n₁ B N J Jx hY hA x ho step e hs hs1 pre hN W hn hn1 hg h0
    · exact divide_many1 m l n₀ n₁ B N J Jx hY hA x ho step e hs hs1 pre hN W hn hn1 hg h0
end Go.Proofs.YtppihpjcdieeoaaGreatDoor

/-
  Facts that the walks rest on: BnPieceW, SgRead, SgUsed. No conditions beyond those stated.
-/
import Derived.Test.YtppihpjcdieeoaaGreatDoorPart03
import Derived.Test.YtppihpjcdieeoaaGreatDoorPart05
import Derived.Test.YtppihpjcdieeoaaGreatDoorGround
import Derived.Test.YtppihpjcdieeoaaGreatDoorChFacts
/-
  The contract of bin.Piece: it answers what the plain function on bytes says. No conditions beyond those stated.
-/
namespace Go.Proofs.YtppihpjcdieeoaaGreatDoor
open Go.RowKit

set_option maxHeartbeats 400000 in
theorem piece1_ret (b0 b1 b2 : Nat) (l : List UInt8) (pos n : Nat) (w : World) (hc0 : w.cell? ⟨b0, 0, none⟩ = some (.string ⟨l.toArray⟩)) (hc1 : w.cell? ⟨b1, 0, none⟩ = some (.int .i64 pos)) (hc2 : w.cell? ⟨b2, 0, none⟩ = some (.int .i64 n))
    (hl : l.length ≤ 9223372036854775807) (hfit : pos + n ≤ l.length) :
    Calls Tryz.prog 141 #[.pointer (some ⟨b0, 0, none⟩), .pointer (some ⟨b1, 0, none⟩), .pointer (some ⟨b2, 0, none⟩)] w fun e w' => ∃ u, e = .returned u ∧ u = .string ⟨((l.drop pos).take n).toArray⟩ ∧ Lo w w' := by
  have HP := Lib.hid (fun W => piece_ret l pos n W hfit hl)
  generalize (l.drop pos).take n = body at *
  clear hfit
  go_enter Tryz.func141, Tryz.ntmps141
  go_wp2_with fail
  refine (HP.out _).mono ?_
  rintro e w1 ⟨rfl, rfl⟩
  go_wp2_with fail
  go_ret
  exact ⟨_, rfl, rfl, Lo.refl _⟩

set_option maxHeartbeats 400000 in
theorem piece1_raise (b0 b1 b2 : Nat) (l : List UInt8) (pos n : Int) (w : World) (hc0 : w.cell? ⟨b0, 0, none⟩ = some (.string ⟨l.toArray⟩)) (hc1 : w.cell? ⟨b1, 0, none⟩ = some (.int .i64 pos)) (hc2 : w.cell? ⟨b2, 0, none⟩ = some (.int .i64 n))
    (hl : l.length ≤ 9223372036854775807) (h0 : 0 ≤ pos) (h1 : pos ≤ 9223372036854775807) (hfit : (l.length : Int) - pos < n) :
    Calls Tryz.prog 141 #[.pointer (some ⟨b0, 0, none⟩), .pointer (some ⟨b1, 0, none⟩), .pointer (some ⟨b2, 0, none⟩)] w fun e w' => e = .panicked (raise 4) ∧ Lo w w' := by
  have HP := Lib.hid (fun W => piece_raise l pos n W h0 h1 hfit hl)
  clear hfit
  go_enter Tryz.func141, Tryz.ntmps141
  go_wp2_with fail
  refine (HP.out _).mono ?_
  rintro e w1 ⟨rfl, rfl⟩
  exact ⟨rfl, rfl, Lo.refl _⟩

/-- The world in which Piece's work is called. -/
def held2 (w : World) (s : Value) (pos n : Int) : World := ((w.alloc (.cells #[s] 9)).alloc (.cells #[.int .i64 pos] 3)).alloc (.cells #[.int .i64 n] 3)
theorem held2_lo (w : World) (s : Value) (pos n : Int) : Lo w (held2 w s pos n) := (((Lo.refl w).alloc _).alloc _).alloc _

set_option maxHeartbeats 400000 in
theorem bpiece_arg (l : List UInt8) (pos n : Int) (w : World) (h : pos < 0 ∨ n < 0) :
    Calls Tryz.prog 119 #[.string ⟨l.toArray⟩, .int .i64 pos, .int .i64 n] w fun e w' => e = strErr ([], 1) ∧ Lo w w' := by
  by_cases hp : pos < 0
  · clear h
    go_enter Tryz.func119, Tryz.ntmps119
    go_wp2_with fail
    go_ret2
    exact ⟨rfl, held2_lo w _ _ _⟩
  · have h2 : n < 0 := by omega
    clear h
    go_enter Tryz.func119, Tryz.ntmps119
    go_wp2_with fail
    go_ret2
    exact ⟨rfl, held2_lo w _ _ _⟩

set_option maxHeartbeats 800000 in
theorem bpiece_work (l : List UInt8) (pos n : Int) (w : World) (u : Value) (k : Int) (h : 0 ≤ pos) (h2 : 0 ≤ n)
    (hW : Calls Tryz.prog 140 #[.func (.func 141) #[] #[.pointer (some ⟨w.heap.size, 0, none⟩), .pointer (some ⟨w.heap.size + 1, 0, none⟩), .pointer (some ⟨w.heap.size + 2, 0, none⟩)]] (held2 w (.string ⟨l.toArray⟩) pos n) fun e w' => e = .returned (.tuple #[u, .int .i64 k]) ∧ Lo (held2 w (.string ⟨l.toArray⟩) pos n) w') :
    Calls Tryz.prog 119 #[.string ⟨l.toArray⟩, .int .i64 pos, .int .i64 n] w fun e w' => e = .returned (.tuple #[u, .int .i64 k]) ∧ Lo w w' := by
  have hmf : ∀ (fn : Fn) (first cap : Array Value) (w : World), (Instr.makeFunc fn first cap).run Tryz.prog w = .ok (.func fn first cap) w := fun _ _ _ _ => rfl
  have HW := Lib.hid hW
  have HL := Lib.hid (held2_lo w (.string ⟨l.toArray⟩) pos n)
  clear hW
  go_enter Tryz.func119, Tryz.ntmps119
  go_wp2_with fail
  refine HW.out.mono ?_
  rintro e w1 ⟨rfl, hlo⟩
  clear HW
  go_wp2_with fail
  go_ret2
  exact ⟨rfl, HL.out.trans hlo⟩

/-- bin.Piece. -/
theorem bpiece_any (l : List UInt8) (pos n : Int) (w : World) (hl : l.length ≤ 9223372036854775807) (h1 : pos ≤ 9223372036854775807) :
    Calls Tryz.prog 119 #[.string ⟨l.toArray⟩, .int .i64 pos, .int .i64 n] w fun e w' => e = strErr (Bn.piece l pos n) ∧ Lo w w' := by
  unfold Bn.piece
  by_cases c0 : pos < 0 ∨ n < 0
  · rw [if_pos c0]; exact bpiece_arg l pos n w c0
  · rw [if_neg c0]
    have hc0 : (held2 w (.string ⟨l.toArray⟩) pos n).cell? ⟨w.heap.size, 0, none⟩ = some (.string ⟨l.toArray⟩) := by simp [held2, go_sem]
    have hc1 : (held2 w (.string ⟨l.toArray⟩) pos n).cell? ⟨w.heap.size + 1, 0, none⟩ = some (.int .i64 pos) := by simp [held2, go_sem]
    have hc2 : (held2 w (.string ⟨l.toArray⟩) pos n).cell? ⟨w.heap.size + 2, 0, none⟩ = some (.int .i64 n) := by simp [held2, go_sem]
    have hsz : (held2 w (.string ⟨l.toArray⟩) pos n).heap.size = w.heap.size + 3 := by simp [held2]
    have bl := boxed_lo (held2 w (.string ⟨l.toArray⟩) pos n)
    by_cases cm : (l.length : Int) - pos < n
    · rw [if_pos (.inr cm)]
      exact bpiece_work l pos n w _ 4 (by omega) (by omega) (scaught_raised 141 _ 4 _ (fun W => by simp [go_sem])
        (piece1_raise w.heap.size (w.heap.size + 1) (w.heap.size + 2) l pos n _ ((bl.cell (by omega)).trans hc0) ((bl.cell (by omega)).trans hc1) ((bl.cell (by omega)).trans hc2) hl (by omega) h1 cm))
    · rw [if_neg (by rintro (h | h) <;> omega)]
      obtain ⟨q, rfl⟩ := Int.eq_ofNat_of_zero_le (show 0 ≤ pos by omega)
      obtain ⟨m, rfl⟩ := Int.eq_ofNat_of_zero_le (show 0 ≤ n by omega)
      refine bpiece_work l q m w _ 0 (by omega) (by omega) ((scaught_ret 141 _ _ (fun _ u => u = .string ⟨((l.drop q).take m).toArray⟩) (fun W => by simp [go_sem])
        (piece1_ret w.heap.size (w.heap.size + 1) (w.heap.size + 2) l q m _ ((bl.cell (by omega)).trans hc0) ((bl.cell (by omega)).trans hc1) ((bl.cell (by omega)).trans hc2) hl (by omega)) (fun _ _ _ h => h)).mono ?_)
      rintro e w' ⟨u, rfl, rfl, hlo⟩
      exact ⟨rfl, hlo⟩
end Go.Proofs.YtppihpjcdieeoaaGreatDoor
/-
  Contract of segment.read: the numbers of a subtable, cut into its parts, or an error. No conditions beyond those stated.
-/
namespace Sg
open Bn He
/-- The error of a subtable as a whole, ahead of its segments. -/
def rerr (s : List UInt8) : Int :=
  if s.length < 14 then 4
  else if word s 0 ≠ 4 ∨ word s 6 % 2 = 1 ∨ many s = 0 then 5
  else if (s.length : Int) < word s 2 then 4
  else if word s 2 < 16 + 8 * (many s : Nat) then 5
  else 0
theorem get_rerr {s : List UInt8} (h : rerr s ≠ 0) : get s = ([], rerr s) := by
  unfold rerr at *
  unfold get
  by_cases c1 : s.length < 14
  · rw [if_pos c1, if_pos c1]
  · rw [if_neg c1] at h ⊢
    rw [if_neg c1]
    by_cases c2 : word s 0 ≠ 4 ∨ word s 6 % 2 = 1 ∨ many s = 0
    · rw [if_pos c2, if_pos c2]
    · rw [if_neg c2] at h ⊢
      rw [if_neg c2]
      by_cases c3 : (s.length : Int) < word s 2
      · rw [if_pos c3, if_pos c3]
      · rw [if_neg c3] at h ⊢
        rw [if_neg c3]
        by_cases c4 : word s 2 < 16 + 8 * (many s : Nat)
        · rw [if_pos c4, if_pos c4]
        · rw [if_neg c4] at h; exact absurd rfl h
theorem get_rok {s : List UInt8} (h : rerr s = 0) : get s = body (s.take (word s 2).toNat) (many s) ∧ 14 ≤ s.length ∧ 1 ≤ many s ∧ (word s 2).toNat ≤ s.length ∧ 16 + 8 * many s ≤ (word s 2).toNat ∧ (word s 2).toNat ≤ 65535 := by
  have b2 := word_bound s 2
  unfold rerr at h
  unfold get
  by_cases c1 : s.length < 14
  · rw [if_pos c1] at h; cases h
  · rw [if_neg c1] at h ⊢
    by_cases c2 : word s 0 ≠ 4 ∨ word s 6 % 2 = 1 ∨ many s = 0
    · rw [if_pos c2] at h; cases h
    · rw [if_neg c2] at h ⊢
      by_cases c3 : (s.length : Int) < word s 2
      · rw [if_pos c3] at h; cases h
      · rw [if_neg c3] at h ⊢
        by_cases c4 : word s 2 < 16 + 8 * (many s : Nat)
        · rw [if_pos c4] at h; cases h
        · rw [if_neg c4]
          exact ⟨rfl, by omega, by omega, by omega, by omega, by omega⟩
/-- The numbers of a subtable. -/
def nums (s : List UInt8) : List Int := (List.range ((word s 2).toNat / 2)).map fun i => word (s.take (word s 2).toNat) (2 * i)
theorem nums_len (s : List UInt8) : (nums s).length = (word s 2).toNat / 2 := by simp [nums]
theorem nums_get {s : List UInt8} (h : (word s 2).toNat ≤ s.length) : Bn.get (s.take (word s 2).toNat) 0 (List.replicate ((word s 2).toNat / 2) 2) = (nums s, 0) := by
  have := Ch.bget_rep (s.take (word s 2).toNat) 0 ((word s 2).toNat / 2) (size := 2) (by decide)
  rw [show ((0 : Nat) : Int) = 0 from rfl] at this
  rw [this, if_neg (by rw [List.length_take, show Int.natAbs 2 = 2 from rfl]; omega)]
  unfold nums word
  simp
theorem head_get {s : List UInt8} : Bn.get s 0 (List.replicate 7 2) = if s.length < 14 then ([], 4) else ([word s 0, word s 2, word s 4, word s 6, word s 8, word s 10, word s 12], 0) := by
  have := Ch.bget_rep s 0 7 (size := 2) (by decide)
  rw [show ((0 : Nat) : Int) = 0 from rfl] at this
  rw [this]
  rfl
end Sg
namespace Go.Proofs.YtppihpjcdieeoaaGreatDoor
open Go.RowKit

theorem Row.seven {w : World} {p : Option Addr} {c : Nat} {x0 x1 x2 x3 x4 x5 x6 : Int} (h : Row w (.slice p 7 c) [x0, x1, x2, x3, x4, x5, x6]) :
    ∃ b off, p = some ⟨b, off, none⟩ ∧ w.cell? ⟨b, off, none⟩ = some (.int .i64 x0) ∧ w.cell? ⟨b, off + 1, none⟩ = some (.int .i64 x1) ∧ w.cell? ⟨b, off + 3, none⟩ = some (.int .i64 x3) := by
  obtain ⟨b, off, rfl, h0⟩ := h.at_ (k := 0) (by omega)
  obtain ⟨b1, off1, e1, h1⟩ := h.at_ (k := 1) (by omega)
  obtain ⟨b3, off3, e3, h3⟩ := h.at_ (k := 3) (by omega)
  simp only [Option.some.injEq, Addr.mk.injEq, and_true] at e1 e3
  obtain ⟨rfl, rfl⟩ := e1
  obtain ⟨rfl, rfl⟩ := e3
  exact ⟨b, off, rfl, h0, h1, h3⟩

/-- No table, and an error. -/
def noTab (k : Int) : Ending := .returned (.tuple #[.agg #[.slice none 0 0, .slice none 0 0, .slice none 0 0, .slice none 0 0, .slice none 0 0], .int .i64 k])

set_option maxRecDepth 100000 in
set_option maxHeartbeats 1600000 in
theorem read_more (s : List UInt8) (w : World) (h : s.length < 14) :
    Calls Tryz.prog 88 #[.string ⟨s.toArray⟩] w fun e w' => e = noTab 4 ∧ Lo w w' := by
  have HM := Lib.hid (fun W => srepeated_any 2 7 W (by omega))
  have HG := Lib.hid (fun (W : World) (v : Value) (hr : Row W v (List.replicate 7 2)) => get_any s 0 v _ W hr (by rw [List.length_replicate]; omega) (by omega) (by omega))
  rw [Sg.head_get, if_pos h] at HG
  unfold GotRow at HG
  unfold Many at HM
  unfold noTab
  go_enter Tryz.func88, Tryz.ntmps88
  go_wp2_with fail
  refine (HM.out _).mono ?_
  rintro e w1 ⟨p, c, rfl, hr, lo⟩
  have HR := Lib.hid hr
  have HL := Lib.hid (((Lo.refl w).alloc _).trans lo)
  have HB := Lib.hid (lo_block lo (new_block w _))
  clear lo hr HM
  go_wp2_with fail
  refine (HG.out _ _ HR.out).mono ?_
  rintro e w2 ⟨p2, c2, rfl, _, lo⟩
  have HL := Lib.hid (HL.out.trans lo)
  obtain ⟨⟨s0, s1, s2, s3, s4⟩, q0, q1, q2, q3, q4⟩ := five_at (lo_block lo HB.out)
  clear lo HR HG HB
  go_wp2_with fail
  refine bodyPost_ret (v := .tuple #[.agg #[.slice none 0 0, .slice none 0 0, .slice none 0 0, .slice none 0 0, .slice none 0 0], .int .i64 4]) ?_ rfl ⟨rfl, ?_⟩
  · simp [results, Tryz.results88, go_sem, s0, s1, s2, s3, s4]
  · exact Lo.set5 HL.out (Nat.le_refl _) _ _ _ _ _

set_option maxRecDepth 100000 in
set_option maxHeartbeats 1600000 in
theorem read_form (s : List UInt8) (w : World) (hl : s.length ≤ 9223372036854775807) (h : 14 ≤ s.length) (hf : Sg.word s 0 ≠ 4 ∨ Sg.word s 6 % 2 = 1 ∨ Sg.many s = 0) :
    Calls Tryz.prog 88 #[.string ⟨s.toArray⟩] w fun e w' => e = noTab 5 ∧ Lo w w' := by
  have HM := Lib.hid (fun W => srepeated_any 2 7 W (by omega))
  have HG := Lib.hid (fun (W : World) (v : Value) (hr : Row W v (List.replicate 7 2)) => get_any s 0 v _ W hr (by rw [List.length_replicate]; omega) hl (by omega))
  rw [Sg.head_get, if_neg (by omega)] at HG
  have b0 := Sg.word_bound s 0
  have b2 := Sg.word_bound s 2
  have b6 := Sg.word_bound s 6
  unfold Sg.many at hf
  unfold GotRow at HG
  unfold Many at HM
  unfold noTab
  simp only [List.length_cons, List.length_nil, Nat.zero_add, Nat.reduceAdd] at HG
  generalize Sg.word s 0 = x0 at *
  generalize Sg.word s 2 = x1 at *
  generalize Sg.word s 4 = x2 at *
  generalize Sg.word s 6 = x3 at *
  have hn : x3 / 2 = ((x3 / 2).toNat : Int) := by omega
  have hm : x3 % 2 = 0 ∨ x3 % 2 = 1 := by omega
  generalize (x3 / 2).toNat = n at *
  go_enter Tryz.func88, Tryz.ntmps88
  go_wp2_with fail
  refine (HM.out _).mono ?_
  rintro e w1 ⟨p, c, rfl, hr, lo⟩
  have HR := Lib.hid hr
  have HL := Lib.hid (((Lo.refl w).alloc _).trans lo)
  have HB := Lib.hid (lo_block lo (new_block w _))
  clear lo hr HM
  go_wp2_with fail
  refine (HG.out _ _ HR.out).mono ?_
  rintro e w2 ⟨p2, c2, rfl, hrow, lo⟩
  have HL := Lib.hid (HL.out.trans lo)
  have HB := Lib.hid (lo_block lo HB.out)
  obtain ⟨b, off, rfl, r0, r1, r3⟩ := Row.seven hrow
  clear lo HR HG hrow
  go_wp2_with fail
  go_quiet (fail)
  have HL := Lib.hid (HL.out.drewN nq)
  obtain ⟨⟨s0, s1, s2, s3, s4⟩, q0, q1, q2, q3, q4⟩ := five_at (lo_block ((Lo.refl _).drewN nq) HB.out)
  clear HB
  by_cases c0 : x0 = 4
  · by_cases c1 : n = 0
    · subst c0 c1
      go_wp2_with fail
      refine bodyPost_ret (v := .tuple #[.agg #[.slice none 0 0, .slice none 0 0, .slice none 0 0, .slice none 0 0, .slice none 0 0], .int .i64 5]) ?_ rfl ⟨rfl, ?_⟩
      · simp [results, Tryz.results88, go_sem, s0, s1, s2, s3, s4]
      · exact Lo.set5 HL.out (Nat.le_refl _) _ _ _ _ _
    · have c2 : x3 % 2 = 1 := by omega
      clear hm
      subst c0
      go_wp2_with fail
      refine bodyPost_ret (v := .tuple #[.agg #[.slice none 0 0, .slice none 0 0, .slice none 0 0, .slice none 0 0, .slice none 0 0], .int .i64 5]) ?_ rfl ⟨rfl, ?_⟩
      · simp [results, Tryz.results88, go_sem, s0, s1, s2, s3, s4]
      · exact Lo.set5 HL.out (Nat.le_refl _) _ _ _ _ _
  · go_wp2_with fail
    refine bodyPost_ret (v := .tuple #[.agg #[.slice none 0 0, .slice none 0 0, .slice none 0 0, .slice none 0 0, .slice none 0 0], .int .i64 5]) ?_ rfl ⟨rfl, ?_⟩
    · simp [results, Tryz.results88, go_sem, s0, s1, s2, s3, s4]
    · exact Lo.set5 HL.out (Nat.le_refl _) _ _ _ _ _

theorem Row.pos {w : World} {p : Option Addr} {n c : Nat} {l : List Int} (h : Row w (.slice p n c) l) (hn : 0 < n) : ∃ b off, p = some ⟨b, off, none⟩ ∧ n ≤ c := by
  rcases h with ⟨_, _, h1, _, rfl⟩ | ⟨b, off, cap, h1, h2, h2b, h3, h4⟩
  · injection h1 with _ h1 _; omega
  · injection h1 with hp h1 h2
    exact ⟨b, off, hp, by omega⟩
theorem Row.keep {w w' : World} {b off n c : Nat} {l : List Int} (h : Row w (.slice (some ⟨b, off, none⟩) n c) l) (hn : 0 < n) (hb : w'.heap[b]? = w.heap[b]?) : Row w' (.slice (some ⟨b, off, none⟩) n c) l := by
  have h0 := h
  rcases h with ⟨_, _, h1, _, rfl⟩ | ⟨b', off', cap, h1, h2, h2b, h3, h4⟩
  · injection h1 with _ h1 _; omega
  · injection h1 with hp h5 h6
    injection hp with hp
    injection hp with e1 e2
    subst e1 e2 h5 h6
    refine .inr ⟨b, off, c, rfl, h2, h2b, ?_, fun i hi => ?_⟩
    · have e : w.heap[b]? = some w.heap[b] := Array.getElem?_eq_getElem h3
      rw [e] at hb
      exact (Array.getElem?_eq_some_iff.1 hb).1
    · rw [← h4 i hi]
      simp [World.cell?, hb]
theorem Row.ne5 {w : World} {b off n c T ty : Nat} {l : List Int} {p0 p1 p2 p3 p4 : Option Addr} {n0 n1 n2 n3 n4 c0 c1 c2 c3 c4 : Nat} (h : Row w (.slice (some ⟨b, off, none⟩) n c) l) (hn : 0 < n)
    (hT : w.heap[T]? = some (.cells #[.slice p0 n0 c0, .slice p1 n1 c1, .slice p2 n2 c2, .slice p3 n3 c3, .slice p4 n4 c4] ty (0, 0))) : b ≠ T := by
  rintro rfl
  obtain ⟨b', off', e, hc⟩ := h.at_ hn
  injection e with e
  injection e with e1 e2
  subst e1 e2
  simp only [World.cell?, hT] at hc
  rcases (show off = 0 ∨ off = 1 ∨ off = 2 ∨ off = 3 ∨ off = 4 ∨ 5 ≤ off by omega) with rfl | rfl | rfl | rfl | rfl | h5
  · simp at hc
  · simp at hc
  · simp at hc
  · simp at hc
  · simp at hc
  · rw [Array.getElem?_eq_none (by simp; omega)] at hc
    simp at hc
theorem heap_set5 (w : World) {T b : Nat} (hne : b ≠ T) (u0 u1 u2 u3 u4 : Value) : (((((w.setCell ⟨T, 0, none⟩ u0).setCell ⟨T, 1, none⟩ u1).setCell ⟨T, 2, none⟩ u2).setCell ⟨T, 3, none⟩ u3).setCell ⟨T, 4, none⟩ u4).heap[b]? = w.heap[b]? := by
  rw [set_other hne, set_other hne, set_other hne, set_other hne, set_other hne]
/-- A table, told: its numbers lie in one block, from a place on. -/
def GotTab (ns : List Int) (n : Nat) (w : World) (e : Ending) (w' : World) : Prop := ∃ b off c m, e = .returned (.tuple #[aggT5 b off (off + 7) (off + (8 + n)) (off + (8 + 2 * n)) (off + (8 + 3 * n)) n m, .int .i64 0]) ∧ Row w' (.slice (some ⟨b, off, none⟩) ns.length c) ns ∧ ns.length = 8 + 3 * n + m ∧ Lo w w'
/-- What read tells. -/
def ReadTold (y : Int) (ns : List Int) (n : Nat) (w : World) (e : Ending) (w' : World) : Prop := (y ≠ 0 ∧ e = noTab y ∧ Lo w w') ∨ (y = 0 ∧ GotTab ns n w e w')
theorem piece_ok {s : List UInt8} {x : Int} (h0 : 0 ≤ x) (h : x ≤ s.length) : Bn.piece s 0 x = (s.take x.toNat, 0) := by
  unfold Bn.piece
  first | rw [if_neg (by omega), if_neg (by omega)] | skip
  simp
theorem piece_no {s : List UInt8} {x : Int} (h0 : 0 ≤ x) (h : (s.length : Int) < x) : Bn.piece s 0 x = ([], 4) := by
  unfold Bn.piece
  rw [if_neg (by omega), if_pos (by omega)]

set_option maxRecDepth 100000 in
set_option maxHeartbeats 3200000 in
theorem read_rest (s : List UInt8) (w : World) (hl : s.length ≤ 9223372036854775807) (h : 14 ≤ s.length) (h0 : Sg.word s 0 = 4) (h1 : Sg.word s 6 % 2 = 0) (h2 : 1 ≤ Sg.many s) :
    Calls Tryz.prog 88 #[.string ⟨s.toArray⟩] w (ReadTold (Sg.rerr s) (Sg.nums s) (Sg.many s) w) := by
  have HM := Lib.hid (fun W => srepeated_any 2 7 W (by omega))
  have HG := Lib.hid (fun (W : World) (v : Value) (hr : Row W v (List.replicate 7 2)) => get_any s 0 v _ W hr (by rw [List.length_replicate]; omega) hl (by omega))
  rw [Sg.head_get, if_neg (by omega), h0] at HG
  have b2 := Sg.word_bound s 2
  have b6 := Sg.word_bound s 6
  have HP := Lib.hid (fun W => bpiece_any s 0 (Sg.word s 2) W hl (by omega))
  have HLen := Lib.hid (fun (n : Nat) (hn : n ≤ 100000) W => length_any n 0 W (by omega) (by omega))
  have HE : Hid (Sg.rerr s = if (s.length : Int) < Sg.word s 2 then 4 else if Sg.word s 2 < 16 + 8 * (Sg.many s : Nat) then 5 else 0) := Lib.hid (by
    unfold Sg.rerr
    rw [if_neg (by omega), if_neg (by omega)])
  have HM2 := Lib.hid (fun W => srepeated_any 2 ((Sg.word s 2).toNat / 2) W (by omega))
  have HG2 := Lib.hid (fun (hx : Sg.word s 2 ≤ s.length) (W : World) (v : Value) (hr : Row W v (List.replicate ((Sg.word s 2).toNat / 2) 2)) => (show Calls Tryz.prog 33 #[.string ⟨(s.take (Sg.word s 2).toNat).toArray⟩, .int .i64 0, v] W (GotRow (Sg.nums s, 0) W) by
    rw [← Sg.nums_get (by omega)]; exact get_any _ 0 v _ W hr (by rw [List.length_replicate]; omega) (by rw [List.length_take]; omega) (by omega)))
  have HNl := Lib.hid (Sg.nums_len s)
  have HPn := Lib.hid (fun hx => piece_no (s := s) b2.1 hx)
  have HPo := Lib.hid (fun hx => piece_ok (s := s) b2.1 hx)
  have hmany : Sg.many s = (Sg.word s 6 / 2).toNat := rfl
  generalize Sg.many s = n at *
  generalize Sg.rerr s = y at *
  generalize Sg.nums s = ns at *
  unfold GotRow at HG HG2
  unfold Many at HM HM2
  simp only [List.length_cons, List.length_nil, Nat.zero_add, Nat.reduceAdd] at HG
  generalize Sg.word s 2 = x1 at *
  generalize Sg.word s 6 = x3 at *
  have hn : x3 / 2 = (n : Int) := by omega
  clear hmany h0
  obtain ⟨z, rfl⟩ := Int.eq_ofNat_of_zero_le b2.1
  rw [Int.toNat_natCast] at *
  go_enter Tryz.func88, Tryz.ntmps88
  go_wp2_with fail
  refine (HM.out _).mono ?_
  rintro e w1 ⟨p, c, rfl, hr, lo⟩
  have HR := Lib.hid hr
  have HL := Lib.hid (((Lo.refl w).alloc _).trans lo)
  have HB := Lib.hid (lo_block lo (new_block w _))
  clear lo hr HM
  go_wp2_with fail
  refine (HG.out _ _ HR.out).mono ?_
  rintro e w2 ⟨p2, c2, rfl, hrow, lo⟩
  have HL := Lib.hid (HL.out.trans lo)
  have HB := Lib.hid (lo_block lo HB.out)
  obtain ⟨b, off, rfl, r0, r1, r3⟩ := Row.seven hrow
  clear lo HR HG hrow
  go_wp2_with fail
  go_quiet (fail)
  have HL := Lib.hid (HL.out.drewN nq)
  have HB := Lib.hid (lo_block ((Lo.refl _).drewN nq) HB.out)
  go_wp2_with fail
  refine (HP.out _).mono ?_
  rintro e w3 ⟨rfl, lo⟩
  have HL := Lib.hid (HL.out.trans lo)
  have HB := Lib.hid (lo_block lo HB.out)
  clear lo HP r0 r1 r3
  by_cases c3 : (s.length : Int) < z
  · have HE : Hid (y = 4) := Lib.hid (by rw [HE.out, if_pos c3])
    rw [HPn.out c3]
    clear HPn HPo HG2 HM2 HLen
    obtain ⟨⟨s0, s1, s2, s3, s4⟩, q0, q1, q2, q3, q4⟩ := five_at HB.out
    unfold strErr
    go_wp2_with fail
    refine bodyPost_ret (v := .tuple #[.agg #[.slice none 0 0, .slice none 0 0, .slice none 0 0, .slice none 0 0, .slice none 0 0], .int .i64 4]) ?_ rfl ?_
    · simp [results, Tryz.results88, go_sem, s0, s1, s2, s3, s4]
    · exact .inl ⟨by rw [HE.out]; decide, by rw [HE.out]; rfl, Lo.set5 HL.out (Nat.le_refl _) _ _ _ _ _⟩
  · rw [HPo.out (by omega)]
    clear HPn HPo
    have HG3 := Lib.hid (HG2.out (by omega))
    clear HG2
    generalize s.take z = T at *
    unfold strErr
    have hz2 : (z : Int) / 2 = ((z / 2 : Nat) : Int) := by omega
    generalize hh : z / 2 = h2 at *
    have HLen1 := Lib.hid (HLen.out n (by omega))
    clear HLen
    dsimp only
    go_wp2_with fail
    refine (HLen1.out _).mono ?_
    rintro e w4 ⟨rfl, rfl⟩
    clear HLen1
    by_cases c4 : z < 16 + 8 * n
    · have HE : Hid (y = 5) := Lib.hid (by rw [HE.out, if_neg (by omega), if_pos (by omega)])
      clear HG3 HM2
      obtain ⟨⟨s0, s1, s2, s3, s4⟩, q0, q1, q2, q3, q4⟩ := five_at HB.out
      go_wp2_with fail
      refine bodyPost_ret (v := .tuple #[.agg #[.slice none 0 0, .slice none 0 0, .slice none 0 0, .slice none 0 0, .slice none 0 0], .int .i64 5]) ?_ rfl ?_
      · simp [results, Tryz.results88, go_sem, s0, s1, s2, s3, s4]
      · exact .inl ⟨by rw [HE.out]; decide, by rw [HE.out]; rfl, Lo.set5 HL.out (Nat.le_refl _) _ _ _ _ _⟩
    · have HE : Hid (y = 0) := Lib.hid (by rw [HE.out, if_neg (by omega), if_neg (by omega)])
      obtain ⟨m, hm⟩ : ∃ m, h2 = 8 + 3 * n + m := ⟨h2 - (8 + 3 * n), by omega⟩
      have HNl2 : Hid (ns.length = 8 + 3 * n + m) := Lib.hid (by rw [HNl.out, hm])
      have HC := Lib.hid (fun (b off c : Nat) (hc : h2 ≤ c) (W : World) => cut_any b off c n m W (by omega) (by omega) (by omega) (by omega))
      rw [← hm] at HC
      have hpos : 0 < h2 := by omega
      have HHp := Lib.hid hpos
      rw [HNl.out] at HG3
      have HNl3 := HNl
      clear hpos hm HNl
      go_wp2_with fail
      refine (HM2.out _).mono ?_
      rintro e w5 ⟨p5, c5, rfl, hr, lo⟩
      have HL := Lib.hid (HL.out.trans lo)
      have HB := Lib.hid (lo_block lo HB.out)
      have HR := Lib.hid hr
      clear lo hr HM2
      go_wp2_with fail
      refine (HG3.out _ _ HR.out).mono ?_
      rintro e w6 ⟨p6, c6, rfl, hrow, lo⟩
      have HL := Lib.hid (HL.out.trans lo)
      have HB := Lib.hid (lo_block lo HB.out)
      obtain ⟨b6, off6, rfl, hcc⟩ := Row.pos hrow HHp.out
      have HRow := Lib.hid hrow
      clear lo HR HG3 hrow
      have HC1 := Lib.hid (fun W => HC.out b6 off6 c6 hcc W)
      unfold aggT5 at HC1
      clear HC hcc
      go_wp2_with fail
      refine (HC1.out _).mono ?_
      rintro e w7 ⟨rfl, lo⟩
      have HL := Lib.hid (HL.out.trans lo)
      have HRow := Lib.hid (HRow.out.lo lo)
      have HNe := Lib.hid (HRow.out.ne5 HHp.out (lo_block lo HB.out))
      obtain ⟨⟨s0, s1, s2, s3, s4⟩, q0, q1, q2, q3, q4⟩ := five_at (lo_block lo HB.out)
      clear lo HB HC1
      go_wp2_with fail
      refine bodyPost_ret (v := .tuple #[.agg #[.slice (some ⟨b6, off6, none⟩) 7 7, .slice (some ⟨b6, off6 + 7, none⟩) n n, .slice (some ⟨b6, off6 + (8 + n), none⟩) n n, .slice (some ⟨b6, off6 + (8 + 2 * n), none⟩) n n, .slice (some ⟨b6, off6 + (8 + 3 * n), none⟩) m m], .int .i64 0]) ?_ rfl ?_
      · simp [results, Tryz.results88, go_sem, s0, s1, s2, s3, s4]
      · refine .inr ⟨HE.out, b6, off6, c6, m, rfl, ?_, HNl2.out, Lo.set5 HL.out (Nat.le_refl _) _ _ _ _ _⟩
        rw [HNl3.out]
        exact HRow.out.keep HHp.out (heap_set5 w7 HNe.out _ _ _ _ _)

/-- segment.read. -/
theorem read_any (s : List UInt8) (w : World) (hl : s.length ≤ 9223372036854775807) : Calls Tryz.prog 88 #[.string ⟨s.toArray⟩] w (ReadTold (Sg.rerr s) (Sg.nums s) (Sg.many s) w) := by
  by_cases c1 : s.length < 14
  · have e : Sg.rerr s = 4 := by unfold Sg.rerr; rw [if_pos c1]
    refine (read_more s w c1).mono fun _ _ h => ?_
    rw [e]
    exact .inl ⟨by decide, h⟩
  · by_cases c2 : Sg.word s 0 ≠ 4 ∨ Sg.word s 6 % 2 = 1 ∨ Sg.many s = 0
    · have e : Sg.rerr s = 5 := by unfold Sg.rerr; rw [if_neg c1, if_pos c2]
      refine (read_form s w hl (by omega) c2).mono fun _ _ h => ?_
      rw [e]
      exact .inl ⟨by decide, h⟩
    · exact read_rest s w hl (by omega) (by omega) (by omega) (by omega)
end Go.Proofs.YtppihpjcdieeoaaGreatDoor
/-
  Contracts of segment.used and segment.listed: the spans in which a rune has a glyph; one span for each rune that has a glyph. No conditions beyond those stated.
-/
namespace Sg
theorem kept_step {l : List Ch.Span} {k : Nat} (h : k < l.length) : kept (l.take (k + 1)) = kept (l.take k) ++ if hasGl (l.getD k Ch.zs) = true then [l.getD k Ch.zs] else [] := by
  rw [Ch.take_snoc h]
  unfold kept
  rw [List.filter_append]
  congr 1
  by_cases hg : hasGl (l.getD k Ch.zs) = true
  · rw [if_pos hg, List.filter_cons_of_pos hg, List.filter_nil]
  · rw [if_neg hg, List.filter_cons_of_neg hg, List.filter_nil]
theorem kept_len (l : List Ch.Span) : (kept l).length ≤ l.length := List.length_filter_le _ _
theorem gl1_mod {v d : Int} (h0 : 0 ≤ v) (h1 : v ≤ 65535) (h3 : 0 ≤ d) (h4 : d ≤ 65535) : gl1 v d = if v = 0 then 0 else (v + d) % 65536 := by
  have hp : plane (v + d) = (v + d) % 65536 := by
    unfold plane
    by_cases h : 65536 ≤ v + d
    · rw [if_pos h]; omega
    · rw [if_neg h]; omega
  unfold gl1
  rw [hp]
  by_cases hv : v = 0
  · rw [if_pos hv, if_neg (by omega)]
  · rw [if_neg hv]
    by_cases hg : 0 < (v + d) % 65536
    · rw [if_pos ⟨by omega, hg⟩]
    · rw [if_neg (by omega)]; omega
end Sg
namespace Go.Proofs.YtppihpjcdieeoaaGreatDoor
open Go.RowKit

set_option maxHeartbeats 3200000 in
theorem sused_any (v : Value) (l : List Ch.Span) (w : World) (h : SRow w v l) (hl : Ch.isL l = true) : Calls Tryz.prog 123 #[v] w fun e w' => ∃ p c, e = .returned (.slice p (Sg.kept l).length c) ∧ OwnK encS 63 4 w' w.heap.size (.slice p (Sg.kept l).length c) (Sg.kept l) ∧ Lo w w' := by
  obtain ⟨p, c, rfl, hlen⟩ := RowK.form h
  have HR := Lib.hid h
  have hm := (Ch.isL_chain hl).2
  have HM := Lib.hid (fun (i : Nat) (hi : i < l.length) => (Ch.okSpan_iff _).1 (Ch.chain_mem (Ch.isL_chain hl).1 _ (Ch.getD_mem hi)).1)
  have HSt := Lib.hid (fun (k : Nat) (h : k < l.length) => Sg.kept_step h)
  have HLe : Hid (∀ k, (Sg.kept (l.take k)).length ≤ k) := Lib.hid (fun k => Nat.le_trans (Sg.kept_len _) (List.length_take_le _ _))
  have HAll : Hid (l.take l.length = l) := Lib.hid List.take_length
  generalize hnn : l.length = n at *
  have HN := Lib.hid hnn
  clear hnn h hl
  go_enter Tryz.func123, Tryz.ntmps123
  go_wp2_with fail
  go_loopw [3, 5, 8] (fun s3 _ s8 W => ∃ (k : Nat) (L : List Ch.Span) (q : Option Addr) (d : Nat), k ≤ n ∧ s8 = .int .i64 k ∧ s3 = .slice q L.length d ∧ Hid (L = Sg.kept (l.take k)) ∧ Hid (OwnK encS 63 4 W w.heap.size (.slice q L.length d) L) ∧ Hid (Lo w W)) (fun _ _ s8 _ => n - (intOf s8).toNat)
  case atStart => exact ⟨0, [], none, 0, Nat.zero_le _, rfl, rfl, Lib.hid rfl, Lib.hid (OwnK.none _ _ _ _ _), Lib.hid (Lo.refl _)⟩
  case round =>
    obtain ⟨k, L, q, d, hk, rfl, rfl, HT, HO, HL⟩ := hrel
    by_cases hlt : k < n
    · have hk' : k < l.length := by rw [HN.out]; exact hlt
      obtain ⟨b, off, rfl, r0, r1, r2, r3⟩ := SRow.at4 (RowK.lo HR.out HL.out) (Ch.getD_some hk')
      clear hk'
      obtain ⟨a1, a2, a3, a4, a5, a6, a7, a8⟩ := HM.out k hlt
      have HS1 := Lib.hid (HSt.out k hlt)
      have HLk : Hid (L.length ≤ k) := Lib.hid (by rw [HT.out]; exact HLe.out k)
      rw [← HT.out] at HS1
      generalize l.getD k Ch.zs = x at *
      obtain ⟨fr, tt, gl, st⟩ := x
      dsimp only at a1 a2 a3 a4 a5 a6 a7 a8 r0 r1 r2 r3
      clear a8 HT
      have HSZ := Lib.hid HL.out.size
      rcases (show st = 0 ∨ st = 1 by omega) with rfl | rfl
      · by_cases hu : 0 < gl
        · have HT2 : Hid (L ++ [⟨fr, tt, gl, 0⟩] = Sg.kept (l.take (k + 1))) := Lib.hid (by rw [HS1.out, if_pos (by simp [Sg.hasGl]; omega)])
          clear HS1
          go_wp2_with (at_builtin; refine wpList_appK _ rfl (.tmp 24) (.tmp 26) _ rfl 63 4 32 _ Tryz.underlying22 api_info rfl (by omega) (by omega) encS_len encS_one w.heap.size (.slice q L.length d) L rfl (OwnK.lo HO.out (((Lo.refl _).alloc _).alloc _)) _ [⟨fr, tt, gl, 0⟩] rfl (srow1 _ _ (by simp) ⟨fr, tt, gl, 0⟩ _) (by have := HLk.out; simp; omega) (by have := HSZ.out; simp; omega) ?_; intro q1 d1 w4 hown hlo; have HO4 := Lib.hid hown; have HL4 := Lib.hid (hlo w ((HL.out.alloc _).alloc _) (Nat.le_refl _)); clear hown hlo)
          go_roundw
          case rel => exact ⟨k + 1, L ++ [⟨fr, tt, gl, 0⟩], q1, d1, by omega, by go_num, by simp, HT2, by simpa using HO4, HL4⟩
          case measure => simp [intOf]; omega
        · have HT2 : Hid (L = Sg.kept (l.take (k + 1))) := Lib.hid (by rw [HS1.out, if_neg (by simp [Sg.hasGl]; omega), List.append_nil])
          have HO4 := Lib.hid (OwnK.lo HO.out ((Lo.refl wr).alloc (.cells #[.int .i64 fr, .int .i64 tt, .int .i64 gl, .int .i64 0] 63)))
          have HL4 := Lib.hid (HL.out.alloc (.cells #[.int .i64 fr, .int .i64 tt, .int .i64 gl, .int .i64 0] 63))
          clear HS1
          go_wp2_with fail
          go_roundw
          case rel => exact ⟨k + 1, L, q, d, by omega, by go_num, rfl, HT2, HO4, HL4⟩
          case measure => simp [intOf]; omega
      · by_cases hu : 0 < gl + (tt - fr)
        · have HT2 : Hid (L ++ [⟨fr, tt, gl, 1⟩] = Sg.kept (l.take (k + 1))) := Lib.hid (by rw [HS1.out, if_pos (by simp [Sg.hasGl]; omega)])
          clear HS1
          go_wp2_with (at_builtin; refine wpList_appK _ rfl (.tmp 24) (.tmp 26) _ rfl 63 4 32 _ Tryz.underlying22 api_info rfl (by omega) (by omega) encS_len encS_one w.heap.size (.slice q L.length d) L rfl (OwnK.lo HO.out (((Lo.refl _).alloc _).alloc _)) _ [⟨fr, tt, gl, 1⟩] rfl (srow1 _ _ (by simp) ⟨fr, tt, gl, 1⟩ _) (by have := HLk.out; simp; omega) (by have := HSZ.out; simp; omega) ?_; intro q1 d1 w4 hown hlo; have HO4 := Lib.hid hown; have HL4 := Lib.hid (hlo w ((HL.out.alloc _).alloc _) (Nat.le_refl _)); clear hown hlo)
          go_roundw
          case rel => exact ⟨k + 1, L ++ [⟨fr, tt, gl, 1⟩], q1, d1, by omega, by go_num, by simp, HT2, by simpa using HO4, HL4⟩
          case measure => simp [intOf]; omega
        · have HT2 : Hid (L = Sg.kept (l.take (k + 1))) := Lib.hid (by rw [HS1.out, if_neg (by simp [Sg.hasGl]; omega), List.append_nil])
          have HO4 := Lib.hid (OwnK.lo HO.out ((Lo.refl wr).alloc (.cells #[.int .i64 fr, .int .i64 tt, .int .i64 gl, .int .i64 1] 63)))
          have HL4 := Lib.hid (HL.out.alloc (.cells #[.int .i64 fr, .int .i64 tt, .int .i64 gl, .int .i64 1] 63))
          clear HS1
          go_wp2_with fail
          go_roundw
          case rel => exact ⟨k + 1, L, q, d, by omega, by go_num, rfl, HT2, HO4, HL4⟩
          case measure => simp [intOf]; omega
    · obtain rfl : k = n := by omega
      have HE : Hid (L = Sg.kept l) := Lib.hid (by rw [HT.out, HAll.out])
      go_wp2_with fail
      go_ret
      exact ⟨q, d, by rw [← HE.out]; rfl, by rw [← HE.out]; exact HO.out, HL.out⟩

set_option maxHeartbeats 1600000 in
theorem listed_any (a d : Int) (vs : List Int) (v : Value) (w : World) (hr : Row w v vs) (hn : vs.length ≤ 100000) (ha : 0 ≤ a) (ha2 : a ≤ 1000000) (hd : 0 ≤ d) (hd2 : d ≤ 65535) (hvs : ∀ i, i < vs.length → 0 ≤ vs.getD i 0 ∧ vs.getD i 0 ≤ 65535) :
    Calls Tryz.prog 122 #[.int .i64 a, .int .i64 d, v] w (GotSpans (Ch.spansL a (vs.map fun x => Sg.gl1 x d)) w) := by
  obtain ⟨p, c, rfl, hlen⟩ := hr.form
  have HR := Lib.hid hr
  have hml : (vs.map fun x => Sg.gl1 x d).length = vs.length := by simp
  have HAll : Hid ((vs.map fun x => Sg.gl1 x d).take vs.length = vs.map fun x => Sg.gl1 x d) := Lib.hid (by rw [← hml, List.take_length])
  have HGet := Lib.hid (fun (k : Nat) (h : k < vs.length) => (show (vs.map fun x => Sg.gl1 x d).getD k 0 = if vs.getD k 0 = 0 then 0 else (vs.getD k 0 + d) % 65536 by
    rw [← Sg.gl1_mod (hvs k h).1 (hvs k h).2 hd hd2]; simp [List.getD, List.getElem?_eq_getElem h]))
  have HVs := Lib.hid hvs
  generalize vs.map (fun x => Sg.gl1 x d) = gs at *
  have HSt := Lib.hid (fun (k : Nat) (h : k < vs.length) => Ch.spansL_step (l := gs) (k := k) (by omega) a)
  have HLe : Hid (∀ k, (Ch.spansL a (gs.take k)).length ≤ k) := Lib.hid (fun k => Nat.le_trans (Ch.spansL_len _ _) (List.length_take_le _ _))
  have HW := Lib.hid (fun (x : Int) (W : World) => wrapped_any x W)
  generalize hnn : vs.length = n at *
  have HN := Lib.hid hnn
  clear hnn hr hml hvs
  unfold GotSpans
  go_enter Tryz.func122, Tryz.ntmps122
  go_wp2_with fail
  go_loopw [7, 8, 9, 10, 11, 14] (fun s7 _ _ _ _ s14 W => ∃ (k : Nat) (L : List Ch.Span) (q : Option Addr) (e : Nat), k ≤ n ∧ s14 = .int .i64 k ∧ s7 = .slice q L.length e ∧ Hid (L = Ch.spansL a (gs.take k)) ∧ Hid (OwnK encS 63 4 W w.heap.size (.slice q L.length e) L) ∧ Hid (Lo w W)) (fun _ _ _ _ _ s14 _ => n - (intOf s14).toNat)
  case atStart => exact ⟨0, [], none, 0, Nat.zero_le _, rfl, rfl, Lib.hid rfl, Lib.hid (OwnK.none _ _ _ _ _), Lib.hid (Lo.refl _)⟩
  case round =>
    obtain ⟨k, L, q, e, hk, rfl, rfl, HT, HO, HL⟩ := hrel
    by_cases hlt : k < n
    · obtain ⟨b, off, rfl, hcell⟩ := (HR.out.lo HL.out).at_ hlt
      have HS1 := Lib.hid (HSt.out k hlt)
      have HLk : Hid (L.length ≤ k) := Lib.hid (by rw [HT.out]; exact HLe.out k)
      have HSZ := Lib.hid HL.out.size
      obtain ⟨v0, v1⟩ := HVs.out k hlt
      rw [← HT.out, HGet.out k hlt] at HS1
      generalize vs.getD k 0 = x at *
      have HW1 := Lib.hid (HW.out (x + d))
      have HX : Hid ((x + d) % 65536 ≤ 65535 ∧ 0 ≤ (x + d) % 65536) := Lib.hid (by omega)
      generalize (x + d) % 65536 = g at *
      by_cases hx : x = 0
      · have HT2 : Hid (L = Ch.spansL a (gs.take (k + 1))) := Lib.hid (by rw [HS1.out, if_pos hx, if_pos rfl, List.append_nil])
        subst hx
        rw [Int.zero_add] at HW1
        clear HS1 HT
        go_wp2_with fail
        refine (HW1.out _).mono ?_
        rintro e' w3 ⟨rfl, rfl⟩
        go_wp2_with fail
        go_roundw
        case rel => exact ⟨k + 1, L, q, e, by omega, by go_num, rfl, HT2, HO, HL⟩
        case measure => simp [intOf]; omega
      · rw [if_neg hx] at HS1
        by_cases hg : g = 0
        · have HT2 : Hid (L = Ch.spansL a (gs.take (k + 1))) := Lib.hid (by rw [HS1.out, if_pos hg, List.append_nil])
          subst hg
          clear HS1 HT
          go_wp2_with fail
          refine (HW1.out _).mono ?_
          rintro e' w3 ⟨rfl, rfl⟩
          go_wp2_with fail
          all_goals
            go_roundw
            case rel => exact ⟨k + 1, L, q, e, by omega, by go_num, rfl, HT2, HO, HL⟩
            case measure => simp [intOf]; omega
        · have HT2 : Hid (L ++ [⟨a + k, a + k, g, 1⟩] = Ch.spansL a (gs.take (k + 1))) := Lib.hid (by rw [HS1.out, if_neg hg])
          clear HS1 HT
          go_wp2_with fail
          refine (HW1.out _).mono ?_
          rintro e' w3 ⟨rfl, rfl⟩
          go_wp2_with (at_builtin; refine wpList_appK _ rfl (.tmp 32) (.tmp 37) _ rfl 63 4 32 _ Tryz.underlying22 api_info rfl (by omega) (by omega) encS_len encS_one w.heap.size (.slice q L.length e) L rfl (OwnK.lo HO.out ((Lo.refl _).alloc _)) _ [⟨a + k, a + k, g, 1⟩] rfl (srow1 _ _ rfl ⟨a + k, a + k, g, 1⟩ _) (by have := HLk.out; simp; omega) (by have := HSZ.out; simp; omega) ?_; intro q1 d1 w3 hown hlo; have HO3 := Lib.hid hown; have HL3 := Lib.hid (hlo w (HL.out.alloc _) (Nat.le_refl _)); clear hown hlo)
          all_goals first | (exfalso; rename_i hb; simp [hx, hg] at hb; done) | skip
          go_roundw
          case rel => exact ⟨k + 1, L ++ [⟨a + k, a + k, g, 1⟩], q1, d1, by omega, by go_num, by simp, HT2, by simpa using HO3, HL3⟩
          case measure => simp [intOf]; omega
    · obtain rfl : k = n := by omega
      have HE : Hid (L = Ch.spansL a gs) := Lib.hid (by rw [HT.out, HAll.out])
      go_wp2_with fail
      go_ret
      exact ⟨q, e, by rw [← HE.out]; rfl, by rw [← HE.out]; exact OwnK.row encS_len HO.out, HL.out⟩
end Go.Proofs.YtppihpjcdieeoaaGreatDoor

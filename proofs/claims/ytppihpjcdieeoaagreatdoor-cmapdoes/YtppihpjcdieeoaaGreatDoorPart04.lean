/-
  Facts that the walks rest on: ChBase, Shelf, GlRepeat, ChGot, ChRep. No conditions beyond those stated.
-/
import Derived.Test.YtppihpjcdieeoaaGreatDoorGround
import Derived.Test.YtppihpjcdieeoaaGreatDoorChFacts
import Derived.Shelf.Strings.Builder1
import Derived.Shelf.Small.Bits
import Derived.Shelf.Strings.BuilderF
import Derived.Shelf.Strings.BuilderK
import Derived.Shelf.Strconv.Itoa0
import Derived.Shelf.Bits.Mul64
import Derived.Shelf.Strings.BuilderCap
import Derived.Test.YtppihpjcdieeoaaGreatDoorProg
import Derived.Test.YtppihpjcdieeoaaGreatDoorPart02
import Derived.Laws.CopyOwn
import Derived.Laws.OwnMore
import Derived.Test.YtppihpjcdieeoaaGreatDoorPart03
/-
  Contracts of package chart's small functions: spans in memory, the methods of a span, Is. No conditions beyond those stated.
-/
namespace Go.Proofs.YtppihpjcdieeoaaGreatDoor
open Go.RowKit

/-- A span's cells. -/
def encS (x : Ch.Span) : List Value := [.int .i64 x.fr, .int .i64 x.to, .int .i64 x.gl, .int .i64 x.st]
def aggS (x : Ch.Span) : Value := .agg #[.int .i64 x.fr, .int .i64 x.to, .int .i64 x.gl, .int .i64 x.st]
theorem encS_len (x : Ch.Span) : (encS x).length = 4 := rfl
theorem encS_one (x : Ch.Span) : ∀ u ∈ encS x, u.oneCell' = true := by
  intro u hu
  simp only [encS, List.mem_cons, List.not_mem_nil, or_false] at hu
  rcases hu with rfl | rfl | rfl | rfl <;> rfl
abbrev SRow (w : World) (v : Value) (l : List Ch.Span) : Prop := RowK encS 4 w v l
theorem SRow.at4 {w : World} {p : Option Addr} {n c : Nat} {l : List Ch.Span} (h : SRow w (.slice p n c) l) {i : Nat} {x : Ch.Span} (hx : l[i]? = some x) :
    ∃ b off, p = some ⟨b, off, none⟩ ∧ w.cell? ⟨b, off + i * 4, none⟩ = some (.int .i64 x.fr) ∧ w.cell? ⟨b, off + i * 4 + 1, none⟩ = some (.int .i64 x.to) ∧ w.cell? ⟨b, off + i * 4 + 2, none⟩ = some (.int .i64 x.gl) ∧ w.cell? ⟨b, off + i * 4 + 3, none⟩ = some (.int .i64 x.st) := by
  obtain ⟨b, off, h1, h2⟩ := RowK.at_ h hx
  exact ⟨b, off, h1, h2 0 (by omega), h2 1 (by omega), h2 2 (by omega), h2 3 (by omega)⟩
theorem api_info : (Tryz.prog.info? 63).map (fun i => (i.zero, i.size, i.bytes)) = some (some (.agg #[.int .i64 0, .int .i64 0, .int .i64 0, .int .i64 0]), 4, 32) := by kernel_rfl
theorem span_info : (Tryz.prog.info? 66).map (fun i => (i.zero, i.size, i.bytes)) = some (some (.agg #[.int .i64 0, .int .i64 0, .int .i64 0, .int .i64 0]), 4, 32) := by kernel_rfl
/-- A slice of one span that is laid anew. -/
theorem srow1 (w : World) (B : Nat) (hB : B = w.heap.size) (x : Ch.Span) (ty : Nat) : SRow (w.alloc (.cells #[.int .i64 x.fr, .int .i64 x.to, .int .i64 x.gl, .int .i64 x.st] ty)) (.slice (some ⟨B, 0, none⟩) 1 1) [x] :=
  hB ▸ .inr ⟨w.heap.size, 0, 1, rfl, by simp, by simp, by simp, fun i z hz j hj => by
    have hi : i < 1 := (List.getElem?_eq_some_iff.1 hz).1
    obtain rfl : i = 0 := by omega
    simp at hz
    subst hz
    obtain rfl | rfl | rfl | rfl : j = 0 ∨ j = 1 ∨ j = 2 ∨ j = 3 := by omega
    all_goals simp [go_sem, encS]⟩
theorem srow2 (w : World) (x y : Ch.Span) (ty : Nat) : SRow (w.alloc (.cells #[.int .i64 x.fr, .int .i64 x.to, .int .i64 x.gl, .int .i64 x.st, .int .i64 y.fr, .int .i64 y.to, .int .i64 y.gl, .int .i64 y.st] ty)) (.slice (some ⟨w.heap.size, 0, none⟩) 2 2) [x, y] :=
  .inr ⟨w.heap.size, 0, 2, rfl, by simp, by simp, by simp, fun i z hz j hj => by
    have hi : i < 2 := (List.getElem?_eq_some_iff.1 hz).1
    obtain rfl | rfl : i = 0 ∨ i = 1 := by omega
    all_goals
      simp at hz
      subst hz
      obtain rfl | rfl | rfl | rfl : j = 0 ∨ j = 1 ∨ j = 2 ∨ j = 3 := by omega
      all_goals simp [go_sem, encS]⟩
theorem srow3 (w : World) (x y t : Ch.Span) (ty : Nat) : SRow (w.alloc (.cells #[.int .i64 x.fr, .int .i64 x.to, .int .i64 x.gl, .int .i64 x.st, .int .i64 y.fr, .int .i64 y.to, .int .i64 y.gl, .int .i64 y.st, .int .i64 t.fr, .int .i64 t.to, .int .i64 t.gl, .int .i64 t.st] ty)) (.slice (some ⟨w.heap.size, 0, none⟩) 3 3) [x, y, t] :=
  .inr ⟨w.heap.size, 0, 3, rfl, by simp, by simp, by simp, fun i z hz j hj => by
    have hi : i < 3 := (List.getElem?_eq_some_iff.1 hz).1
    obtain rfl | rfl | rfl : i = 0 ∨ i = 1 ∨ i = 2 := by omega
    all_goals
      simp at hz
      subst hz
      obtain rfl | rfl | rfl | rfl : j = 0 ∨ j = 1 ∨ j = 2 ∨ j = 3 := by omega
      all_goals simp [go_sem, encS]⟩

set_option maxHeartbeats 800000 in
theorem glyph_any (x : Ch.Span) (c : Int) (w : World) (h1 : 0 ≤ x.fr) (h2 : x.fr ≤ 1114111) (h3 : 0 ≤ x.st) (h4 : x.st ≤ 1) (h5 : 0 ≤ x.gl) (h6 : x.gl ≤ 65535) (h7 : 0 ≤ c) (h8 : c ≤ 1114111) :
    Calls Tryz.prog 44 #[aggS x, .int .i64 c] w fun e w' => e = .returned (.int .i64 (Ch.glyphOf x c)) ∧ Lo w w' := by
  obtain ⟨fr, tt, gl, st⟩ := x
  unfold aggS Ch.glyphOf
  dsimp only at *
  rcases (show st = 0 ∨ st = 1 by omega) with rfl | rfl
  · go_enter Tryz.func44, Tryz.ntmps44
    go_wp2_with fail
    go_ret
    refine ⟨ret_int ?_, (Lo.refl w).alloc _⟩
    first | omega | (simp [IntKind.wrap_i64]; omega) | (unfold wrap64; omega)
  · go_enter Tryz.func44, Tryz.ntmps44
    go_wp2_with fail
    go_ret
    refine ⟨ret_int ?_, (Lo.refl w).alloc _⟩
    first | omega | (simp [IntKind.wrap_i64]; omega) | (unfold wrap64; omega)

theorem glyph_ok {x : Ch.Span} (h : Ch.okSpan x = true) (c : Int) (w : World) (h7 : 0 ≤ c) (h8 : c ≤ 1114111) :
    Calls Tryz.prog 44 #[aggS x, .int .i64 c] w fun e w' => e = .returned (.int .i64 (Ch.glyphOf x c)) ∧ Lo w w' := by
  obtain ⟨a1, a2, a3, a4, a5, a6, a7, a8⟩ := (Ch.okSpan_iff x).1 h
  exact glyph_any x c w a1 (by omega) a4 a5 a6 a7 h7 h8

set_option maxHeartbeats 3200000 in
theorem valid_any (x : Ch.Span) (w : World) : Calls Tryz.prog 41 #[aggS x] w fun e w' => e = .returned (.bool (Ch.okSpan x)) ∧ Lo w w' := by
  by_cases h1 : x.fr < 0 ∨ x.to < x.fr ∨ 1114111 < x.to ∨ x.st < 0 ∨ 1 < x.st
  · have HE : Hid (Ch.okSpan x = false) := Lib.hid (by
      rw [Bool.eq_false_iff, ne_eq, Ch.okSpan_iff]
      omega)
    obtain ⟨fr, tt, gl, st⟩ := x
    generalize Ch.okSpan _ = y at *
    unfold aggS
    dsimp only at *
    by_cases c1 : fr < 0
    · go_enter Tryz.func41, Tryz.ntmps41
      go_wp2_with fail
      go_ret
      exact ⟨ret_bool (by rw [HE.out]), (Lo.refl w).alloc _⟩
    · by_cases c2 : tt < fr
      · go_enter Tryz.func41, Tryz.ntmps41
        go_wp2_with fail
        go_ret
        exact ⟨ret_bool (by rw [HE.out]), (Lo.refl w).alloc _⟩
      · by_cases c3 : 1114111 < tt
        · go_enter Tryz.func41, Tryz.ntmps41
          go_wp2_with fail
          go_ret
          exact ⟨ret_bool (by rw [HE.out]), (Lo.refl w).alloc _⟩
        · by_cases c4 : st < 0
          · go_enter Tryz.func41, Tryz.ntmps41
            go_wp2_with fail
            go_ret
            exact ⟨ret_bool (by rw [HE.out]), (Lo.refl w).alloc _⟩
          · have c5 : 1 < st := by omega
            go_enter Tryz.func41, Tryz.ntmps41
            go_wp2_with fail
            go_ret
            exact ⟨ret_bool (by rw [HE.out]), (Lo.refl w).alloc _⟩
  · by_cases h2 : 0 ≤ x.gl ∧ x.gl ≤ 65535
    · have HG := Lib.hid (fun W => glyph_any x x.to W (by omega) (by omega) (by omega) (by omega) h2.1 h2.2 (by omega) (by omega))
      have HE : Hid (Ch.okSpan x = decide (Ch.glyphOf x x.to ≤ 65535)) := Lib.hid (by
        rw [Bool.eq_iff_iff, Ch.okSpan_iff, decide_eq_true_eq]
        unfold Ch.glyphOf
        constructor
        · intro h; exact h.2.2.2.2.2.2.2
        · intro h; exact ⟨by omega, by omega, by omega, by omega, by omega, by omega, by omega, h⟩)
      obtain ⟨fr, tt, gl, st⟩ := x
      generalize Ch.okSpan _ = y at *
      generalize Ch.glyphOf _ _ = g at *
      unfold aggS at *
      dsimp only at *
      obtain ⟨h2, h3⟩ := h2
      have c1 : ¬ fr < 0 := by omega
      have c2 : ¬ tt < fr := by omega
      have c3 : ¬ 1114111 < tt := by omega
      have c4 : ¬ st < 0 := by omega
      have c5 : ¬ 1 < st := by omega
      clear h1
      go_enter Tryz.func41, Tryz.ntmps41
      go_wp2_with fail
      refine (HG.out _).mono ?_
      rintro e w1 ⟨rfl, lo⟩
      go_wp2_with fail
      go_ret
      exact ⟨ret_bool (by rw [HE.out]), ((Lo.refl w).alloc _).trans lo⟩
    · have HE : Hid (Ch.okSpan x = false) := Lib.hid (by
        rw [Bool.eq_false_iff, ne_eq, Ch.okSpan_iff]
        omega)
      obtain ⟨fr, tt, gl, st⟩ := x
      generalize Ch.okSpan _ = y at *
      unfold aggS
      dsimp only at *
      have c1 : ¬ fr < 0 := by omega
      have c2 : ¬ tt < fr := by omega
      have c3 : ¬ 1114111 < tt := by omega
      have c4 : ¬ st < 0 := by omega
      have c5 : ¬ 1 < st := by omega
      clear h1
      by_cases c6 : 0 ≤ gl
      · have c7 : ¬ gl ≤ 65535 := by omega
        clear h2
        go_enter Tryz.func41, Tryz.ntmps41
        go_wp2_with fail
        go_ret
        exact ⟨ret_bool (by rw [HE.out]), (Lo.refl w).alloc _⟩
      · clear h2
        go_enter Tryz.func41, Tryz.ntmps41
        go_wp2_with fail
        go_ret
        exact ⟨ret_bool (by rw [HE.out]), (Lo.refl w).alloc _⟩

set_option maxHeartbeats 400000 in
theorem reaches_any (x : Ch.Span) (c : Int) (w : World) : Calls Tryz.prog 43 #[aggS x, .int .i64 c] w fun e w' => e = .returned (.bool (decide (c ≤ x.to))) ∧ Lo w w' := by
  obtain ⟨fr, tt, gl, st⟩ := x
  unfold aggS
  dsimp only
  go_enter Tryz.func43, Tryz.ntmps43
  go_wp2_with fail
  go_ret
  exact ⟨rfl, (Lo.refl w).alloc _⟩

end Go.Proofs.YtppihpjcdieeoaaGreatDoor
/-
  The kit's contracts of Go's library, laid at this program by its own tool. Each contract's conditions are its premises.
-/
namespace Go.Proofs
open Go.Shelf
def Tryz.lays169_ren : Go.Shelf.Ren := ⟨fun | 169 => 72 | n => n, fun | 70 => 87 | 9 => 9 | 0 => 0 | 72 => 89 | 37 => 70 | 127 => 131 | 3 => 3 | 5 => 5 | n => n, fun | n => n⟩
theorem Tryz.lays169 : Go.Proofs.Lays.n169 Tryz.prog Tryz.lays169_ren := {
  mixed := by kernel_rfl
  f169 := Tryz.func72.trans (congrArg some (by kernel_rfl))
  t0 := Tryz.underlying0
  a0 := Tryz.isAgg0
  z0 := Tryz.sizeOf0
  v0 := Tryz.zeroValue0
  t3 := Tryz.underlying3
  a3 := Tryz.isAgg3
  z3 := Tryz.sizeOf3
  v3 := Tryz.zeroValue3
  t9 := Tryz.underlying9
  a9 := Tryz.isAgg9
  z9 := Tryz.sizeOf9
  v9 := Tryz.zeroValue9
  t37 := Tryz.underlying70
  a37 := Tryz.isAgg70
  z37 := Tryz.sizeOf70
  v37 := Tryz.zeroValue70
  t70 := Tryz.underlying87
  a70 := Tryz.isAgg87
  z70 := Tryz.sizeOf87
  v70 := Tryz.zeroValue87
  t72 := Tryz.underlying89
  a72 := Tryz.isAgg89
  z72 := Tryz.sizeOf89
  v72 := Tryz.zeroValue89
  t127 := Tryz.underlying131
  a127 := Tryz.isAgg131
  z127 := Tryz.sizeOf131
  v127 := Tryz.zeroValue131 }
theorem Tryz.Builder_Extra_169 : Builder.Extra Tryz.prog Tryz.lays169_ren := {
  sizeBuilder := by kernel_rfl
  liesBuilder := by kernel_rfl
  t5 := Tryz.underlying5
  a5 := Tryz.isAgg5
  z5 := Tryz.sizeOf5
  v5 := Tryz.zeroValue5
  infoByte := by kernel_rfl
  cellsByte := by kernel_rfl
  sizeByte := by kernel_rfl
  neB5 := by decide }
open Go.RowKit in
theorem Tryz.Builder_String (B b : Nat) (l : List UInt8) (w : World) (h : Lib.IsBuilder 89 5 B b (Lib.byteCells l) w) (h0 : l ≠ []) :
    Calls Tryz.prog 72 #[.pointer (some ⟨b, 0, none⟩)] w fun e w' => e = .returned (.string ⟨l.toArray⟩) ∧ Below B w w' := Any.Builder_String Tryz.lays169 Tryz.Builder_Extra_169 B b l w h h0
open Go.RowKit in
theorem Tryz.Builder_String_empty (B b : Nat) (w : World) (h : Lib.IsBuilder 89 5 B b [] w) (hBw : B ≤ w.heap.size) :
    Calls Tryz.prog 72 #[.pointer (some ⟨b, 0, none⟩)] w fun e w' => e = .returned (.string ⟨#[]⟩) ∧ Below B w w' := Any.Builder_String_empty Tryz.lays169 Tryz.Builder_Extra_169 B b w h hBw
open Go.RowKit in
theorem Tryz.Builder_String_any (B b : Nat) (l : List UInt8) (w : World) (h : Lib.IsBuilder 89 5 B b (Lib.byteCells l) w) (hBw : B ≤ w.heap.size) :
    Calls Tryz.prog 72 #[.pointer (some ⟨b, 0, none⟩)] w fun e w' => e = .returned (.string ⟨l.toArray⟩) ∧ Below B w w' := Any.Builder_String_any Tryz.lays169 Tryz.Builder_Extra_169 B b l w h hBw
def Tryz.lays128_ren : Go.Shelf.Ren := ⟨fun | 128 => 142 | n => n, fun | 51 => 154 | 3 => 3 | 4 => 4 | 46 => 129 | 5 => 5 | 9 => 9 | n => n, fun | n => n⟩
theorem Tryz.lays128 : Go.Proofs.Lays.n128 Tryz.prog Tryz.lays128_ren := {
  mixed := by kernel_rfl
  f128 := Tryz.func142.trans (congrArg some (by kernel_rfl))
  t3 := Tryz.underlying3
  a3 := Tryz.isAgg3
  z3 := Tryz.sizeOf3
  v3 := Tryz.zeroValue3
  t4 := Tryz.underlying4
  a4 := Tryz.isAgg4
  z4 := Tryz.sizeOf4
  v4 := Tryz.zeroValue4
  t5 := Tryz.underlying5
  a5 := Tryz.isAgg5
  z5 := Tryz.sizeOf5
  v5 := Tryz.zeroValue5
  t9 := Tryz.underlying9
  a9 := Tryz.isAgg9
  z9 := Tryz.sizeOf9
  v9 := Tryz.zeroValue9
  t46 := Tryz.underlying129
  a46 := Tryz.isAgg129
  z46 := Tryz.sizeOf129
  v46 := Tryz.zeroValue129
  t51 := Tryz.underlying154
  a51 := Tryz.isAgg154
  z51 := Tryz.sizeOf154
  v51 := Tryz.zeroValue154 }
theorem Tryz.bits_Len32 (x : Int) (w : World) (h0 : 0 ≤ x) (h1 : x ≤ 4294967295) :
    Calls Tryz.prog 142 #[.int .u32 x] w fun e w' => e = .returned (.int .i64 (Lib.bitLen x.toNat)) ∧ w' = w := Any.bits_Len32 Tryz.lays128 x w h0 h1
def Tryz.lays125_ren : Go.Shelf.Ren := ⟨fun | 125 => 126 | 128 => 142 | 129 => 143 | n => n, fun | 46 => 129 | 3 => 3 | 51 => 154 | 53 => 156 | 4 => 4 | 5 => 5 | 9 => 9 | n => n, fun | n => n⟩
theorem Tryz.lays125 : Go.Proofs.Lays.n125 Tryz.prog Tryz.lays125_ren := {
  mixed := by kernel_rfl
  f125 := Tryz.func126.trans (congrArg some (by kernel_rfl))
  f128 := Tryz.func142.trans (congrArg some (by kernel_rfl))
  f129 := Tryz.func143.trans (congrArg some (by kernel_rfl))
  t3 := Tryz.underlying3
  a3 := Tryz.isAgg3
  z3 := Tryz.sizeOf3
  v3 := Tryz.zeroValue3
  t4 := Tryz.underlying4
  a4 := Tryz.isAgg4
  z4 := Tryz.sizeOf4
  v4 := Tryz.zeroValue4
  t5 := Tryz.underlying5
  a5 := Tryz.isAgg5
  z5 := Tryz.sizeOf5
  v5 := Tryz.zeroValue5
  t9 := Tryz.underlying9
  a9 := Tryz.isAgg9
  z9 := Tryz.sizeOf9
  v9 := Tryz.zeroValue9
  t46 := Tryz.underlying129
  a46 := Tryz.isAgg129
  z46 := Tryz.sizeOf129
  v46 := Tryz.zeroValue129
  t51 := Tryz.underlying154
  a51 := Tryz.isAgg154
  z51 := Tryz.sizeOf154
  v51 := Tryz.zeroValue154
  t53 := Tryz.underlying156
  a53 := Tryz.isAgg156
  z53 := Tryz.sizeOf156
  v53 := Tryz.zeroValue156 }
theorem Tryz.bits_Len (x : Int) (w : World) (h0 : 0 ≤ x) (h1 : x ≤ 18446744073709551615) :
    Calls Tryz.prog 126 #[.int .u64 x] w fun e w' => e = .returned (.int .i64 (Lib.bitLen x.toNat)) ∧ w' = w := Any.bits_Len Tryz.lays125 x w h0 h1
open Go.RowKit in
theorem Tryz.Builder_String_f (B b : Nat) (l : List UInt8) (w : World) (h : Lib.IsBuilderF 89 5 B b (Lib.byteCells l) w) (h0 : l ≠ []) :
    Calls Tryz.prog 72 #[.pointer (some ⟨b, 0, none⟩)] w fun e w' => e = .returned (.string ⟨l.toArray⟩) ∧ (Lib.IsBuilderF 89 5 B b (Lib.byteCells l) w' ∧ Below B w w') := Any.Builder_String_f Tryz.lays169 Tryz.Builder_Extra_169 B b l w h h0
open Go.RowKit in
theorem Tryz.Builder_String_empty_f (B b : Nat) (w : World) (h : Lib.IsBuilderF 89 5 B b [] w) (hBw : B ≤ w.heap.size) :
    Calls Tryz.prog 72 #[.pointer (some ⟨b, 0, none⟩)] w fun e w' => e = .returned (.string ⟨#[]⟩) ∧ (Lib.IsBuilderF 89 5 B b [] w' ∧ Below B w w') := Any.Builder_String_empty_f Tryz.lays169 Tryz.Builder_Extra_169 B b w h hBw
open Go.RowKit in
theorem Tryz.Builder_String_any_f (B b : Nat) (l : List UInt8) (w : World) (h : Lib.IsBuilderF 89 5 B b (Lib.byteCells l) w) (hBw : B ≤ w.heap.size) :
    Calls Tryz.prog 72 #[.pointer (some ⟨b, 0, none⟩)] w fun e w' => e = .returned (.string ⟨l.toArray⟩) ∧ (Lib.IsBuilderF 89 5 B b (Lib.byteCells l) w' ∧ Below B w w') := Any.Builder_String_any_f Tryz.lays169 Tryz.Builder_Extra_169 B b l w h hBw
open Go.RowKit in
theorem Tryz.Builder_String_k (B b : Nat) (l : List UInt8) (w : World) (h : Lib.IsBuilderF 89 5 B b (Lib.byteCells l) w) (h0 : l ≠ []) :
    Calls Tryz.prog 72 #[.pointer (some ⟨b, 0, none⟩)] w fun e w' => e = .returned (.string ⟨l.toArray⟩) ∧ (Lib.IsBuilderF 89 5 B b (Lib.byteCells l) w' ∧ Below B w w' ∧ Lib.OthersKept 5 (some b) w w') := Any.Builder_String_k Tryz.lays169 Tryz.Builder_Extra_169 B b l w h h0
open Go.RowKit in
theorem Tryz.Builder_String_empty_k (B b : Nat) (w : World) (h : Lib.IsBuilderF 89 5 B b [] w) (hBw : B ≤ w.heap.size) :
    Calls Tryz.prog 72 #[.pointer (some ⟨b, 0, none⟩)] w fun e w' => e = .returned (.string ⟨#[]⟩) ∧ (Lib.IsBuilderF 89 5 B b [] w' ∧ Below B w w' ∧ Lib.OthersKept 5 (some b) w w') := Any.Builder_String_empty_k Tryz.lays169 Tryz.Builder_Extra_169 B b w h hBw
open Go.RowKit in
theorem Tryz.Builder_String_any_k (B b : Nat) (l : List UInt8) (w : World) (h : Lib.IsBuilderF 89 5 B b (Lib.byteCells l) w) (hBw : B ≤ w.heap.size) :
    Calls Tryz.prog 72 #[.pointer (some ⟨b, 0, none⟩)] w fun e w' => e = .returned (.string ⟨l.toArray⟩) ∧ (Lib.IsBuilderF 89 5 B b (Lib.byteCells l) w' ∧ Below B w w' ∧ Lib.OthersKept 5 (some b) w w') := Any.Builder_String_any_k Tryz.lays169 Tryz.Builder_Extra_169 B b l w h hBw
def Tryz.lays129_ren : Go.Shelf.Ren := ⟨fun | 129 => 143 | n => n, fun | 53 => 156 | 3 => 3 | 4 => 4 | 46 => 129 | 5 => 5 | 9 => 9 | n => n, fun | n => n⟩
theorem Tryz.lays129 : Go.Proofs.Lays.n129 Tryz.prog Tryz.lays129_ren := {
  mixed := by kernel_rfl
  f129 := Tryz.func143.trans (congrArg some (by kernel_rfl))
  t3 := Tryz.underlying3
  a3 := Tryz.isAgg3
  z3 := Tryz.sizeOf3
  v3 := Tryz.zeroValue3
  t4 := Tryz.underlying4
  a4 := Tryz.isAgg4
  z4 := Tryz.sizeOf4
  v4 := Tryz.zeroValue4
  t5 := Tryz.underlying5
  a5 := Tryz.isAgg5
  z5 := Tryz.sizeOf5
  v5 := Tryz.zeroValue5
  t9 := Tryz.underlying9
  a9 := Tryz.isAgg9
  z9 := Tryz.sizeOf9
  v9 := Tryz.zeroValue9
  t46 := Tryz.underlying129
  a46 := Tryz.isAgg129
  z46 := Tryz.sizeOf129
  v46 := Tryz.zeroValue129
  t53 := Tryz.underlying156
  a53 := Tryz.isAgg156
  z53 := Tryz.sizeOf156
  v53 := Tryz.zeroValue156 }
theorem Tryz.bits_Len64 (x : Int) (w : World) (h0 : 0 ≤ x) (h1 : x ≤ 18446744073709551615) :
    Calls Tryz.prog 143 #[.int .u64 x] w fun e w' => e = .returned (.int .i64 (Lib.bitLen x.toNat)) ∧ w' = w := Any.bits_Len64 Tryz.lays129 x w h0 h1
def Tryz.lays264_ren : Go.Shelf.Ren := ⟨fun | 264 => 150 | n => n, fun | 53 => 156 | 46 => 129 | n => n, fun | n => n⟩
theorem Tryz.lays264 : Go.Proofs.Lays.n264 Tryz.prog Tryz.lays264_ren := {
  mixed := by kernel_rfl
  f264 := Tryz.func150.trans (congrArg some (by kernel_rfl))
  t46 := Tryz.underlying129
  a46 := Tryz.isAgg129
  z46 := Tryz.sizeOf129
  v46 := Tryz.zeroValue129
  t53 := Tryz.underlying156
  a53 := Tryz.isAgg156
  z53 := Tryz.sizeOf156
  v53 := Tryz.zeroValue156 }
open Go.RowKit Go.Lib in
theorem Tryz.bits_Mul64 (x y : Nat) (hx : x < 18446744073709551616) (hy : y < 18446744073709551616) (w : World) :
    Calls Tryz.prog 150 #[.int .u64 x, .int .u64 y] w fun e w' => e = .returned (.tuple #[.int .u64 ((x * y / 18446744073709551616 : Nat) : Int), .int .u64 ((x * y % 18446744073709551616 : Nat) : Int)]) ∧ w' = w := Any.bits_Mul64 Tryz.lays264 x y hx hy w
def Tryz.lays212_ren : Go.Shelf.Ren := ⟨fun | 212 => 144 | 263 => 149 | 264 => 150 | n => n, fun | 46 => 129 | 51 => 154 | 146 => 162 | 53 => 156 | 148 => 164 | n => n, fun | n => n⟩
theorem Tryz.lays212 : Go.Proofs.Lays.n212 Tryz.prog Tryz.lays212_ren := {
  mixed := by kernel_rfl
  f212 := Tryz.func144.trans (congrArg some (by kernel_rfl))
  f263 := Tryz.func149.trans (congrArg some (by kernel_rfl))
  f264 := Tryz.func150.trans (congrArg some (by kernel_rfl))
  t46 := Tryz.underlying129
  a46 := Tryz.isAgg129
  z46 := Tryz.sizeOf129
  v46 := Tryz.zeroValue129
  t51 := Tryz.underlying154
  a51 := Tryz.isAgg154
  z51 := Tryz.sizeOf154
  v51 := Tryz.zeroValue154
  t53 := Tryz.underlying156
  a53 := Tryz.isAgg156
  z53 := Tryz.sizeOf156
  v53 := Tryz.zeroValue156
  t146 := Tryz.underlying162
  a146 := Tryz.isAgg162
  z146 := Tryz.sizeOf162
  v146 := Tryz.zeroValue162
  t148 := Tryz.underlying164
  a148 := Tryz.isAgg164
  z148 := Tryz.sizeOf164
  v148 := Tryz.zeroValue164 }
open Go.RowKit Go.Lib in
theorem Tryz.bits_Mul (x y : Nat) (hx : x < 18446744073709551616) (hy : y < 18446744073709551616) (w : World) :
    Calls Tryz.prog 144 #[.int .u64 x, .int .u64 y] w fun e w' => e = .returned (.tuple #[.int .u64 ((x * y / 18446744073709551616 : Nat) : Int), .int .u64 ((x * y % 18446744073709551616 : Nat) : Int)]) ∧ w' = w := Any.bits_Mul Tryz.lays212 x y hx hy w
end Go.Proofs
/-
  Contracts of slices.Repeat (of a slice of one number) and of glyf.repeated: so many times the same number. No conditions beyond those stated.
-/
namespace Go.Proofs.YtppihpjcdieeoaaGreatDoor
open Go.RowKit

/-- n numbers, of which the first k are z and the others 0. -/
def fill (z : Int) (n k : Nat) : List Value := List.replicate k (.int .i64 z) ++ List.replicate (n - k) (.int .i64 0)
theorem fill_len (z : Int) {n k : Nat} (h : k ≤ n) : (fill z n k).length = n := by simp [fill]; omega
theorem fill_zero (z : Int) (n : Nat) : fill z n 0 = List.replicate n (.int .i64 0) := by simp [fill]
theorem fill_splice (z : Int) {n k m : Nat} : splice (fill z n k) k (List.replicate m (.int .i64 z)) = fill z n (k + m) := by
  unfold splice fill
  rw [List.take_left' (by simp), List.length_replicate, List.drop_append, ← List.append_assoc, List.replicate_append_replicate]
  congr 1
  simp
  omega
theorem fill_at (z : Int) {n k j : Nat} (h : j < k) : (fill z n k)[j]? = some (.int .i64 z) := by
  unfold fill
  rw [List.getElem?_append_left (by simpa using h)]
  simp [h]
/-- Block G holds n numbers, of which the first k are z. -/
def FillAt (z : Int) (n k G : Nat) (w : World) : Prop := w.heap[G]? = some (.cells (fill z n k).toArray 3 (0, 0))

theorem repeat_made (z : Int) (n : Nat) (hn : n ≤ 1000000) (W : World) : (Instr.makeSlice 52 (.int .i64 (n : Int)) (.int .i64 (n : Int))).run Tryz.prog W = .ok (.slice (some ⟨W.heap.size, 0, none⟩) n n) (W.alloc (.cells (fill z n 0).toArray 3)) := by
  obtain ⟨i0, hi0, hz0, hz1, hz2⟩ := info_parts int_info
  have := run_makeSlice W 52 3 i0 (.int .i64 0) Tryz.underlying52 hi0 hz0 .i64 .i64 (n : Int) (n : Int) (by omega) (by omega) (by rw [hz1]; omega) (by rw [hz2]; omega) (by omega)
  rw [hz1, Int.toNat_natCast, Nat.mul_one, show (Value.int .i64 0).cells = #[Value.int .i64 0] from rfl] at this
  rw [this, fill_zero, ← toList_madeCells_one, Array.toArray_toList]
theorem int_elem' : Tryz.prog.elem 52 = 3 := by kernel_rfl
theorem slice_from' (b off N c k : Nat) (K : Int) (hK : K = k) (h : k ≤ N) (W : World) :
    (Instr.slice 52 (.slice (some ⟨b, off, none⟩) N c) (some (.int .i64 K)) none none).run Tryz.prog W = .ok (.slice (if c = k then some ⟨b, off, none⟩ else some ⟨b, off + k, none⟩) (N - k) (c - k)) W := by
  subst hK
  rw [run_slice_l (P := Tryz.prog) W 52 (some ⟨b, off, none⟩) N c (by rw [int_elem']; exact Tryz.underlying52) .i64 (k : Int) (by omega) (by omega)]
  have hs : (sizeOf (Tryz.prog.elem 52)).run Tryz.prog W = .ok 1 W := by rw [int_elem']; kernel_rfl
  rw [hs, Int.toNat_natCast]
  by_cases hk : k = 0
  · subst hk; simp [Result.andThen, sliced, Addr.add]
  · simp [Result.andThen, sliced, Addr.add, hk]
theorem slice_upto' (b off N c k : Nat) (K : Int) (hK : K = k) (h : k ≤ c) (W : World) :
    (Instr.slice 52 (.slice (some ⟨b, off, none⟩) N c) none (some (.int .i64 K)) none).run Tryz.prog W = .ok (.slice (some ⟨b, off, none⟩) k c) W := by
  subst hK
  rw [run_slice_h (P := Tryz.prog) W 52 (some ⟨b, off, none⟩) N c (by rw [int_elem']; exact Tryz.underlying52) .i64 (k : Int) (by omega) (by omega)]
  have hs : (sizeOf (Tryz.prog.elem 52)).run Tryz.prog W = .ok 1 W := by rw [int_elem']; kernel_rfl
  rw [hs, Int.toNat_natCast]
  simp [Result.andThen, sliced, Addr.add]
theorem mul_by_one (n : Nat) (hn : n ≤ 1000000) (W : World) : Calls Tryz.prog 144 #[.int .u64 1, .int .u64 (n : Int)] W fun e w' => e = .returned (.tuple #[.int .u64 0, .int .u64 (n : Int)]) ∧ W = w' := by
  refine (Tryz.bits_Mul 1 n (by omega) (by omega) W).mono ?_
  rintro e w' ⟨rfl, rfl⟩
  refine ⟨?_, rfl⟩
  rw [show 1 * n / 18446744073709551616 = 0 by omega, show 1 * n % 18446744073709551616 = n by omega]; rfl

theorem first_cell {b off : Nat} {z : Int} {w : World} {o : Obj} (hb : b < w.heap.size) (hc : w.cell? ⟨b, off + 0, none⟩ = some (.int .i64 (List.getD [z] 0 0))) (n : Nat) {j : Nat} {u : Value} (hj : (List.replicate (min 1 n) (Value.int .i64 z))[j]? = some u) : (w.alloc o).cell? ((⟨b, off, none⟩ : Addr).add j) = some u := by
  have hlt := (List.getElem?_eq_some_iff.1 hj).1
  rw [List.length_replicate] at hlt
  obtain rfl : j = 0 := by omega
  rw [List.getElem?_replicate, if_pos hlt] at hj
  injection hj with hj
  subst hj
  rw [show (⟨b, off, none⟩ : Addr).add 0 = ⟨b, off + 0, none⟩ from by unfold Addr.add; split <;> simp_all]
  rw [((Lo.refl w).alloc o).cell hb]
  exact hc
theorem fill_cell {z : Int} {n k G : Nat} {w : World} (h : FillAt z n k G w) (m : Nat) (hm : m ≤ k) {j : Nat} {u : Value} (hj : (List.replicate m (Value.int .i64 z))[j]? = some u) : w.cell? ((⟨G, 0, none⟩ : Addr).add j) = some u := by
  have hlt := (List.getElem?_eq_some_iff.1 hj).1
  rw [List.length_replicate] at hlt
  rw [List.getElem?_replicate, if_pos hlt] at hj
  injection hj with hj
  subst hj
  rw [show (⟨G, 0, none⟩ : Addr).add j = ⟨G, j, none⟩ from by unfold Addr.add; split <;> simp_all]
  exact block_cell h (by rw [List.getElem?_toArray, fill_at z (by omega)])

theorem copy_first (z : Int) (n : Nat) {b off c : Nat} {w : World} (hb : b < w.heap.size) (hc : w.cell? ⟨b, off + 0, none⟩ = some (.int .i64 (List.getD [z] 0 0))) :
    ∃ w2, (Builtin.copy_ #[52, 52] 3 #[.slice (some ⟨w.heap.size, 0, none⟩) n n, .slice (some ⟨b, off, none⟩) 1 c]).run Tryz.prog (w.alloc (.cells (fill z n 0).toArray 3)) = .ok (.int .i64 ((min 1 n : Nat) : Int)) w2 ∧ FillAt z n (min 1 n) w.heap.size w2 ∧ Lo w w2 := by
  have hrun := run_copy_row (P := Tryz.prog) (w.alloc (.cells (fill z n 0).toArray 3)) 52 52 3 3 w.heap.size 0 n n ⟨b, off, none⟩ 1 c (fill z n 0).toArray 3 (List.replicate (min 1 n) (Value.int .i64 z)) Tryz.underlying52 (by kernel_rfl) (new_block w _) List.length_replicate (fun j u hj => first_cell hb hc _ hj) (by rw [List.size_toArray, fill_len _ (by omega), List.length_replicate]; omega) (by intro u hu; rw [(List.mem_replicate.1 hu).2]; rfl)
  rw [List.length_replicate] at hrun
  refine ⟨_, hrun, ?_, ?_⟩
  · have h := setRow_heap (w.alloc (.cells (fill z n 0).toArray 3)) w.heap.size _ ((fill z n 0).toArray.toList.take 0 ++ List.replicate (min 1 n) (Value.int .i64 z) ++ (fill z n 0).toArray.toList.drop (0 + min 1 n)).toArray 3 _ (new_block w _)
    unfold FillAt
    rw [h]
    have e := fill_splice z (n := n) (k := 0) (m := min 1 n)
    rw [Nat.zero_add] at e
    rw [← e]
    unfold splice
    simp only [List.append_assoc, List.length_replicate]
  · exact below_setRow ((Lo.refl w).alloc _) (Nat.le_refl _) _
theorem copy_more {z : Int} {n k G : Nat} {w W : World} (hk : k < n) (h : FillAt z n k G W) (hl : Lo w W) (hG : w.heap.size ≤ G) :
    ∃ w2, (Builtin.copy_ #[52, 52] 3 #[.slice (some ⟨G, k, none⟩) (n - k) (n - k), .slice (some ⟨G, 0, none⟩) k n]).run Tryz.prog W = .ok (.int .i64 ((min k (n - k) : Nat) : Int)) w2 ∧ FillAt z n (k + min k (n - k)) G w2 ∧ Lo w w2 := by
  have hrun := run_copy_row (P := Tryz.prog) W 52 52 3 3 G k (n - k) (n - k) ⟨G, 0, none⟩ k n (fill z n k).toArray 3 (List.replicate (min k (n - k)) (Value.int .i64 z)) Tryz.underlying52 (by kernel_rfl) h List.length_replicate (fun j u hj => fill_cell h _ (Nat.min_le_left _ _) hj) (by rw [List.size_toArray, fill_len _ (by omega), List.length_replicate]; omega) (by intro u hu; rw [(List.mem_replicate.1 hu).2]; rfl)
  rw [List.length_replicate] at hrun
  refine ⟨_, hrun, ?_, ?_⟩
  · have h := setRow_heap W G _ ((fill z n k).toArray.toList.take k ++ List.replicate (min k (n - k)) (Value.int .i64 z) ++ (fill z n k).toArray.toList.drop (k + min k (n - k))).toArray 3 _ h
    unfold FillAt
    rw [h, ← fill_splice z (n := n) (k := k) (m := min k (n - k))]
    unfold splice
    simp only [List.append_assoc, List.length_replicate]
  · exact below_setRow hl hG _

set_option maxRecDepth 100000 in
set_option maxHeartbeats 1600000 in
theorem repeat_any (z : Int) (n : Nat) (v : Value) (w : World) (hr : Row w v [z]) (hn : n ≤ 1000000) :
    Calls Tryz.prog 128 #[v, .int .i64 (n : Int)] w fun e w' => ∃ G, e = .returned (.slice (some ⟨G, 0, none⟩) n n) ∧ FillAt z n n G w' ∧ Lo w w' := by
  obtain ⟨p, c, rfl, _⟩ := hr.form
  obtain ⟨b, off, rfl, hc⟩ := hr.at_ (k := 0) (by simp)
  have HC := Lib.hid hc
  have HM := Lib.hid (mul_by_one n hn)
  have hmk := fun W => repeat_made z n hn W
  have HB : Hid (b < w.heap.size) := Lib.hid (World.block_lt_of_cell? w _ hc)
  simp only [List.length_cons, List.length_nil, Nat.zero_add] at *
  clear hr hc
  go_enter Tryz.func128, Tryz.ntmps128
  go_wp2_with fail
  refine (HM.out _).mono ?_
  rintro e w1 ⟨rfl, rfl⟩
  obtain ⟨w2, hcp, hG2, hL⟩ := copy_first z n (c := c) HB.out HC.out
  have HG2 := Lib.hid hG2
  have HL := Lib.hid hL
  clear hG2 hL HC
  go_wp2_with fail
  clear hcp hmk HM
  generalize hG0 : w.heap.size = G at *
  go_loopw [8] (fun s W => ∃ k : Nat, k ≤ n ∧ (k = 0 → n = 0) ∧ s = .int .i64 k ∧ Hid (FillAt z n k G W) ∧ Hid (Lo w W)) (fun s _ => n - (intOf s).toNat)
  case atStart => exact ⟨min 1 n, by omega, by omega, rfl, HG2, HL⟩
  case round =>
    obtain ⟨k, hk, hk0, rfl, HF, HL2⟩ := hrel
    rename World => W1
    by_cases hlt : k < n
    · have hs1 : ∀ W, (Instr.slice 52 (.slice (some ⟨G, 0, none⟩) n n) (some (.int .i64 (k : Int))) none none).run Tryz.prog W = .ok (.slice (some ⟨G, k, none⟩) (n - k) (n - k)) W := fun W => by
        rw [slice_from' G 0 n n k k rfl hk W, if_neg (by omega), Nat.zero_add]
      have hs2 := fun W => slice_upto' G 0 n n k k rfl hk W
      obtain ⟨w3, hcp, hG3, hL3⟩ := copy_more hlt (show FillAt z n k G W1.drew from HF.out) (HL2.out.drew) (by omega)
      have HG3 := Lib.hid hG3
      have HL3 := Lib.hid hL3
      clear hG3 hL3
      generalize hm : min k (n - k) = m at *
      go_wp2_with fail
      go_region
      all_goals
        go_wp2_with fail
        go_roundw
        case rel => exact ⟨k + m, by omega, by omega, by go_num, HG3, HL3⟩
        case measure => simp [intOf]; omega
    · obtain rfl : k = n := by omega
      go_wp2_with fail
      go_ret
      exact ⟨G, rfl, HF.out, HL2.out⟩
end Go.Proofs.YtppihpjcdieeoaaGreatDoor
/-
  How rows and spans are told: a row of one number many times, spans, spans and an error. No conditions beyond those stated.
-/
namespace Go.Proofs.YtppihpjcdieeoaaGreatDoor
open Go.RowKit

theorem fill_row {z : Int} {n G : Nat} {w : World} (h : FillAt z n n G w) (hn : n ≤ 1000000) : Row w (.slice (some ⟨G, 0, none⟩) n n) (List.replicate n z) := by
  have hlt : G < w.heap.size := by
    rcases Nat.lt_or_ge G w.heap.size with hlt | hge
    · exact hlt
    · unfold FillAt at h; rw [Array.getElem?_eq_none hge] at h; cases h
  refine .inr ⟨G, 0, n, by rw [List.length_replicate], by rw [List.length_replicate]; omega, by rw [List.length_replicate]; omega, hlt, fun i hi => ?_⟩
  rw [List.length_replicate] at hi
  rw [Nat.zero_add]
  refine block_cell h ?_
  rw [List.getElem?_toArray, fill_at z hi]
  simp [List.getD, hi]
/-- So many times the same number, told. -/
def Many (z : Int) (n : Nat) (w : World) (e : Ending) (w' : World) : Prop := ∃ p c, e = .returned (.slice p n c) ∧ Row w' (.slice p n c) (List.replicate n z) ∧ Lo w w'

/-- Spans, told. -/
def GotSpans (l : List Ch.Span) (w : World) (e : Ending) (w' : World) : Prop := ∃ p c, e = .returned (.slice p l.length c) ∧ SRow w' (.slice p l.length c) l ∧ Lo w w'
/-- Spans and an error, told. -/
def GotSp (a : List Ch.Span × Int) (w : World) (e : Ending) (w' : World) : Prop := ∃ p c, e = .returned (.tuple #[.slice p a.1.length c, .int .i64 a.2]) ∧ SRow w' (.slice p a.1.length c) a.1 ∧ Lo w w'
theorem GotSp.nil {w w' : World} {k : Int} {e : Ending} (he : e = .returned (.tuple #[.slice none 0 0, .int .i64 k])) (h : Lo w w') : GotSp ([], k) w e w' := by
  subst he
  exact ⟨_, _, rfl, RowK.nil _ _ _, h⟩
end Go.Proofs.YtppihpjcdieeoaaGreatDoor
/-
  Contracts of chart.repeated and chart.spans: so many times a size; one span for each glyph that is not 0. No conditions beyond those stated.
-/
namespace Go.Proofs.YtppihpjcdieeoaaGreatDoor
open Go.RowKit

set_option maxHeartbeats 400000 in
theorem repeated_any (z : Int) (n : Nat) (w : World) (hn : n ≤ 1000000) : Calls Tryz.prog 114 #[.int .i64 z, .int .i64 (n : Int)] w (Many z n w) := by
  have HR := Lib.hid (fun (v : Value) (W : World) (h : Row W v [z]) => repeat_any z n v W h hn)
  unfold Many
  go_enter Tryz.func114, Tryz.ntmps114
  go_wp2_with fail
  refine (HR.out _ _ (row1 w _ rfl z)).mono ?_
  rintro e w1 ⟨G, rfl, hF, lo⟩
  have HF := Lib.hid hF
  have HL := Lib.hid (((Lo.refl w).alloc _).trans lo)
  clear hF lo HR
  go_wp2_with fail
  go_ret
  exact ⟨_, _, rfl, fill_row HF.out hn, HL.out⟩

set_option maxHeartbeats 1600000 in
theorem spans_any (a : Int) (gs : List Int) (v : Value) (w : World) (hr : Row w v gs) (hn : gs.length ≤ 100000) (ha : 0 ≤ a) (ha2 : a ≤ 1000000) :
    Calls Tryz.prog 115 #[.int .i64 a, v] w (GotSpans (Ch.spansL a gs) w) := by
  obtain ⟨p, c, rfl, hlen⟩ := hr.form
  have HR := Lib.hid hr
  have HAll : Hid (gs.take gs.length = gs) := Lib.hid List.take_length
  have HSt := Lib.hid (fun (k : Nat) (h : k < gs.length) => Ch.spansL_step h a)
  have HLe : Hid (∀ k, (Ch.spansL a (gs.take k)).length ≤ k) := Lib.hid (fun k => Nat.le_trans (Ch.spansL_len _ _) (List.length_take_le _ _))
  generalize hnn : gs.length = n at *
  have HN := Lib.hid hnn
  clear hnn hr
  unfold GotSpans
  go_enter Tryz.func115, Tryz.ntmps115
  go_wp2_with fail
  go_loopw [5, 6, 7, 8, 11] (fun s5 _ _ _ s11 W => ∃ (k : Nat) (L : List Ch.Span) (q : Option Addr) (d : Nat), k ≤ n ∧ s11 = .int .i64 k ∧ s5 = .slice q L.length d ∧ Hid (L = Ch.spansL a (gs.take k)) ∧ Hid (OwnK encS 63 4 W w.heap.size (.slice q L.length d) L) ∧ Hid (Lo w W)) (fun _ _ _ _ s11 _ => n - (intOf s11).toNat)
  case atStart => exact ⟨0, [], none, 0, Nat.zero_le _, rfl, rfl, Lib.hid rfl, Lib.hid (OwnK.none _ _ _ _ _), Lib.hid (Lo.refl _)⟩
  case round =>
    obtain ⟨k, L, q, d, hk, rfl, rfl, HT, HO, HL⟩ := hrel
    by_cases hlt : k < n
    · obtain ⟨b, off, rfl, hcell⟩ := (HR.out.lo HL.out).at_ hlt
      have HS1 := Lib.hid (HSt.out k hlt)
      have HLk : Hid (L.length ≤ k) := Lib.hid (by rw [HT.out]; exact HLe.out k)
      have HSZ := Lib.hid HL.out.size
      rw [← HT.out] at HS1
      generalize gs.getD k 0 = g at *
      by_cases hg : g = 0
      · have HT2 : Hid (L = Ch.spansL a (gs.take (k + 1))) := Lib.hid (by rw [HS1.out, if_pos hg, List.append_nil])
        subst hg
        clear HS1 HT
        go_wp2_with fail
        go_roundw
        case rel => exact ⟨k + 1, L, q, d, by omega, by go_num, rfl, HT2, HO, HL⟩
        case measure => simp [intOf]; omega
      · have HT2 : Hid (L ++ [⟨a + k, a + k, g, 1⟩] = Ch.spansL a (gs.take (k + 1))) := Lib.hid (by rw [HS1.out, if_neg hg])
        clear HS1 HT
        go_wp2_with (at_builtin; refine wpList_appK _ rfl (.tmp 21) (.tmp 26) _ rfl 63 4 32 _ Tryz.underlying22 api_info rfl (by omega) (by omega) encS_len encS_one w.heap.size (.slice q L.length d) L rfl (OwnK.lo HO.out ((Lo.refl _).alloc _)) _ [⟨a + k, a + k, g, 1⟩] rfl (srow1 _ _ rfl ⟨a + k, a + k, g, 1⟩ _) (by have := HLk.out; simp; omega) (by have := HSZ.out; simp; omega) ?_; intro q1 d1 w3 hown hlo; have HO3 := Lib.hid hown; have HL3 := Lib.hid (hlo w (HL.out.alloc _) (Nat.le_refl _)); clear hown hlo)
        go_roundw
        case rel => exact ⟨k + 1, L ++ [⟨a + k, a + k, g, 1⟩], q1, d1, by omega, by go_num, by simp, HT2, by simpa using HO3, HL3⟩
        case measure => simp [intOf]; omega
    · obtain rfl : k = n := by omega
      have HE : Hid (L = Ch.spansL a gs) := Lib.hid (by rw [HT.out, HAll.out])
      go_wp2_with fail
      go_ret
      exact ⟨q, d, by rw [← HE.out]; rfl, by rw [← HE.out]; exact OwnK.row encS_len HO.out, HL.out⟩
end Go.Proofs.YtppihpjcdieeoaaGreatDoor

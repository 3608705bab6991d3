/-
  Facts that the walks rest on: CuAdd, BnBuilder, BnPut, ChConcat, GkTold. No conditions beyond those stated.
-/
import Derived.Test.YtcnmfgdeanbhoaaPart07
import Derived.Test.YtcnmfgdeanbhoaaPart01
import Derived.Test.YtcnmfgdeanbhoaaPart10
import Derived.Lib.AppendStr
import Derived.Laws.BytesString
import Derived.Laws.BytesArg
import Derived.Shelf.Strings.Builder1
import Derived.Shelf.Strings.BuilderK
import Derived.Test.YtcnmfgdeanbhoaaProg
import Derived.Test.YtcnmfgdeanbhoaaPart06
import Derived.Test.YtcnmfgdeanbhoaaGround
import Derived.Test.YtcnmfgdeanbhoaaPart04
import Derived.Lib.AppendZeros
import Derived.Lib.AppendZerosOnto
import Derived.Lib.SliceRun
/-
  Rows of bytes that the call itself owns: append of a text, their text; contracts of package cutin's content: add, end. No conditions beyond those stated.
-/
namespace Go.Proofs.Ytcnmfgdeanbhoaa
open Go.RowKit

/-! Rows of the call's own, in general. -/
theorem rows_apart {w : World} {base base2 e e2 k k2 n m : Nat} {v u : Value} {xs ys : List Value} (h : w.ownsRow base e k v n xs) (h2 : w.ownsRow base2 e2 k2 u m ys) (hne : e ≠ e2) : ∀ g, v.ownBlock = some g → u.ownBlock ≠ some g := by
  intro g hg hu
  rcases h.2 with ⟨h1, _⟩ | ⟨g1, cap, cur, rfl, _, hh, _⟩
  · rw [h1] at hg; cases hg
  · rcases h2.2 with ⟨h1, _⟩ | ⟨g2, cap2, cur2, rfl, _, hh2, _⟩
    · rw [h1] at hu; cases hu
    · injection hg with hg
      injection hu with hu
      subst hg hu
      rw [hh] at hh2
      injection hh2 with hh2
      injection hh2 with _ hh2 _
      exact hne hh2
theorem rowT_ne {w : World} {base e k n : Nat} {v : Value} {xs : List Value} (h : w.ownsRow base e k v n xs) {T ty : Nat} {cs : Array Value} (hT : w.heap[T]? = some (.cells cs ty (0, 0))) (hne : ty ≠ e) : v.ownBlock ≠ some T := by
  intro hc
  rcases h.2 with ⟨h1, _⟩ | ⟨g, cap, cur, rfl, _, hh, _⟩
  · rw [h1] at hc; cases hc
  · injection hc with hc
    subst hc
    rw [hT] at hh
    injection hh with hh
    injection hh with _ hh _
    exact hne hh
theorem row_agr {S : Nat → Prop} {w w' : World} {base e k n : Nat} {v : Value} {xs : List Value} (h : w.ownsRow base e k v n xs) (a : Agr S w w') (hv : ∀ g, v.ownBlock = some g → ¬ S g) : w'.ownsRow base e k v n xs := by
  refine ⟨h.1, ?_⟩
  rcases h.2 with h2 | ⟨g, cap, cur, rfl, hg, hh, r⟩
  · exact .inl h2
  · refine .inr ⟨g, cap, cur, rfl, hg, ?_, r⟩
    have hlt : g < w.heap.size := by
      rcases Nat.lt_or_ge g w.heap.size with hlt | hge
      · exact hlt
      · rw [Array.getElem?_eq_none hge] at hh; cases hh
    rw [a.2 g hlt (hv g rfl)]; exact hh
theorem block_agr {S : Nat → Prop} {w w' : World} (a : Agr S w w') {T : Nat} {o : Obj} (hT : w.heap[T]? = some o) (hS : ¬ S T) : w'.heap[T]? = some o := by
  have hlt : T < w.heap.size := by
    rcases Nat.lt_or_ge T w.heap.size with hlt | hge
    · exact hlt
    · rw [Array.getElem?_eq_none hge] at hT; cases hT
  rw [a.2 T hlt hS]; exact hT
theorem set_two {T ty : Nat} {a b u : Value} {w : World} (h : w.heap[T]? = some (.cells #[a, b] ty (0, 0))) : (w.setCell ⟨T, 0, none⟩ u).heap[T]? = some (.cells #[u, b] ty (0, 0)) := by
  rw [Sort.setCell_eq]
  simp [Sort.mapBlock, Array.getElem?_modify, h, Sort.onCells]

/-! Bytes. -/
/-- The slice v, of the call's own blocks (from base on), holds the bytes t. -/
def OwnB (w : World) (base : Nat) (v : Value) (t : List UInt8) : Prop := w.ownsRow base 5 1 v t.length (t.map fun b => .int .u8 b.toNat)
theorem OwnB.none (w : World) (base : Nat) : OwnB w base (.slice none 0 0) [] := World.ownsRow_nil w base _ _
theorem OwnB.agr {S : Nat → Prop} {w w' : World} {base : Nat} {v : Value} {t : List UInt8} (h : OwnB w base v t) (a : Agr S w w') (hv : ∀ g, v.ownBlock = some g → ¬ S g) : OwnB w' base v t := row_agr h a hv
theorem OwnB.lo {w w' : World} {base : Nat} {v : Value} {t : List UInt8} (h : OwnB w base v t) (a : Lo w w') : OwnB w' base v t := h.agr (a.agr No) fun _ _ k => k
theorem OwnB.form {w : World} {base : Nat} {v : Value} {t : List UInt8} (h : OwnB w base v t) : ∃ p c, v = .slice p t.length c := by
  rcases h.2 with ⟨rfl, hn⟩ | ⟨g, cap, cur, rfl, _⟩
  · exact ⟨_, _, by rw [hn]⟩
  · exact ⟨_, _, rfl⟩
theorem Own.agr {S : Nat → Prop} {w w' : World} {base : Nat} {v : Value} {l : List Int} (h : Own w base v l) (a : Agr S w w') (hv : ∀ g, v.ownBlock = some g → ¬ S g) : Own w' base v l := row_agr h a hv
theorem own_bytes {w : World} {base base2 : Nat} {v u : Value} {l : List Int} {t : List UInt8} (h : Own w base v l) (h2 : OwnB w base2 u t) : Apart v u := rows_apart h h2 (by decide)
theorem uint8_info : (Try.prog.info? 5).map (fun i => (i.zero, i.size, i.bytes)) = some (some (.int .u8 0), 1, 1) := by kernel_rfl
theorem byte_cells (t : List UInt8) : Lib.strCells ⟨t.toArray⟩ = t.map fun b => .int .u8 b.toNat := by simp [Lib.strCells]
theorem bytes_back (t : List UInt8) : (t.map fun b => ((b.toNat : Int))).foldl (fun r n => r.push (UInt8.ofNat n.toNat)) ByteArray.empty = ⟨t.toArray⟩ := by
  rw [foldl_push_bytes]
  congr 1
  rw [List.map_map]
  show ByteArray.empty.data ++ _ = _
  rw [show (fun n : Int => UInt8.ofNat n.toNat) ∘ (fun b : UInt8 => (b.toNat : Int)) = id by funext b; simp, List.map_id]
  show #[] ++ t.toArray = _
  simp
/-- string(b), of bytes that the call owns. -/
theorem content_text {w : World} {base : Nat} {v : Value} {t : List UInt8} (h : OwnB w base v t) : (convert 59 9 v).run Try.prog w = .ok (.string ⟨t.toArray⟩) w := by
  have key : ∀ (a : Option Addr) (l c : Nat), v = .slice a l c → (Conv.bytesToString (.slice a l c)).run Try.prog w = .ok (.string ⟨t.toArray⟩) w → (convert 59 9 v).run Try.prog w = .ok (.string ⟨t.toArray⟩) w := by
    rintro a l c rfl hb
    rw [run_convert_bytes_string w 59 9 5 a l c Try.underlying59 Try.underlying5 Try.underlying9]
    exact hb
  rcases h.2 with ⟨rfl, hn⟩ | ⟨g, cap, cur, rfl, hg, hh, hnc, hcm, hcs, ht⟩
  · refine key _ _ _ rfl ?_
    obtain rfl := List.eq_nil_of_length_eq_zero hn
    unfold Conv.bytesToString
    simp [Sem.run_pure]
    rfl
  · refine key _ _ _ rfl ?_
    have hc := World.ownsRow.cells h (g := g) rfl
    have hl := run_loadCells_list (P := Try.prog) w ⟨g, 0, none⟩ (t.map fun b => Value.int .u8 b.toNat) hc
    rw [List.length_map] at hl
    rw [run_bytesToString w ⟨g, 0, none⟩ t.length cap (t.map fun b => (b.toNat : Int)) (by rw [hl, List.map_map]; rfl), bytes_back]
/-- append of a text. -/
theorem wpList_appB (w : World) {ops : Array Oper} {rest : List Oper} {o : Oper} {a : Act} {Q : Exit → Act → World → Prop} (hgd : o.guard = none) (s x : Operand)
    (ho : o.op = .call { callee := .builtin .append, args := #[s, x], argTypes := #[59, 9] })
    (base : Nat) (v : Value) (t z : List UInt8) (hs : a.eval s = v) (hown : OwnB w base v t) (hx : a.eval x = .string ⟨z.toArray⟩) (hlen : t.length + z.length ≤ 1000000) (hbase : base ≤ w.heap.size)
    (h : ∀ p c w', OwnB w' base (.slice p (t.length + z.length) c) (t ++ z) → (∀ w0, Lo w0 w → w0.heap.size ≤ base → Lo w0 w') → Agr (fun X => v.ownBlock = some X) w w' → wpList Try.prog ops Q rest (a.put o.dst (.slice p (t.length + z.length) c)) w') : wpList Try.prog ops Q (o :: rest) a w := by
  obtain ⟨i0, hi0, hz0, hz1, hz2⟩ := info_parts uint8_info
  have hsz : (⟨z.toArray⟩ : ByteArray).size = z.length := by simp [ByteArray.size]
  refine Lib.wpList_append_own_string w hgd s x 59 9 ho base 5 i0 Try.underlying59 Try.underlying9 hi0 hz0 hz1 hz2 v t.length _ hs hown ⟨z.toArray⟩ hx (by rw [hsz]; unfold maxLen; omega) (by rw [hsz]; omega) hbase ?_
  intro v' w' hown' hg _
  have hown2 : OwnB w' base v' (t ++ z) := by
    unfold OwnB
    rw [List.length_append, List.map_append]
    rw [hsz, byte_cells] at hown'
    exact hown'
  obtain ⟨p, c, hv⟩ := hown2.form
  rw [List.length_append] at hv
  subst hv
  exact h p c w' hown2 (fun w0 hlo hb0 => Below.grown hlo hg hlo.size (fun k hk => by have := (World.ownsRow.lt hown k hk).1; omega)) (agr_grown hg fun g q => q)

/-! The writer. -/
/-- A writer at block T: its bytes, and where the first stair stands. -/
structure Wr (w : World) (T base first : Nat) (p : Option Addr) (c : Nat) (t : List UInt8) : Prop where
  block : w.heap[T]? = some (.cells #[.slice p t.length c, .int .i64 first] 61 (0, 0))
  own : OwnB w base (.slice p t.length c) t
  low : T < base
  size : base ≤ w.heap.size
theorem Wr.agr {S : Nat → Prop} {w w' : World} {T base first c : Nat} {p : Option Addr} {t : List UInt8} (h : Wr w T base first p c t) (a : Agr S w w') (hT : ¬ S T) (hv : ∀ g, (Value.slice p t.length c).ownBlock = some g → ¬ S g) : Wr w' T base first p c t :=
  ⟨block_agr a h.block hT, h.own.agr a hv, h.low, Nat.le_trans h.size a.1⟩
theorem Wr.lo {w w' : World} {T base first c : Nat} {p : Option Addr} {t : List UInt8} (h : Wr w T base first p c t) (a : Lo w w') : Wr w' T base first p c t := h.agr (a.agr No) (fun k => k) (fun _ _ k => k)
/-- What writing tells: the writer, what stood, and the blocks that are not the writer's. -/
def Wrote (w w' : World) (T base first : Nat) (p : Option Addr) (c : Nat) (t t' : List UInt8) : Prop :=
  (∃ p' c', Wr w' T base first p' c' t') ∧ (∀ w0, Lo w0 w → w0.heap.size ≤ T → Lo w0 w') ∧ Agr (fun X => X = T ∨ (Value.slice p t.length c).ownBlock = some X) w w'
theorem Wrote.ahead {w w1 w' : World} {T base first c : Nat} {p : Option Addr} {t t' : List UInt8} (h : Wrote w1 w' T base first p c t t') (a : Lo w w1) : Wrote w w' T base first p c t t' :=
  ⟨h.1, fun w0 k hs => h.2.1 w0 (k.trans a) hs, (a.agr _).trans h.2.2⟩
theorem Wrote.same {w w' : World} {T base first c : Nat} {p : Option Addr} {t : List UInt8} (h : Wr w T base first p c t) (a : Lo w w') : Wrote w w' T base first p c t t :=
  ⟨⟨p, c, h.lo a⟩, fun _ k _ => k.trans a, a.agr _⟩

set_option maxHeartbeats 800000 in
theorem cuend_any (p : Option Addr) (n c : Nat) (w : World) : Calls Try.prog 65 #[.slice p n c] w fun e w' => e = .returned (.int .i64 (n : Int)) ∧ w = w' := by
  go_enter Try.func65, Try.ntmps65
  go_wp2_with fail
  go_ret
  exact ⟨rfl, rfl⟩

set_option maxHeartbeats 800000 in
theorem cuadd_any (T base first : Nat) (p : Option Addr) (c : Nat) (t z : List UInt8) (w : World) (h : Wr w T base first p c t) (hlen : t.length + z.length ≤ 1000000) :
    Calls Try.prog 67 #[.pointer (some ⟨T, 0, none⟩), .string ⟨z.toArray⟩] w fun e w' => e = .returned (.tuple #[]) ∧ Wrote w w' T base first p c t (t ++ z) := by
  obtain ⟨⟨c0, c1⟩, f0, f1⟩ := cu_two h.block
  have HW := Lib.hid h
  have hl : (t ++ z).length = t.length + z.length := List.length_append
  generalize hy : t ++ z = y at *
  have HY := Lib.hid hy
  have HL := Lib.hid hl
  clear h hy hl
  go_enter Try.func67, Try.ntmps67
  go_wp2_with (at_builtin; refine wpList_appB _ rfl (.tmp 7) (.tmp 8) rfl base _ t z rfl HW.out.own rfl hlen HW.out.size ?_; intro p1 c1 w1 hown hlo hagr; have HO := Lib.hid hown; have HLo := Lib.hid hlo; have HA := Lib.hid hagr; have HB := Lib.hid (block_agr hagr HW.out.block (rowT_ne HW.out.own HW.out.block (by decide))); clear hown hlo hagr; obtain ⟨⟨d0, d1⟩, g0, g1⟩ := cu_two HB.out)
  go_end0
  rw [HY.out] at HO
  rw [← HL.out] at HO ⊢
  have hTb := HW.out.low
  refine ⟨rfl, ⟨p1, c1, ⟨set_two HB.out, ?_, hTb, ?_⟩⟩, fun w0 k hs => ?_, ?_⟩
  · exact OwnB.agr HO.out (agr_set (S := fun X => X = T) _ _ _ rfl) fun g hg hgT => by
      subst hgT
      exact rowT_ne HO.out HB.out (by decide) hg
  · have := HA.out.1; have := HW.out.size; simp; omega
  · exact (HLo.out w0 k (by omega)).set (p := ⟨T, 0, none⟩) hs _
  · exact (HA.out.weak fun _ _ q => .inr q).trans (agr_set _ _ _ (.inl rfl))
end Go.Proofs.Ytcnmfgdeanbhoaa
/-
  The contract of strings.Builder's WriteByte, laid at this program by hand (the kit's own laying asks for a type that the closure here does not name). No conditions.
-/
namespace Go.Proofs
open Go.Shelf
def Try.layw_ren : Go.Shelf.Ren := ⟨fun | 167 => 69 | 240 => 82 | 276 => 86 | n => n, fun | 0 => 0 | 4 => 4 | 5 => 5 | 9 => 9 | 20 => 20 | 37 => 58 | 70 => 89 | 72 => 91 | 75 => 93 | 80 => 79 | 164 => 112 | n => n, fun | n => n⟩
theorem Try.layw : Go.Proofs.Lays.n167 Try.prog Try.layw_ren := {
  mixed := by kernel_rfl
  f167 := Try.func69.trans (congrArg some (by kernel_rfl))
  f240 := Try.func82.trans (congrArg some (by kernel_rfl))
  f276 := Try.func86.trans (congrArg some (by kernel_rfl))
  t0 := Try.underlying0
  a0 := Try.isAgg0
  z0 := Try.sizeOf0
  v0 := Try.zeroValue0
  t4 := Try.underlying4
  a4 := Try.isAgg4
  z4 := Try.sizeOf4
  v4 := Try.zeroValue4
  t5 := Try.underlying5
  a5 := Try.isAgg5
  z5 := Try.sizeOf5
  v5 := Try.zeroValue5
  t9 := Try.underlying9
  a9 := Try.isAgg9
  z9 := Try.sizeOf9
  v9 := Try.zeroValue9
  t20 := Try.underlying20
  a20 := Try.isAgg20
  z20 := Try.sizeOf20
  v20 := Try.zeroValue20
  t37 := Try.underlying58
  a37 := Try.isAgg58
  z37 := Try.sizeOf58
  v37 := Try.zeroValue58
  t70 := Try.underlying89
  a70 := Try.isAgg89
  z70 := Try.sizeOf89
  v70 := Try.zeroValue89
  t72 := Try.underlying91
  a72 := Try.isAgg91
  z72 := Try.sizeOf91
  v72 := Try.zeroValue91
  t75 := Try.underlying93
  a75 := Try.isAgg93
  z75 := Try.sizeOf93
  v75 := Try.zeroValue93
  t164 := Try.underlying112
  a164 := Try.isAgg112
  z164 := Try.sizeOf112
  v164 := Try.zeroValue112 }
theorem Try.Builder_Extra_w : Builder.Extra Try.prog Try.layw_ren := {
  sizeBuilder := by kernel_rfl
  liesBuilder := by kernel_rfl
  t5 := Try.underlying5
  a5 := Try.isAgg5
  z5 := Try.sizeOf5
  v5 := Try.zeroValue5
  infoByte := by kernel_rfl
  cellsByte := by kernel_rfl
  sizeByte := by kernel_rfl
  neB5 := by decide }
open Go.RowKit in
theorem Try.Builder_WriteByte (B b : Nat) (bs : List Value) (c : Int) (w : World) (h : Lib.IsBuilder 91 5 B b bs w) (hlen : bs.length + 1 ≤ 140737488355328) (hBw : B ≤ w.heap.size) :
    Calls Try.prog 69 #[.pointer (some ⟨b, 0, none⟩), .int .u8 c] w fun e w' => e = .returned .nilIface ∧ (Lib.BuilderAt 91 5 B b (.pointer (some ⟨b, 0, none⟩)) (bs ++ [.int .u8 c]) w' ∧ Below B w w') := Any.Builder_WriteByte Try.layw Try.Builder_Extra_w B b bs c w h hlen hBw
end Go.Proofs
/-
  The contract of bin.Put: it answers what the plain function on bytes says. No conditions beyond those stated.
-/
namespace Bn
theorem join_snoc : ∀ (a b : List Int) (z x : Int), a.length = b.length → join (a ++ [z]) (b ++ [x]) = join a b ++ bytes x z.natAbs
  | [], [], z, x, _ => by simp [join]
  | n :: r, v :: s, z, x, h => by
    rw [List.cons_append, List.cons_append, join, join, join_snoc r s z x (by simpa using h), List.append_assoc]
  | [], v :: s, _, _, h => by simp at h
  | n :: r, [], _, _, h => by simp at h
theorem allFit_snoc : ∀ (a b : List Int) (z x : Int), a.length = b.length → allFit (a ++ [z]) (b ++ [x]) = (allFit a b && fits x z)
  | [], [], z, x, _ => by simp [allFit]
  | n :: r, v :: s, z, x, h => by
    rw [List.cons_append, List.cons_append, allFit, allFit, allFit_snoc r s z x (by simpa using h), Bool.and_assoc]
  | [], v :: s, _, _, h => by simp at h
  | n :: r, [], _, _, h => by simp at h
theorem allFit_false : ∀ (a b : List Int) (k : Nat), k < a.length → k < b.length → fits (b.getD k 0) (a.getD k 0) = false → allFit a b = false
  | n :: r, v :: s, 0, _, _, h => by
    have h' : fits v n = false := h
    rw [allFit, h']; rfl
  | n :: r, v :: s, k + 1, h1, h2, h => by
    have h' : fits (s.getD k 0) (r.getD k 0) = false := by simpa using h
    rw [allFit, allFit_false r s k (by simpa using h1) (by simpa using h2) h', Bool.and_false]
  | [], _, k, h, _, _ => by simp at h
  | _ :: _, [], k, _, h, _ => by simp at h
theorem join_len_le : ∀ (a b : List Int), allSizes a = true → (join a b).length ≤ 4 * a.length
  | [], _, _ => by simp [join]
  | n :: r, [], _ => by simp [join]
  | n :: r, v :: s, h => by
    simp only [allSizes, List.all_cons, Bool.and_eq_true] at h
    have h1 := isSize_wide h.1
    have h2 := join_len_le r s h.2
    rw [join, List.length_append, bytes_len, List.length_cons]; omega
/-- A byte of a number below 0 too: shifted down. -/
theorem bytes_at (v : Int) (q t : Nat) (h : t < q) (hs0 : 0 ≤ v + ((256 ^ q : Nat) : Int)) : ((bytes v q).getD t 0).toNat = ((v / (2 : Int) ^ (8 * (q - 1 - t))) % 256).toNat := by
  have hp : (2 : Int) ^ (8 * (q - 1 - t)) = ((256 ^ (q - 1 - t) : Nat) : Int) := by
    rw [Int.pow_mul, Int.natCast_pow]; rfl
  rw [hp]
  unfold bytes tail
  have hg : ∀ u : Nat, ((List.range q).map fun t => dig u (q - 1 - t)).getD t 0 = dig u (q - 1 - t) := by
    intro u
    simp [List.getD, h]
  rw [hg, dig_toNat]
  generalize hj : q - 1 - t = j
  have hpos := pow_pos' j
  by_cases hv : v < 0
  · rw [if_pos hv]
    have hsp : 256 ^ q = 256 ^ j * (256 * 256 ^ t) := by
      rw [← Nat.pow_succ', ← Nat.pow_add]; congr 1; omega
    rw [hsp] at hs0 ⊢
    obtain ⟨u, hu⟩ := Int.eq_ofNat_of_zero_le hs0
    rw [hu, Int.toNat_natCast]
    have hv' : v = (u : Int) + ((256 ^ j : Nat) : Int) * (-(256 * 256 ^ t : Nat) : Int) := by
      rw [Int.mul_neg, ← Int.natCast_mul]; omega
    rw [hv', Int.add_mul_ediv_left _ _ (by omega)]
    have : ((u : Int) / ((256 ^ j : Nat) : Int) + (-(256 * 256 ^ t : Nat) : Int)) % 256 = (u / 256 ^ j % 256 : Nat) := by
      rw [← Int.natCast_ediv]
      omega
    rw [this, Int.toNat_natCast]
  · rw [if_neg hv]
    obtain ⟨u, rfl⟩ := Int.eq_ofNat_of_zero_le (show 0 ≤ v by omega)
    rw [Int.toNat_natCast, ← Int.natCast_ediv]
    omega
theorem fits_ge {v z : Int} (h : fits v z = true) : 0 ≤ v + ((256 ^ z.natAbs : Nat) : Int) := by
  unfold fits at h
  generalize 256 ^ z.natAbs = P at *
  by_cases hz : z < 0
  · rw [if_pos hz] at h; simp only [Bool.and_eq_true, decide_eq_true_eq] at h; omega
  · rw [if_neg hz] at h; simp only [Bool.and_eq_true, decide_eq_true_eq] at h; omega
end Bn
namespace Go.Proofs.Ytcnmfgdeanbhoaa
open Go.RowKit

set_option maxHeartbeats 400000 in
theorem put_size (l : List Int) (v u : Value) (w : World) (hr : Row w v l) (hs : Bn.allSizes l = false) :
    Calls Try.prog 35 #[v, u] w fun e w' => e = strErr ([], 1) ∧ Lo w w' := by
  have HA := Lib.hid (areSizes_any v l w hr)
  rw [hs] at HA
  obtain ⟨p, c, rfl, hlen⟩ := hr.form
  clear hr hs
  go_enter Try.func35, Try.ntmps35
  go_wp2_with fail
  refine HA.out.mono ?_
  rintro e w1 ⟨rfl, rfl⟩
  go_wp2_with fail
  go_ret2
  exact ⟨rfl, Lo.refl w⟩

set_option maxHeartbeats 400000 in
theorem put_many (l m : List Int) (v u : Value) (w : World) (hr : Row w v l) (hr2 : Row w u m) (hs : Bn.allSizes l = true) (hne : l.length ≠ m.length) :
    Calls Try.prog 35 #[v, u] w fun e w' => e = strErr ([], 1) ∧ Lo w w' := by
  have HA := Lib.hid (areSizes_any v l w hr)
  rw [hs] at HA
  obtain ⟨p, c, rfl, hlen⟩ := hr.form
  obtain ⟨p2, c2, rfl, hlen2⟩ := hr2.form
  have hb : ((m.length : Int) == (l.length : Int)) = false := by simp; omega
  clear hr hs hr2 hne
  go_enter Try.func35, Try.ntmps35
  go_wp2_with fail
  refine HA.out.mono ?_
  rintro e w1 ⟨rfl, rfl⟩
  go_wp2_with fail
  go_ret2
  exact ⟨rfl, Lo.refl w⟩

/-- What Put answers where the sizes are sizes, and as many as the values. -/
def putWork (l m : List Int) : List UInt8 × Int := if Bn.allFit l m = false then ([], 2) else (Bn.join l m, 0)

theorem below_lo {w W W' : World} (h : Lo w W) (k : Below w.heap.size W W') : Lo w W' := Below.trans h k

set_option maxHeartbeats 4000000 in
theorem put_work (l m : List Int) (v u : Value) (w : World) (hr : Row w v l) (hr2 : Row w u m) (hs : Bn.allSizes l = true) (heq : l.length = m.length) (hn : l.length ≤ 200000) :
    Calls Try.prog 35 #[v, u] w fun e w' => e = strErr (putWork l m) ∧ Lo w w' := by
  have HA := Lib.hid (areSizes_any v l w hr)
  rw [hs] at HA
  obtain ⟨p, c, rfl, hlen⟩ := hr.form
  obtain ⟨p2, c2, rfl, hlen2⟩ := hr2.form
  rw [← heq] at hr2 ⊢
  have HR := Lib.hid hr
  have HR2 := Lib.hid hr2
  have HS := Lib.hid hs
  generalize hy : putWork l m = y
  have HY := Lib.hid hy
  have HM := Lib.hid heq
  generalize hnn : l.length = n at *
  have HN := Lib.hid hnn
  have hj := Lib.hid (Bn.join_len_le l m hs)
  clear hr hs hr2 heq hnn hlen2 hy
  have HB := Lib.hid (Lib.fresh_isBuilder 91 5 w)
  have HL0 := Lib.hid ((Lo.refl w).alloc (.cells #[.pointer none, .slice none 0 0] 91))
  go_enter Try.func35, Try.ntmps35
  go_wp2_with fail
  refine HA.out.mono ?_
  rintro e w1 ⟨rfl, rfl⟩
  go_wp2_with fail
  go_loopw [22] (fun i W => ∃ k : Nat, k ≤ n ∧ i = .int .i64 k ∧ Hid (Bn.allFit (l.take k) (m.take k) = true) ∧ Hid (Lib.IsBuilder 91 5 w.heap.size w.heap.size (Lib.byteCells (Bn.join (l.take k) (m.take k))) W) ∧ Hid (Lo w W)) (fun i _ => n - (intOf i).toNat)
  case atStart => exact ⟨0, Nat.zero_le _, rfl, Lib.hid rfl, HB, HL0⟩
  case round =>
    obtain ⟨k, hk, rfl, HF, HB1, HL1⟩ := hrel
    by_cases hlt : k < n
    · obtain ⟨b, off, rfl, hcell⟩ := (HR.out.lo HL1.out).at_ hlt
      obtain ⟨b', off', rfl, hcell2⟩ := (HR2.out.lo HL1.out).at_ hlt
      have HK : Hid (k < l.length) := Lib.hid (by rw [HN.out]; exact hlt)
      have HK2 : Hid (k < m.length) := Lib.hid (by rw [← HM.out]; exact hlt)
      have HT := Lib.hid (Bn.take_snoc HK.out)
      have HT2 := Lib.hid (Bn.take_snoc HK2.out)
      have HZ := Lib.hid (Bn.allSizes_at HS.out HK.out)
      have HNo := Lib.hid (Bn.allFit_false l m k HK.out HK2.out)
      have HCell : Hid (∀ W, Lo w W → W.cell? ⟨b', off' + k, none⟩ = some (.int .i64 (m.getD k 0))) := Lib.hid (by
        intro W hW
        obtain ⟨b1, o1, he, hc⟩ := (HR2.out.lo hW).at_ hlt
        simp only [Option.some.injEq, Addr.mk.injEq, and_true] at he
        rw [he.1, he.2]; exact hc)
      generalize l.getD k 0 = z at *
      generalize m.getD k 0 = x at *
      have HFA := Lib.hid (fun W => fits_any x z W HZ.out)
      by_cases hfit : Bn.fits x z = true
      · have HX := Lib.hid (Bn.fits_ge hfit)
        have HFX := Lib.hid hfit
        rw [hfit] at HFA
        clear hfit HNo
        have HW := Lib.hid (fun W => width_any z W HZ.out)
        have hq4 := Bn.isSize_wide HZ.out
        generalize hq : z.natAbs = q at *
        have HQ := Lib.hid hq
        clear hq
        obtain ⟨hq1, hq4⟩ := hq4
        have HJL : Hid (∀ t, (Bn.join (l.take k) (m.take k) ++ (Bn.bytes x q).take t).length ≤ 800010) := Lib.hid (by
          intro t
          have hall : Bn.allSizes (l.take k) = true := by
            have := HS.out
            unfold Bn.allSizes at *
            rw [List.all_eq_true] at *
            exact fun y hy => this y (List.mem_of_mem_take hy)
          have h1 := Bn.join_len_le (l.take k) (m.take k) hall
          have h2 : (l.take k).length ≤ k := by simp; omega
          have h3 : ((Bn.bytes x q).take t).length ≤ q := by rw [List.length_take, Bn.bytes_len]; omega
          rw [List.length_append]; omega)
        have HJ : Hid (Bn.join (l.take (k + 1)) (m.take (k + 1)) = Bn.join (l.take k) (m.take k) ++ (Bn.bytes x q)) := Lib.hid (by
          rw [HT.out, HT2.out, Bn.join_snoc _ _ _ _ (by simp; have := HK.out; have := HK2.out; omega), HQ.out])
        have HF1 : Hid (Bn.allFit (l.take (k + 1)) (m.take (k + 1)) = true) := Lib.hid (by
          rw [HT.out, HT2.out, Bn.allFit_snoc _ _ _ _ (by simp; have := HK.out; have := HK2.out; omega), HF.out, HFX.out]; rfl)
        generalize Bn.join (l.take k) (m.take k) = pre at *
        go_wp2_with fail
        refine (HFA.out _).mono ?_
        rintro e w2 ⟨rfl, rfl⟩
        go_wp2_with fail
        refine (HW.out _).mono ?_
        rintro e w2 ⟨rfl, rfl⟩
        clear hcell hcell2 HFA HW
        go_wp2_with fail
        go_loopw [9] (fun s W => ∃ (t : Nat) (sv : Int), t ≤ q ∧ s = .int .i64 sv ∧ Hid (sv = 8 * ((q : Int) - 1 - t)) ∧ Hid (Lib.IsBuilder 91 5 w.heap.size w.heap.size (Lib.byteCells (pre ++ (Bn.bytes x q).take t)) W) ∧ Hid (Lo w W)) (fun s _ => (intOf s + 8).toNat)
        case atStart => exact ⟨0, _, Nat.zero_le _, rfl, Lib.hid (by omega), Lib.hid (by rw [List.take_zero, List.append_nil]; exact HB1.out), HL1⟩
        case round =>
          obtain ⟨t, sv, ht, rfl, HSV, HB2, HL2⟩ := hrel
          by_cases htq : t < q
          · have h0 : 0 ≤ sv := by rw [HSV.out]; omega
            obtain ⟨sn, rfl⟩ := Int.eq_ofNat_of_zero_le h0
            have hsn : sn = 8 * (q - 1 - t) := by have := HSV.out; omega
            have hsb : sn ≤ 24 := by omega
            have HSN := Lib.hid hsn
            clear hsn
            have hcell3 := HCell.out _ HL2.out
            have HBy := Lib.hid (Bn.bytes_at x q t htq HX.out)
            have HTk := Lib.hid (Gk.take_snoc (Bn.bytes x q) t (by rw [Bn.bytes_len]; exact htq))
            generalize (Bn.bytes x q).getD t 0 = by1 at *
            go_wp2_with fail
            refine (Try.Builder_WriteByte w.heap.size w.heap.size _ _ _ HB2.out (by rw [Lib.byteCells_length]; have := HJL.out t; omega) HL2.out.size).mono ?_
            rintro e w3 ⟨rfl, hb3, hlo3⟩
            have HB3 := Lib.hid hb3
            have HL3 := Lib.hid (below_lo HL2.out hlo3)
            clear hb3 hlo3
            go_wp2_with fail
            go_roundw
            case rel =>
              refine ⟨t + 1, (sn : Int) - 8, by omega, rfl, Lib.hid (by have := HSN.out; omega), Lib.hid ?_, HL3⟩
              have h := HB3.out
              rw [show (x / 2 ^ sn % 256 : Int) = (by1.toNat : Int) by rw [HBy.out, HSN.out, Int.toNat_of_nonneg (Int.emod_nonneg _ (by omega))]] at h
              rw [HTk.out, ← List.append_assoc, Lib.byteCells_append _ [by1]]
              exact .inr h
            case measure => simp [intOf]; omega
          · have hneg : sv < 0 := by rw [HSV.out]; omega
            obtain rfl : t = q := by omega
            have HB3 := HB2
            rw [List.take_of_length_le (by rw [Bn.bytes_len]; exact Nat.le_refl _), ← HJ.out] at HB3
            go_wp2_with fail
            go_roundw
            case rel => exact ⟨k + 1, by omega, by go_num, HF1, HB3, HL2⟩
            case measure => simp [intOf]; omega
      · rw [show Bn.fits x z = false by simpa using hfit] at HFA
        have HYY : Hid (y = ([], 2)) := Lib.hid (by rw [← HY.out, putWork, if_pos (HNo.out (by simpa using hfit))])
        clear hfit HNo
        go_wp2_with fail
        refine (HFA.out _).mono ?_
        rintro e w2 ⟨rfl, rfl⟩
        go_wp2_with fail
        go_ret2
        exact ⟨by rw [HYY.out]; rfl, HL1.out⟩
    · have h1 : l.take k = l := List.take_of_length_le (by rw [HN.out]; omega)
      have h2 : m.take k = m := List.take_of_length_le (by rw [← HM.out]; omega)
      have HB2 := HB1
      have HF2 := HF
      rw [h1, h2] at HB2 HF2
      have HYY : Hid (y = (Bn.join l m, 0)) := Lib.hid (by rw [← HY.out, putWork, if_neg (by rw [HF2.out]; simp)])
      have HString := Lib.hid (Try.Builder_String_any w.heap.size w.heap.size (Bn.join l m) _ HB2.out HL1.out.size)
      clear h1 h2
      go_wp2_with fail
      refine HString.out.mono ?_
      rintro e w2 ⟨rfl, hlo⟩
      go_wp2_with fail
      go_ret2
      exact ⟨by rw [HYY.out]; rfl, below_lo HL1.out hlo⟩

/-- bin.Put. -/
theorem put_any (l m : List Int) (v u : Value) (w : World) (hr : Row w v l) (hr2 : Row w u m) (hn : l.length ≤ 200000) :
    Calls Try.prog 35 #[v, u] w fun e w' => e = strErr (Bn.put l m) ∧ Lo w w' := by
  unfold Bn.put
  by_cases cs : Bn.allSizes l = false
  · rw [if_pos (.inl cs)]; exact put_size l v u w hr cs
  · have hs : Bn.allSizes l = true := by simpa using cs
    by_cases ce : l.length = m.length
    · rw [if_neg (by rintro (h | h) <;> contradiction)]; exact put_work l m v u w hr hr2 hs ce hn
    · rw [if_pos (.inr ce)]; exact put_many l m v u w hr hr2 hs ce
end Go.Proofs.Ytcnmfgdeanbhoaa
/-
  Contracts of slices.Grow (of nil) and slices.Concat (of two rows of numbers). No conditions beyond those stated.
-/
namespace Go.Proofs.Ytcnmfgdeanbhoaa
open Go.RowKit

theorem zeros_size (n : Nat) : (Builtin.zeroCells #[Value.int .i64 0] n).size = n := by
  unfold Builtin.zeroCells
  simp
set_option maxRecDepth 100000 in
set_option maxHeartbeats 1600000 in
theorem grow_any (n : Nat) (w : World) (hn : n ≤ 1000000) :
    Calls Try.prog 80 #[.slice none 0 0, .int .i64 (n : Int)] w fun e w' => ∃ p c, e = .returned (.slice p 0 c) ∧ Own w' w.heap.size (.slice p 0 c) [] ∧ Lo w w' := by
  by_cases h0 : n = 0
  · subst h0
    go_enter Try.func80, Try.ntmps80
    go_wp2_with fail
    go_ret
    exact ⟨none, 0, rfl, Own.none _ _, Lo.refl _⟩
  · obtain ⟨i0, hi0, hz0, hz1, hz2⟩ := info_parts int_info
    have hrz : ∀ ty, (Builtin.append_ #[33, 3] ty #[.slice none 0 0, .int .i64 (n : Int)]).run Try.prog w =
        .ok (.slice (some ⟨w.heap.size, 0, none⟩) n (grownCap w n 0 3)) (w.drew.alloc (.cells (Builtin.zeroCells (Value.int .i64 0).cells n ++ Builtin.zeroCells (Value.int .i64 0).cells (grownCap w n 0 3 - n)) 3)) := fun ty =>
      Lib.run_append_nil_zeros w 33 3 ty 3 i0 _ .i64 .i64 Try.underlying33 Try.underlying3 hi0 hz0 n (by omega) (by omega) (by omega) (by rw [hz2]; omega)
    have hge : n ≤ grownCap w n 0 3 := grownCap_ge w _ _ _
    have hle : grownCap w n 0 3 ≤ 9223372036854775807 := by
      have := grownCap_le_maxLen w n 0 3 (by unfold maxLen; omega)
      unfold maxLen at this
      omega
    have hle2 := grownCap_le_maxLen w n 0 3 (by unfold maxLen; omega)
    rw [show (Value.int .i64 0).cells = #[Value.int .i64 0] from rfl] at hrz
    generalize grownCap w n 0 3 = G at *
    have HO : Hid (Own (w.drew.alloc (.cells (Builtin.zeroCells #[Value.int .i64 0] n ++ Builtin.zeroCells #[Value.int .i64 0] (G - n)) 3)) w.heap.size (.slice (some ⟨w.heap.size, 0, none⟩) 0 G) []) := Lib.hid (by
      refine ⟨rfl, .inr ⟨w.heap.size, G, _, rfl, Nat.le_refl _, new_block w.drew _, Nat.zero_le _, hle2, ?_, by simp⟩⟩
      rw [Array.size_append, zeros_size, zeros_size]; omega)
    have HL : Hid (Lo w (w.drew.alloc (.cells (Builtin.zeroCells #[Value.int .i64 0] n ++ Builtin.zeroCells #[Value.int .i64 0] (G - n)) 3))) := Lib.hid (((Lo.refl w).drew).alloc _)
    generalize (Builtin.zeroCells #[Value.int .i64 0] n ++ Builtin.zeroCells #[Value.int .i64 0] (G - n)) = cs at *
    have h1 : 0 < (n : Int) := by omega
    go_enter Try.func80, Try.ntmps80
    go_wp2_with (at_builtin; refine Lib.wpList_append_run _ rfl _ _ _ _ rfl _ _ rfl rfl _ _ (hrz _) ?_)
    all_goals
      go_ret
      exact ⟨_, _, rfl, HO.out, HL.out⟩

/-- The first k of two rows, behind one another. -/
def upTo (a b : List Int) (k : Nat) : List Int := if k = 0 then [] else if k = 1 then a else a ++ b

set_option maxRecDepth 100000 in
set_option maxHeartbeats 3200000 in
theorem concat_own (a b : List Int) (va vb : Value) (B : Nat) (w : World) (hc0 : w.cell? ⟨B, 0, none⟩ = some va) (hc1 : w.cell? ⟨B, 1, none⟩ = some vb) (ha : Row w va a) (hb : Row w vb b) (hn : a.length + b.length ≤ 500000) :
    Calls Try.prog 66 #[.slice (some ⟨B, 0, none⟩) 2 2] w fun e w' => ∃ p c, e = .returned (.slice p (a.length + b.length) c) ∧ Own w' w.heap.size (.slice p (a.length + b.length) c) (a ++ b) ∧ Lo w w' := by
  obtain ⟨pa, ca, rfl, _⟩ := ha.form
  obtain ⟨pb, cb, rfl, _⟩ := hb.form
  have HA := Lib.hid ha
  have HB := Lib.hid hb
  have HBl : Hid (B < w.heap.size) := Lib.hid (World.block_lt_of_cell? w _ hc0)
  have HG := Lib.hid (fun (W : World) => grow_any (a.length + b.length) W (by omega))
  generalize hna : a.length = na at *
  generalize hnb : b.length = nb at *
  have HNA := Lib.hid hna
  have HNB := Lib.hid hnb
  clear ha hb hna hnb
  go_enter Try.func66, Try.ntmps66
  go_wp2_with fail
  go_loopw [3, 5, 11] (fun s3 _ s11 W => ∃ k m : Nat, k ≤ 2 ∧ s11 = .int .i64 k ∧ s3 = .int .i64 m ∧ m = (if k = 0 then 0 else if k = 1 then na else na + nb) ∧ W = w) (fun _ _ s11 _ => 2 - (intOf s11).toNat)
  case atStart => exact ⟨0, 0, by omega, rfl, rfl, rfl, rfl⟩
  case round =>
    obtain ⟨k, m, hk, rfl, rfl, hm, rfl⟩ := hrel
    obtain rfl | rfl | rfl : k = 0 ∨ k = 1 ∨ k = 2 := by omega
    · simp only [if_true] at hm
      subst hm
      go_wp2_with fail
      go_roundw
      case rel => exact ⟨1, na, by omega, by go_num, by go_num, by simp, trivial⟩
      case measure => simp [intOf]
    · simp at hm
      subst hm
      go_wp2_with fail
      go_roundw
      case rel => exact ⟨2, m + nb, by omega, by go_num, by go_num, by simp, trivial⟩
      case measure => simp [intOf]
    · simp at hm
      subst hm
      rename World => w
      go_wp2_with fail
      refine (HG.out _).mono ?_
      rintro e w1 ⟨p1, c1, rfl, hown, lo⟩
      have HO := Lib.hid hown
      have HL := Lib.hid lo
      have HC0 := Lib.hid hc0
      have HC1 := Lib.hid hc1
      clear hown lo HG hc0 hc1
      go_wp2_with fail
      go_loopw [6, 8, 27] (fun s6 _ s27 W => ∃ (k : Nat) (L : List Int) (q : Option Addr) (d : Nat), k ≤ 2 ∧ s27 = .int .i64 k ∧ s6 = .slice q L.length d ∧ Hid (L = upTo a b k) ∧ Hid (Own W w.heap.size (.slice q L.length d) L) ∧ Hid (Lo w W)) (fun _ _ s27 _ => 2 - (intOf s27).toNat)
      case atStart => exact ⟨0, [], p1, c1, by omega, rfl, rfl, Lib.hid rfl, HO, HL⟩
      case round =>
        obtain ⟨k, L, q, d, hk, rfl, rfl, HT, HO2, HL2⟩ := hrel
        have c0 := (HL2.out.cell HBl.out).trans HC0.out
        have c1 := (HL2.out.cell HBl.out).trans HC1.out
        obtain rfl | rfl | rfl : k = 0 ∨ k = 1 ∨ k = 2 := by omega
        · obtain rfl : L = [] := HT.out
          have HR := Lib.hid (HA.out.lo HL2.out)
          have HSZ := Lib.hid HL2.out.size
          go_wp2_with (at_builtin; refine wpList_app _ rfl (.tmp 31) (.tmp 32) rfl w.heap.size _ _ rfl HO2.out _ a rfl HR.out (by rw [HNA.out]; simp; omega) HSZ.out ?_; intro q1 d1 w4 hown hlo; have HO4 := Lib.hid hown; have HL4 := Lib.hid (hlo w HL2.out rfl); clear hown hlo)
          go_roundw
          case rel => exact ⟨1, a, q1, d1, by omega, by go_num, by simp, Lib.hid rfl, by simpa using HO4, HL4⟩
          case measure => simp [intOf]
        · obtain rfl : L = a := HT.out
          have HR := Lib.hid (HB.out.lo HL2.out)
          have HSZ := Lib.hid HL2.out.size
          go_wp2_with (at_builtin; refine wpList_app _ rfl (.tmp 31) (.tmp 32) rfl w.heap.size _ _ rfl HO2.out _ b rfl HR.out (by rw [HNA.out, HNB.out]; omega) HSZ.out ?_; intro q1 d1 w4 hown hlo; have HO4 := Lib.hid hown; have HL4 := Lib.hid (hlo w HL2.out rfl); clear hown hlo)
          go_roundw
          case rel => exact ⟨2, L ++ b, q1, d1, by omega, by go_num, by simp, Lib.hid rfl, by simpa using HO4, HL4⟩
          case measure => simp [intOf]
        · obtain rfl : L = a ++ b := HT.out
          go_wp2_with fail
          go_ret
          have e : (a ++ b).length = na + nb := by rw [List.length_append, HNA.out, HNB.out]
          rw [← e]
          exact ⟨q, d, rfl, HO2.out, HL2.out⟩
theorem concat_any (a b : List Int) (va vb : Value) (B : Nat) (w : World) (hc0 : w.cell? ⟨B, 0, none⟩ = some va) (hc1 : w.cell? ⟨B, 1, none⟩ = some vb) (ha : Row w va a) (hb : Row w vb b) (hn : a.length + b.length ≤ 500000) :
    Calls Try.prog 66 #[.slice (some ⟨B, 0, none⟩) 2 2] w fun e w' => ∃ p c, e = .returned (.slice p (a.length + b.length) c) ∧ Row w' (.slice p (a.length + b.length) c) (a ++ b) ∧ Lo w w' :=
  (concat_own a b va vb B w hc0 hc1 ha hb hn).mono fun e w' h => by
    obtain ⟨p, c, h1, h2, h3⟩ := h
    exact ⟨p, c, h1, Own.row h2, h3⟩
end Go.Proofs.Ytcnmfgdeanbhoaa
/-
  append onto one of many rows of ints that the call itself owns: what it tells of all the others. Nothing of the program but its types. No conditions beyond those stated.
-/
namespace Go.Proofs.Ytcnmfgdeanbhoaa
open Go.RowKit

/-- The row, what stood below the base, the blocks that are not the row's, and where the new one lies. -/
structure ToldI (w : World) (base : Nat) (v : Value) (l : List Int) (v' : Value) (w' : World) : Prop where
  own : Own w' base v' l
  lo : ∀ w0, Lo w0 w → w0.heap.size ≤ base → Lo w0 w'
  agr : Agr (fun T => v.ownBlock = some T) w w'
  new : ∀ g, v'.ownBlock = some g → v.ownBlock = some g ∨ g = w.heap.size
/-- Another row stands, and lies apart still. -/
theorem ToldI.other {w w' : World} {base base2 : Nat} {v v' o : Value} {l m : List Int} (h : ToldI w base v l v' w') (ho : Own w base2 o m) (ha : Apart v o) : Own w' base2 o m ∧ Apart v' o := by
  refine ⟨own_agr' ho h.agr ha, fun g hg hog => ?_⟩
  rcases h.new g hg with q | q
  · exact ha g q hog
  · have := own_lt ho hog
    omega
where
  own_agr' {S : Nat → Prop} {w w' : World} {base : Nat} {o : Value} {m : List Int} (ho : Own w base o m) (a : Agr S w w') (hv : ∀ g, S g → o.ownBlock ≠ some g) : Own w' base o m := by
    refine ⟨ho.1, ?_⟩
    rcases ho.2 with h2 | ⟨g, cap, cur, rfl, hg, hh, r⟩
    · exact .inl h2
    · refine .inr ⟨g, cap, cur, rfl, hg, ?_, r⟩
      have hlt : g < w.heap.size := by
        rcases Nat.lt_or_ge g w.heap.size with hlt | hge
        · exact hlt
        · rw [Array.getElem?_eq_none hge] at hh; cases hh
      rw [a.2 g hlt (fun q => hv g q rfl)]; exact hh
/-- append of numbers, onto a row of the call's own. -/
theorem wpList_appT (w : World) {ops : Array Oper} {rest : List Oper} {o : Oper} {a : Act} {Q : Exit → Act → World → Prop} (hgd : o.guard = none) (s x : Operand)
    (ho : o.op = .call { callee := .builtin .append, args := #[s, x], argTypes := #[33, 33] })
    (base : Nat) (v : Value) (xs : List Int) (hs : a.eval s = v) (hown : Own w base v xs) (u : Value) (ys : List Int) (hx : a.eval x = u) (hr : Row w u ys) (hm : 0 < ys.length)
    (hlen : xs.length + ys.length ≤ 1000000) (hbase : base ≤ w.heap.size)
    (h : ∀ p c w', ToldI w base v (xs ++ ys) (.slice p (xs.length + ys.length) c) w' → wpList Try.prog ops Q rest (a.put o.dst (.slice p (xs.length + ys.length) c)) w') : wpList Try.prog ops Q (o :: rest) a w := by
  obtain ⟨i0, hi0, hz0, hz1, hz2⟩ := info_parts int_info
  rcases hr with ⟨_, _, _, _, rfl⟩ | ⟨b, off, cap, rfl, h2, h2b, h3, h4⟩
  · simp at hm
  · refine wpList_append_lies w hgd s x 33 ho base 3 i0 _ 1 8 Try.underlying33 hi0 hz0 hz1 hz2 rfl (by omega) v xs.length _ hs hown ⟨b, off, .none⟩ ys.length cap (ys.map (Value.int .i64)) hx (by simp) ?_ (ints_oneCell _ _) hm (by unfold maxLen; omega) (by omega) hbase _ rfl ?_
    · intro j u hj
      have hjl : j < ys.length := by
        rcases Nat.lt_or_ge j ys.length with hlt | hge
        · exact hlt
        · rw [List.getElem?_eq_none (by simpa using hge)] at hj; cases hj
      have := h4 j hjl
      have e1 : (⟨b, off, .none⟩ : Addr).add j = ⟨b, off + j, .none⟩ := by
        unfold Addr.add; split <;> simp_all
      rw [e1, this]
      simp [hjl] at hj
      simp [List.getD, hjl, hj]
    · intro g cap2 w' hown' hg hwhere _
      have hown2 : Own w' base (.slice (some ⟨g, 0, none⟩) (xs.length + ys.length) cap2) (xs ++ ys) := by
        unfold Own
        rw [List.length_append, List.map_append]
        exact hown'
      refine h _ _ w' ⟨hown2, fun w0 hlo hb0 => Below.grown hlo hg hlo.size (fun k hk => by have := (World.ownsRow.lt hown k hk).1; omega), agr_grown hg fun g q => q, fun g' q => ?_⟩
      have e1 : g = g' := by simpa [Value.ownBlock] using q
      subst e1; exact hwhere
end Go.Proofs.Ytcnmfgdeanbhoaa

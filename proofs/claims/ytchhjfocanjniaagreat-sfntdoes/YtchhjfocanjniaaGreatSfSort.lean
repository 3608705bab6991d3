/-
  The contract of sort.Slice as overlap calls it: the rows of records hold a permutation of what they held, ascending by where they stand. No conditions beyond those stated.
-/
import Derived.Test.YtchhjfocanjniaaGreatSfRead
import Derived.Shelf.SlSortFuncK.WholeK
namespace Go.Proofs.YtchhjfocanjniaaGreat
open Go.RowKit Go.Sort

/-- A record's cells. -/
def encR (r : Rec) : List Value := [.string ⟨r.1.1.toArray⟩, .string ⟨r.1.2.toArray⟩, .int .i64 r.2]
theorem encR_len (r : Rec) : (encR r).length = 3 := rfl
theorem encR_one (r : Rec) : ∀ u ∈ encR r, u.oneCell' = true := by
  intro u hu; simp [encR] at hu; rcases hu with rfl | rfl | rfl <;> rfl
/-- Which of two stands first. -/
def ltR (a b : Rec) : Bool := decide (a.2 < b.2)
theorem swo_ltR : SWO ltR := ⟨fun x => by simp [ltR], fun x y z h1 h2 => by simp [ltR] at *; omega, fun x y z h1 h2 => by simp [ltR] at *; omega⟩
instance : Inhabited Rec := ⟨(([], []), 0)⟩

set_option maxHeartbeats 2000000 in
theorem less_any (blk off c Bs size : Nat) (W : World) (G : Nat → Nat) (hs : W.cell? ⟨Bs, 0, none⟩ = some (.slice (some ⟨blk, off, none⟩) size c))
    (hc : ∀ t, t < size → W.cell? ⟨blk, off + t * 3 + 2, none⟩ = some (.int .i64 (G t))) (i j : Nat) (hi : i < size) (hj : j < size) (_hsz : size < 4611686018427387904) :
    Calls Tryz.prog 43 #[.int .i64 i, .int .i64 j, .pointer (some ⟨Bs, 0, none⟩)] W fun e w' => e = .returned (.bool (decide (G i < G j))) ∧ ∃ q, w' = W.drewN q := by
  have ci := hc i hi
  have cj := hc j hj
  clear hc
  go_enter Tryz.func43, Tryz.ntmps43
  go_wp2
  go_quiet (fail)
  go_wp2
  go_ret
  exact ⟨ret_bool (by simp), nq, rfl⟩

theorem map_parts {α β : Type} {o : Option α} {f : α → β} {y : β} (h : o.map f = some y) : ∃ i, o = some i ∧ f i = y := by
  cases o with
  | none => cases h
  | some i => exact ⟨i, rfl, Option.some.inj h⟩
theorem svK (n : Nat) (h2 : 2 ≤ n) (i : TypeInfo) (a : i.hasPointers = true) (b : i.bytes = 40) : Lib.swapperK n i 25 = 9 := by
  have c : (n == 0) = false := by simp; omega
  have d : (n == 1) = false := by simp; omega
  simp [Lib.swapperK, a, b, c, d]

/-- Two in a row stand so. -/
def Asc (l : List Rec) : Prop := ∀ (i j : Nat) (x y : Rec), i < j → l[i]? = some x → l[j]? = some y → x.2 ≤ y.2

theorem getBang {α : Type} [Inhabited α] {d : Array α} {i : Nat} {x : α} (h : d.toList[i]? = some x) : d[i]! = x ∧ i < d.size := by
  have hi : i < d.toList.length := (List.getElem?_eq_some_iff.1 h).1
  have hi' : i < d.size := by simpa using hi
  refine ⟨?_, hi'⟩
  rw [getElem!_pos d i hi']
  have := (List.getElem?_eq_some_iff.1 h).2
  simpa using this

theorem own_block {enc : Rec → List Value} {ty k : Nat} {w : World} {base g c n : Nat} {l : List Rec} (h : OwnK enc ty k w base (.slice (some ⟨g, 0, none⟩) n c) l) : ∃ cur, w.heap[g]? = some (.cells cur ty (0, 0)) ∧ base ≤ g ∧ l.length = n := by
  rcases h.2 with ⟨h1, _⟩ | ⟨g', cap, cur, h1, hg, hh, _⟩
  · cases h1
  · injection h1 with h1 h2 _
    injection h1 with h1
    injection h1 with h1 _ _
    subst h1
    exact ⟨cur, hh, hg, h2.symm⟩
theorem own_holds {w : World} {base g c n : Nat} {l : List Rec} (h : OwnK encR 45 3 w base (.slice (some ⟨g, 0, none⟩) n c) l) : HoldsK encR 3 w g 0 l.toArray := by
  obtain ⟨cur, hh, _, rfl⟩ := own_block h
  intro j hj
  rw [size_flatK] at hj
  refine ⟨?_, block_frozen hh⟩
  have hj' : j < l.length * 3 := by simpa using hj
  have hd : j / 3 < l.length := by omega
  obtain ⟨x, hx⟩ := Sf.some_at hd
  obtain ⟨b, off, hb, hc⟩ := RowK.at_ (OwnK.row encR_len h) hx
  injection hb with hb
  injection hb with hb ho _
  subst hb
  subst ho
  have := hc (j % 3) (by omega)
  rw [show 0 + j / 3 * 3 + j % 3 = 0 + j by omega] at this
  rw [this, get_flatK _ _ _ _ hj]
  have hg := (getBang (d := l.toArray) (i := j / 3) (x := x) (by simpa using hx)).1
  rw [hg]
  have : j % 3 = 0 ∨ j % 3 = 1 ∨ j % 3 = 2 := by omega
  rcases this with h | h | h <;> rw [h] <;> rfl
theorem holds_row {w : World} {g c : Nat} {d : Array Rec} (h : HoldsK encR 3 w g 0 d) (hg : g < w.heap.size) (h1 : d.size ≤ 9223372036854775807) (h2 : d.size ≤ c) : RowK encR 3 w (.slice (some ⟨g, 0, none⟩) d.size c) d.toList := by
  refine .inr ⟨g, 0, c, by simp, by simpa using h1, by simpa using h2, hg, fun i x hx j hj => ?_⟩
  obtain ⟨hb, hi⟩ := getBang hx
  rw [(h.cell hi hj).1, hb]
  obtain rfl | rfl | rfl : j = 0 ∨ j = 1 ∨ j = 2 := by omega
  all_goals rfl
theorem sort_below (w : World) (n g : Nat) (d : Array Rec) (os : Array Obj) (base : Nat) (hb : base ≤ g) (hg : g < w.heap.size) : Below base w (grow (putRowK encR 3 (Sort.ahead w n) g 0 d) os) := by
  refine ⟨rfl, rfl, rfl, ?_, fun j hj => ?_⟩
  · rw [size_grow, size_putRowK]; exact Nat.le_add_right _ _
  · have hlt : j < (putRowK encR 3 (Sort.ahead w n) g 0 d).heap.size := by rw [size_putRowK]; show j < w.heap.size; omega
    show ((putRowK encR 3 (Sort.ahead w n) g 0 d).heap ++ os)[j]? = _
    rw [Array.getElem?_append_left hlt]
    show ((Sort.ahead w n).heap.modify g _)[j]? = _
    rw [Array.getElem?_modify, if_neg (by omega)]
    rfl

set_option maxRecDepth 100000 in
/-- sort.Slice, as overlap calls it. -/
theorem sort_any (F base : Nat) (w : World) (p : Option Addr) (n c : Nat) (l : List Rec) (hF : w.heap[F]? = some (.cells #[.slice p n c] 43 (0, 0))) (hown : OwnK encR 45 3 w base (.slice p n c) l) (hlen : l.length ≤ 1000000) (hbase : base ≤ w.heap.size) :
    Calls Tryz.prog 42 #[.iface 43 (.slice p n c), .func (.func 43) #[] #[.pointer (some ⟨F, 0, none⟩)]] w fun e w' =>
      e = .returned (.tuple #[]) ∧ ∃ l', l'.Perm l ∧ Asc l' ∧ RowK encR 3 w' (.slice p n c) l' ∧ w'.cell? ⟨F, 0, none⟩ = some (.slice p n c) ∧ Below base w w' := by
  have hFs : F < w.heap.size := by
    rcases Nat.lt_or_ge F w.heap.size with hlt | hge
    · exact hlt
    · rw [Array.getElem?_eq_none hge] at hF; cases hF
  obtain ⟨iT, hiT, hdT⟩ := map_parts (show (Tryz.prog.info? 43).map (fun i => i.desc) = some (.slice 45) by kernel_rfl)
  obtain ⟨iE, hiE, hfE⟩ := map_parts (show (Tryz.prog.info? 45).map (fun i => (i.size, i.hasPointers, i.bytes)) = some (3, true, 40) by kernel_rfl)
  injection hfE with hE1 hfE
  injection hfE with hE2 hE3
  have hn : l.length = n := by
    obtain ⟨p', c', h1⟩ := hown.form
    injection h1 with _ h1 _
    exact h1.symm
  have hrow := OwnK.row encR_len hown
  by_cases h2 : 2 ≤ n
  · rcases hown.2 with ⟨h1, _⟩ | ⟨g, cap, cur, h1, hg, hh, hcap, hmax, _⟩
    · injection h1 with _ h1 _; omega
    · injection h1 with h1 _ h3
      subst h1 h3 hn
      have hgs : g < w.heap.size := by
        rcases Nat.lt_or_ge g w.heap.size with hlt | hge
        · exact hlt
        · rw [Array.getElem?_eq_none hge] at hh; cases hh
      have hne : F ≠ g := by
        rintro rfl
        rw [hF] at hh
        injection hh with hh
        injection hh with _ hh _
        exact absurd hh (by decide)
      have hH := own_holds hown
      have hds : l.toArray.size = l.length := by simp
      have hcF := block_cell (i := 0) hF rfl
      have hless : LessReadsK Tryz.prog 43 #[.pointer (some ⟨F, 0, none⟩)] encR 3 ltR g 0 l.toArray.size w := by
        intro m os dk hs i j hi hj
        have e : sortWorldK encR 3 w g 0 m dk os = putRowK encR 3 (grow (Sort.ahead w m) os) g 0 dk := by
          unfold sortWorldK; rw [putRowK_grow _ _ (Sort.ahead w m) _ g 0 _ hgs]
        have hHg : HoldsK encR 3 (grow (Sort.ahead w m) os) g 0 l.toArray := holdsK_grow _ _ _ _ g 0 _ hgs (holdsK_ahead _ _ _ _ _ _ _ hH)
        refine less_any g 0 c F l.length _ (fun t => dk[t]!.2) ?_ (fun t ht => ?_) i j (by omega) (by omega) (by omega)
        · rw [e, cell?_putRowK_other _ _ _ g 0 dk _ (by exact hne), cell?_grow _ _ _ (by exact hFs)]; exact hcF
        · rw [e]; exact ((holdsK_putRowK _ _ _ g 0 _ dk hHg hs).cell (i := t) (c := 2) (by omega) (by omega)).1
      have key := Any.sort_Slice_cells_sorted Tryz.laysGg6 43 45 iT iE hiT hdT (by kernel_rfl) hiE 25 (fun _ => by kernel_rfl) encR 3 encR_len hE1 (fun _ => by kernel_rfl)
        encR_one ltR swo_ltR 43 #[.pointer (some ⟨F, 0, none⟩)]
        (enters_of Tryz.func43 (by kernel_rfl) rfl) g 0 c l.toArray (by omega) (by omega) 87 (by rw [svK _ (by omega) iE hE2 hE3]; kernel_rfl) false
        (fun args W => run_callFunc_extern Tryz.func87 (by kernel_rfl) (by kernel_rfl) (by kernel_rfl) (e := Extern.ReflectliteSwapper.swap false) (by kernel_rfl) args W) w hless hH hgs
      rw [hds] at key
      refine key.mono ?_
      rintro e w' ⟨rfl, d', m, os, hperm, hsort, rfl⟩
      have hsz : d'.size = l.length := by rw [hperm.1]; exact hds
      have hH' : HoldsK encR 3 (grow (putRowK encR 3 (Sort.ahead w m) g 0 d') os) g 0 d' :=
        holdsK_grow _ _ _ _ g 0 _ (by rw [size_putRowK]; exact hgs) (holdsK_putRowK _ _ _ g 0 _ d' (holdsK_ahead _ _ _ _ _ _ _ hH) (by rw [hsz, hds]))
      refine ⟨rfl, d'.toList, ?_, ?_, ?_, ?_, sort_below w m g d' os base hg hgs⟩
      · have := hperm.2.2
        rw [Array.extract_eq_self_of_le (by omega)] at this
        rw [Array.extract_eq_self_of_le (by simp)] at this
        simpa using this
      · intro i j x y hij hx hy
        obtain ⟨hx1, hx2⟩ := getBang hx
        obtain ⟨hy1, hy2⟩ := getBang hy
        have := hsort i j (Nat.zero_le _) hij (by omega)
        rw [hx1, hy1] at this
        simp [ltR] at this
        exact this
      · have := holds_row (c := c) hH' (by rw [size_grow, size_putRowK]; exact Nat.lt_of_lt_of_le hgs (Nat.le_add_right _ _)) (by omega) (by omega)
        rwa [hsz] at this
      · rw [cell?_grow _ _ _ (by rw [size_putRowK]; exact hFs), cell?_putRowK_other _ _ _ g 0 d' _ (by exact hne)]
        exact hcF
  · have htiny : ∃ f, Tryz.prog.funcs.findIdx? (·.name == "internal/reflectlite" ++ ".Swapper$" ++ toString (Lib.swapperK n iE 25)) = some f := by
      obtain rfl | rfl : n = 0 ∨ n = 1 := by omega
      · exact ⟨79, by rw [show Lib.swapperK 0 iE 25 = 1 from rfl]; kernel_rfl⟩
      · exact ⟨80, by rw [show Lib.swapperK 1 iE 25 = 2 from rfl]; kernel_rfl⟩
    obtain ⟨f, hf⟩ := htiny
    refine (Any.sort_Slice_tiny Tryz.laysGg6 43 45 iT iE hiT hdT (by kernel_rfl) hiE 25 (fun _ => by kernel_rfl) p n c (by omega) f hf (.func 43) #[] #[.pointer (some ⟨F, 0, none⟩)] w).mono ?_
    rintro e w' ⟨rfl, os, rfl⟩
    have hlo : Lo w (grow w os) := grow_lo w 0 os
    refine ⟨rfl, l, List.Perm.refl _, ?_, hrow.lo hlo, ?_, hlo.mono hbase⟩
    · intro i j x y hij hx hy
      have h1 := (List.getElem?_eq_some_iff.1 hx).1
      have h2 := (List.getElem?_eq_some_iff.1 hy).1
      omega
    · rw [cell?_grow _ _ _ (by exact hFs)]; exact block_cell (i := 0) hF rfl
end Go.Proofs.YtchhjfocanjniaaGreat

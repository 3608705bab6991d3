/-
  The contract of dimen's number: the number that 1 to so many digits are; else an error is raised. No conditions.
-/
import Derived.Test.YtlfhnldeidgkjaaDoorDmTextW
import Derived.Lib.ConvBytes
import Derived.Deep.QuietTactic
import Derived.BigQuiet
namespace Dm
theorem take_snoc (l : List UInt8) (k : Nat) (h : k < l.length) : l.take (k + 1) = l.take k ++ [l.getD k 0] := by
  rw [List.take_succ_eq_append_getElem h]; simp [List.getD, List.getElem?_eq_getElem h]
theorem all_snoc (l : List UInt8) (c : UInt8) : (l ++ [c]).all isDig = (l.all isDig && isDig c) := by simp
theorem getD_mem (l : List UInt8) (k : Nat) (h : k < l.length) : l.getD k 0 ∈ l := by
  simp [List.getD, List.getElem?_eq_getElem h]
theorem isDig_iff (c : UInt8) : isDig c = true ↔ 48 ≤ c.toNat ∧ c.toNat ≤ 57 := by simp [isDig]
end Dm
namespace Go.Proofs.YtlfhnldeidgkjaaDoor
open Go.RowKit

theorem conv_bytes (l : List UInt8) (w : World) : ∃ B C W1, (convert 9 37 (.string ⟨l.toArray⟩)).run Tryd.prog w = .ok (.slice (some ⟨B, 0, none⟩) l.length C) W1 ∧ Lo w W1 ∧
    ∀ j, j < l.length → W1.cell? ⟨B, j, none⟩ = some (.int .u8 (l.getD j 0).toNat) := by
  refine ⟨_, _, _, Lib.run_convert_string_bytes w 9 37 5 ⟨l.toArray⟩ Tryd.underlying9 Tryd.underlying37 Tryd.underlying5, ?_, fun j hj => Lib.bytesWorld_cell w 5 ⟨l.toArray⟩ j hj⟩
  exact ⟨rfl, rfl, rfl, by rw [Lib.bytesWorld_size]; omega, fun k hk => Lib.bytesWorld_at_old w _ _ k hk⟩

set_option maxHeartbeats 400000 in
theorem number_short (l : List UInt8) (most : Int) (w : World) (h : l.length < 1 ∨ most < l.length) (hl : l.length ≤ 9223372036854775807) :
    Calls Tryd.prog 40 #[.string ⟨l.toArray⟩, .int .i64 most] w fun e w' => e = .panicked (raise 5) ∧ Lo w w' := by
  rcases h with h | h
  · go_enter Tryd.func40, Tryd.ntmps40
    go_wp2
    exact ⟨rfl, rfl, Lo.refl _⟩
  · by_cases h1 : l.length < 1
    · go_enter Tryd.func40, Tryd.ntmps40
      go_wp2
      exact ⟨rfl, rfl, Lo.refl _⟩
    · go_enter Tryd.func40, Tryd.ntmps40
      go_wp2
      exact ⟨rfl, rfl, Lo.refl _⟩

/-- How number ends. -/
def NumEnd (l : List UInt8) (e : Ending) : Prop := (l.all Dm.isDig = true ∧ e = .returned (.int .i64 (Dm.numv l : Nat))) ∨ (l.all Dm.isDig = false ∧ e = .panicked (raise 5))

set_option maxHeartbeats 800000 in
theorem number_long (l : List UInt8) (most : Int) (w : World) (h1 : 1 ≤ l.length) (h2 : (l.length : Int) ≤ most) (h3 : l.length ≤ 10) :
    Calls Tryd.prog 40 #[.string ⟨l.toArray⟩, .int .i64 most] w fun e w' =>
      NumEnd l e ∧ Lo w w' := by
  obtain ⟨B, C, W1, hconv, hlo, hcell⟩ := conv_bytes l w
  have HC := Lib.hid hcell
  clear hcell
  have HN : Hid (l.length = l.length) := Lib.hid rfl
  go_enter Tryd.func40, Tryd.ntmps40
  go_wp2_with fail
  go_loop [5, 7, 21] (fun n _ i => ∃ k v : Nat, k ≤ l.length ∧ i = .int .i64 k ∧ n = .int .i64 v ∧ Hid (v = Dm.numv (l.take k)) ∧ Hid ((l.take k).all Dm.isDig = true)) (fun _ _ i => l.length - (intOf i).toNat)
  case atStart => exact ⟨0, 0, Nat.zero_le _, rfl, rfl, Lib.hid rfl, Lib.hid rfl⟩
  case round =>
    obtain ⟨k, v, hk, rfl, rfl, HV, HA⟩ := hrel
    have hv : v < 10000000000 := by
      have := Dm.numv_lt (l.take k) HA.out
      rw [HV.out]
      have h5 : 10 ^ (l.take k).length ≤ 10 ^ 10 := Nat.pow_le_pow_right (by omega) (by simp; omega)
      omega
    by_cases hlt : k < l.length
    · have hc := HC.out k hlt
      have hmem := Lib.hid (Dm.getD_mem l k hlt)
      have HS := Lib.hid (Dm.take_snoc l k hlt)
      have hb : (l.getD k 0).toNat < 256 := UInt8.toNat_lt _
      generalize hg : l.getD k 0 = c at *
      have HG := Lib.hid hg
      clear hg
      have HB : Hid (c.toNat < 256) := Lib.hid hb
      by_cases hd : 48 ≤ c.toNat ∧ c.toNat ≤ 57
      · obtain ⟨d1, d2⟩ := hd
        go_wp2_with fail
        go_round
        case rel => 
          refine ⟨k + 1, 10 * v + (c.toNat - 48), by omega, by go_num, ?_, ?_, ?_⟩
          · exact congrArg (Value.int .i64) (by omega)
          · exact Lib.hid (by rw [HS.out, Dm.numv_snoc, ← HV.out])
          · exact Lib.hid (by rw [HS.out, Dm.all_snoc, HA.out, (Dm.isDig_iff c).2 ⟨d1, d2⟩]; rfl)
        case measure => simp [intOf]; omega
      · have hno : l.all Dm.isDig = false := by
          rw [Bool.eq_false_iff]
          intro hall
          exact hd ((Dm.isDig_iff c).1 (List.all_eq_true.1 hall c hmem.out))
        have HNo := Lib.hid hno
        clear hno
        by_cases d1 : c.toNat < 48
        · clear hd
          go_wp2_with fail
          exact ⟨rfl, .inr ⟨HNo.out, rfl⟩, hlo⟩
        · have d2 : 57 < c.toNat := by omega
          clear hd
          go_wp2_with fail
          exact ⟨rfl, .inr ⟨HNo.out, rfl⟩, hlo⟩
    · go_wp2_with fail
      go_ret
      have e1 : l.take k = l := List.take_of_length_le (by omega)
      have e2 := HA.out
      have e3 := HV.out
      rw [e1] at e2 e3
      exact ⟨.inl ⟨e2, ret_int (by rw [e3])⟩, hlo⟩

theorem number_good (l : List UInt8) (most : Nat) (w : World) (hm : most ≤ 10) (h : Dm.good l most = true) :
    Calls Tryd.prog 40 #[.string ⟨l.toArray⟩, .int .i64 most] w fun e w' => e = .returned (.int .i64 (Dm.numv l : Nat)) ∧ Lo w w' := by
  simp only [Dm.good, Bool.and_eq_true, decide_eq_true_eq] at h
  refine (number_long l most w h.1.1 (by omega) (by omega)).mono ?_
  rintro e w' ⟨⟨_, rfl⟩ | ⟨h1, _⟩, hl⟩
  · exact ⟨rfl, hl⟩
  · rw [h.2] at h1; cases h1

theorem number_bad (l : List UInt8) (most : Nat) (w : World) (hm : most ≤ 10) (hl : l.length ≤ 9223372036854775807) (h : Dm.good l most = false) :
    Calls Tryd.prog 40 #[.string ⟨l.toArray⟩, .int .i64 most] w fun e w' => e = .panicked (raise 5) ∧ Lo w w' := by
  by_cases h1 : l.length < 1 ∨ (most : Int) < l.length
  · exact number_short l most w h1 hl
  · refine (number_long l most w (by omega) (by omega) (by omega)).mono ?_
    rintro e w' ⟨⟨h2, _⟩ | ⟨_, rfl⟩, hlo⟩
    · have : Dm.good l most = true := by simp [Dm.good, h2]; omega
      rw [this] at h; cases h
    · exact ⟨rfl, hlo⟩

end Go.Proofs.YtlfhnldeidgkjaaDoor
namespace Dm
open Go
theorem cut_miss (l : List UInt8) (h : Lib.indexByte l 46 = -1) : Lib.cut l [46] = (l, [], false) := by
  unfold Lib.cut; rw [Lib.index_one, h, if_neg (by omega)]
theorem cut_hit (l : List UInt8) (i : Nat) (h : Lib.indexByte l 46 = i) : Lib.cut l [46] = (l.take i, l.drop (i + 1), true) := by
  unfold Lib.cut; rw [Lib.index_one, h, if_pos (by omega)]; rfl
theorem index_cases (l : List UInt8) : Lib.indexByte l 46 = -1 ∨ ∃ i : Nat, Lib.indexByte l 46 = i ∧ i + 1 ≤ l.length := by
  have hge := Lib.indexByte_ge l 46
  by_cases h : Lib.indexByte l 46 = -1
  · exact .inl h
  · obtain ⟨i, hi⟩ := Int.eq_ofNat_of_zero_le (a := Lib.indexByte l 46) (by omega)
    refine .inr ⟨i, hi, ?_⟩
    have := (Lib.indexByte_some hi).1
    by_cases hlt : i < l.length
    · omega
    · rw [List.getElem?_eq_none (by omega)] at this; cases this
end Dm
namespace Go.Proofs.YtlfhnldeidgkjaaDoor
open Go.RowKit

theorem ret_cut {a b c d : ByteArray} {t : Bool} (h : a = c) (k : b = d) : Ending.returned (.tuple #[.string a, .string b, .bool t]) = .returned (.tuple #[.string c, .string d, .bool t]) := by rw [h, k]

set_option maxHeartbeats 400000 in
theorem cut_in_miss (l : List UInt8) (w : World) (h : Lib.indexByte l 46 = -1) :
    Calls Tryd.prog 55 #[.string ⟨l.toArray⟩, .string ⟨#[46]⟩] w fun e w' => e = .returned (.tuple #[.string ⟨l.toArray⟩, .string ⟨#[]⟩, .bool false]) ∧ Lo w w' := by
  have HI := Lib.hid h
  clear h
  go_enter Tryd.func55, Tryd.ntmps55
  go_wp2_with fail
  refine (Tryd.stringslite_Index_one ⟨l.toArray⟩ 46 _).mono ?_
  rintro e w' ⟨rfl, rfl⟩
  rw [show Lib.indexByte (ByteArray.mk l.toArray).data.toList 46 = -1 from HI.out]
  go_wp2_with fail
  go_ret3
  exact ⟨rfl, Lo.refl _⟩

set_option maxHeartbeats 400000 in
theorem cut_in_hit (l : List UInt8) (i : Nat) (w : World) (h : Lib.indexByte l 46 = i) (hi : i + 1 ≤ l.length) (hl : l.length ≤ 9223372036854775807) :
    Calls Tryd.prog 55 #[.string ⟨l.toArray⟩, .string ⟨#[46]⟩] w fun e w' => e = .returned (.tuple #[.string ⟨(l.take i).toArray⟩, .string ⟨(l.drop (i + 1)).toArray⟩, .bool true]) ∧ Lo w w' := by
  have HI := Lib.hid h
  clear h
  have c1 : (0 : Int) ≤ ↑i := by omega
  have c2 : (↑i : Int) ≤ ↑l.length := by omega
  have c3 : (0 : Int) ≤ ↑i + 1 := by omega
  have c4 : (↑i + 1 : Int) ≤ ↑l.length := by omega
  have c5 : IntKind.i64.wrap (↑i + 1) = ↑i + 1 := IntWalk.i64_in _ (by omega)
  have c6 : (↑i + 1 : Int).toNat = i + 1 := by omega
  go_enter Tryd.func55, Tryd.ntmps55
  go_wp2_with fail
  refine (Tryd.stringslite_Index_one ⟨l.toArray⟩ 46 _).mono ?_
  rintro e w' ⟨rfl, rfl⟩
  rw [show Lib.indexByte (ByteArray.mk l.toArray).data.toList 46 = i from HI.out]
  go_wp2_with fail
  go_quiet (fail)
  go_wp2_with fail
  go_ret3
  exact ⟨ret_cut (by rw [Dm.extract_list]; simp) (Dm.extract_from l (i + 1)), (Lo.refl _).drewN _⟩

set_option maxHeartbeats 400000 in
theorem cut_out (l a b : List UInt8) (c : Bool) (w : World)
    (h : ∀ W, Calls Tryd.prog 55 #[.string ⟨l.toArray⟩, .string ⟨#[46]⟩] W fun e w' => e = .returned (.tuple #[.string ⟨a.toArray⟩, .string ⟨b.toArray⟩, .bool c]) ∧ Lo W w') :
    Calls Tryd.prog 39 #[.string ⟨l.toArray⟩, .string ⟨#[46]⟩] w fun e w' => e = .returned (.tuple #[.string ⟨a.toArray⟩, .string ⟨b.toArray⟩, .bool c]) ∧ Lo w w' := by
  have HI := Lib.hid h
  clear h
  go_enter Tryd.func39, Tryd.ntmps39
  go_wp2_with fail
  refine (HI.out _).mono ?_
  rintro e w' ⟨rfl, hl⟩
  go_wp2_with fail
  go_ret3
  exact ⟨rfl, hl⟩

/-- Around the first point: strings.Cut. -/
theorem cut_dot (l : List UInt8) (w : World) (hl : l.length ≤ 9223372036854775807) :
    Calls Tryd.prog 39 #[.string ⟨l.toArray⟩, .string ⟨#[46]⟩] w fun e w' =>
      e = .returned (.tuple #[.string ⟨(Lib.cut l [46]).1.toArray⟩, .string ⟨(Lib.cut l [46]).2.1.toArray⟩, .bool (Lib.cut l [46]).2.2]) ∧ Lo w w' := by
  rcases Dm.index_cases l with h | ⟨i, h, hi⟩
  · rw [Dm.cut_miss l h]
    exact cut_out l l [] false w fun W => cut_in_miss l W h
  · rw [Dm.cut_hit l i h]
    exact cut_out l _ _ true w fun W => cut_in_hit l i W h hi hl
end Go.Proofs.YtlfhnldeidgkjaaDoor

/-
  The law SfntChanged where nothing is changed, or nothing put: it returns true. The conditions are the premises.
-/
import Derived.Test.YtbcilhdamjgoeaaSfFiled
import Derived.Test.YtbcilhdamjgoeaaGkBytes2
namespace Go.Proofs.Ytbcilhdamjgoeaa
open Go.RowKit

set_option maxRecDepth 100000 in
set_option maxHeartbeats 1600000 in
theorem sfntChanged_many (l : List Sf.Tab) (u : Value) (w : World) (hr : TRow w u l) (hb : ∀ x ∈ l, x.1.length ≤ 9223372036854775807 ∧ x.2.length ≤ 9223372036854775807) (wh at_ cc : Int) (h : Sf.few l = false) :
    Calls Try.prog 5 #[u, .int .i64 wh, .int .i64 at_, .int .u8 cc] w fun e w' => e = .returned (.bool true) ∧ Lo w w' := by
  have HF := Lib.hid (few_any l u w hr hb)
  have HR := Lib.hid hr
  obtain ⟨p, c, rfl, hlen⟩ := hr.form
  rw [h] at HF
  clear hr
  go_enter Try.func5, Try.ntmps5
  go_wp2_with fail
  refine HF.out.mono ?_
  rintro e w1 ⟨rfl, lo⟩
  have HL := Lib.hid lo
  clear lo HF
  go_wp2_with fail
  refine (filed_any _).mono ?_
  rintro e w2 ⟨rfl, lo⟩
  have HL2 := Lib.hid (HL.out.trans lo)
  clear lo HL
  go_wp2_with fail
  go_ret
  exact ⟨rfl, HL2.out⟩

set_option maxRecDepth 100000 in
set_option maxHeartbeats 1600000 in
theorem sfntChanged_low (l : List Sf.Tab) (u : Value) (w : World) (hr : TRow w u l) (hb : ∀ x ∈ l, x.1.length ≤ 9223372036854775807 ∧ x.2.length ≤ 9223372036854775807) (wh at_ cc : Int) (h : Sf.few l = true) (hw : wh < 0) :
    Calls Try.prog 5 #[u, .int .i64 wh, .int .i64 at_, .int .u8 cc] w fun e w' => e = .returned (.bool true) ∧ Lo w w' := by
  have HF := Lib.hid (few_any l u w hr hb)
  have HR := Lib.hid hr
  obtain ⟨p, c, rfl, hlen⟩ := hr.form
  rw [h] at HF
  clear hr
  go_enter Try.func5, Try.ntmps5
  go_wp2_with fail
  refine HF.out.mono ?_
  rintro e w1 ⟨rfl, lo⟩
  have HL := Lib.hid lo
  clear lo HF
  go_wp2_with fail
  refine (filed_any _).mono ?_
  rintro e w2 ⟨rfl, lo⟩
  have HL2 := Lib.hid (HL.out.trans lo)
  clear lo HL
  go_wp2_with fail
  go_ret
  exact ⟨rfl, HL2.out⟩

set_option maxRecDepth 100000 in
set_option maxHeartbeats 1600000 in
theorem sfntChanged_high (l : List Sf.Tab) (u : Value) (w : World) (hr : TRow w u l) (hb : ∀ x ∈ l, x.1.length ≤ 9223372036854775807 ∧ x.2.length ≤ 9223372036854775807) (wh at_ cc : Int) (h : Sf.few l = true) (hw : 0 ≤ wh) (hw2 : (l.length : Int) ≤ wh) :
    Calls Try.prog 5 #[u, .int .i64 wh, .int .i64 at_, .int .u8 cc] w fun e w' => e = .returned (.bool true) ∧ Lo w w' := by
  have HF := Lib.hid (few_any l u w hr hb)
  have HR := Lib.hid hr
  obtain ⟨p, c, rfl, hlen⟩ := hr.form
  rw [h] at HF
  clear hr
  go_enter Try.func5, Try.ntmps5
  go_wp2_with fail
  refine HF.out.mono ?_
  rintro e w1 ⟨rfl, lo⟩
  have HL := Lib.hid lo
  clear lo HF
  go_wp2_with fail
  refine (filed_any _).mono ?_
  rintro e w2 ⟨rfl, lo⟩
  have HL2 := Lib.hid (HL.out.trans lo)
  clear lo HL
  go_wp2_with fail
  go_ret
  exact ⟨rfl, HL2.out⟩

set_option maxRecDepth 100000 in
set_option maxHeartbeats 1600000 in
theorem sfntChanged_front (l : List Sf.Tab) (u : Value) (w : World) (hr : TRow w u l) (hb : ∀ x ∈ l, x.1.length ≤ 9223372036854775807 ∧ x.2.length ≤ 9223372036854775807) (k : Nat) (at_ cc : Int) (h : Sf.few l = true) (hk : k < l.length) (hw : at_ < 0) :
    Calls Try.prog 5 #[u, .int .i64 k, .int .i64 at_, .int .u8 cc] w fun e w' => e = .returned (.bool true) ∧ Lo w w' := by
  have HF := Lib.hid (few_any l u w hr hb)
  have HR := Lib.hid hr
  obtain ⟨p, c, rfl, hlen⟩ := hr.form
  rw [h] at HF
  clear hr
  go_enter Try.func5, Try.ntmps5
  go_wp2_with fail
  refine HF.out.mono ?_
  rintro e w1 ⟨rfl, lo⟩
  have HL := Lib.hid lo
  clear lo HF
  go_wp2_with fail
  refine (filed_any _).mono ?_
  rintro e w2 ⟨rfl, lo⟩
  have HL2 := Lib.hid (HL.out.trans lo)
  clear lo HL
  go_wp2_with fail
  go_ret
  exact ⟨rfl, HL2.out⟩

set_option maxRecDepth 100000 in
set_option maxHeartbeats 1600000 in
theorem sfntChanged_back (l : List Sf.Tab) (u : Value) (w : World) (hr : TRow w u l) (hb : ∀ x ∈ l, x.1.length ≤ 9223372036854775807 ∧ x.2.length ≤ 9223372036854775807) (k q : Nat) (tg dt : List UInt8) (hx : l[k]? = some (tg, dt)) (cc : Int) (h : Sf.few l = true) (hk : k < l.length) (hw : dt.length ≤ q) :
    Calls Try.prog 5 #[u, .int .i64 k, .int .i64 q, .int .u8 cc] w fun e w' => e = .returned (.bool true) ∧ Lo w w' := by
  have HF := Lib.hid (few_any l u w hr hb)
  have HR := Lib.hid hr
  obtain ⟨p, c, rfl, hlen⟩ := hr.form
  rw [h] at HF
  have hdl := (hb _ (List.mem_of_getElem? hx)).2
  simp only at hdl
  clear hr
  go_enter Try.func5, Try.ntmps5
  go_wp2_with fail
  refine HF.out.mono ?_
  rintro e w1 ⟨rfl, lo⟩
  have HL := Lib.hid lo
  clear lo HF
  obtain ⟨b, off, rfl, hc1, hc2⟩ := TRow.at2 (HR.out.lo HL.out) hx
  simp only at hc1 hc2
  clear hx
  go_wp2_with fail
  refine (filed_any _).mono ?_
  rintro e w2 ⟨rfl, lo⟩
  have HL2 := Lib.hid (HL.out.trans lo)
  clear lo HL
  go_wp2_with fail
  go_ret
  exact ⟨rfl, HL2.out⟩

set_option maxRecDepth 100000 in
set_option maxHeartbeats 1600000 in
theorem sfntChanged_same (l : List Sf.Tab) (u : Value) (w : World) (hr : TRow w u l) (hb : ∀ x ∈ l, x.1.length ≤ 9223372036854775807 ∧ x.2.length ≤ 9223372036854775807) (k q : Nat) (tg dt : List UInt8) (hx : l[k]? = some (tg, dt)) (cc : UInt8) (h : Sf.few l = true) (hk : k < l.length) (hw : q < dt.length) (hc : dt.getD q 0 = cc) :
    Calls Try.prog 5 #[u, .int .i64 k, .int .i64 q, .int .u8 cc.toNat] w fun e w' => e = .returned (.bool true) ∧ Lo w w' := by
  have HF := Lib.hid (few_any l u w hr hb)
  have HR := Lib.hid hr
  obtain ⟨p, c, rfl, hlen⟩ := hr.form
  rw [h] at HF
  have hdl := (hb _ (List.mem_of_getElem? hx)).2
  simp only at hdl
  have hbt := ba_at dt q cc hc
  clear hc
  clear hr
  go_enter Try.func5, Try.ntmps5
  go_wp2_with fail
  refine HF.out.mono ?_
  rintro e w1 ⟨rfl, lo⟩
  have HL := Lib.hid lo
  clear lo HF
  obtain ⟨b, off, rfl, hc1, hc2⟩ := TRow.at2 (HR.out.lo HL.out) hx
  simp only at hc1 hc2
  clear hx
  go_wp2_with fail
  refine (filed_any _).mono ?_
  rintro e w2 ⟨rfl, lo⟩
  have HL2 := Lib.hid (HL.out.trans lo)
  clear lo HL
  go_wp2_with fail
  go_ret
  exact ⟨rfl, HL2.out⟩

theorem put_one_or {l : List Sf.Tab} (h : Sf.few l = true) (hn : (Sf.put 65536 l).2 ≠ 0) : (Sf.put 65536 l).2 = 1 := by
  rcases Sf.put_short (v := 65536) (l := l) (fun i hi => by
    obtain ⟨x, hx⟩ := Sf.some_at hi
    rw [Sf.datAt_some hx]; exact Sf.few_dat h x (List.mem_of_getElem? hx)) with h | h
  · exact absurd h hn
  · exact h
set_option maxRecDepth 100000 in
set_option maxHeartbeats 1600000 in
theorem sfntChanged_none (l : List Sf.Tab) (u : Value) (w : World) (hr : TRow w u l) (hb : ∀ x ∈ l, x.1.length ≤ 9223372036854775807 ∧ x.2.length ≤ 9223372036854775807) (k q : Nat) (tg dt : List UInt8) (hx : l[k]? = some (tg, dt)) (cc : UInt8) (h : Sf.few l = true) (hk : k < l.length) (hw : q < dt.length) (hc : dt.getD q 0 ≠ cc) (hn : (Sf.put 65536 l).2 ≠ 0) :
    Calls Try.prog 5 #[u, .int .i64 k, .int .i64 q, .int .u8 cc.toNat] w fun e w' => e = .returned (.bool true) ∧ Lo w w' := by
  have HF := Lib.hid (few_any l u w hr hb)
  rw [h] at HF
  have HP := Lib.hid (fun (W : World) (lo : Lo w W) => sput_any 65536 l u W (hr.lo lo) (Sf.few_small h))
  unfold strErr at HP
  rw [put_one_or h hn] at HP
  generalize (Sf.put 65536 l).1 = F at *
  have HR := Lib.hid hr
  obtain ⟨p, c, rfl, hlen⟩ := hr.form
  have hdl := (hb _ (List.mem_of_getElem? hx)).2
  simp only at hdl
  have hbt := ba_get dt q
  have hne := ne_byte _ _ hc
  generalize dt.getD q 0 = dd at *
  clear hr hc hn
  go_enter Try.func5, Try.ntmps5
  go_wp2_with fail
  refine HF.out.mono ?_
  rintro e w1 ⟨rfl, lo⟩
  have HL := Lib.hid lo
  clear lo HF
  obtain ⟨b, off, rfl, hc1, hc2⟩ := TRow.at2 (HR.out.lo HL.out) hx
  simp only at hc1 hc2
  clear hx
  go_wp2_with fail
  refine (HP.out _ HL.out).mono ?_
  rintro e w2 ⟨rfl, lo⟩
  have HL2 := Lib.hid (HL.out.trans lo)
  clear lo HL hc1 hc2
  go_wp2_with fail
  refine (filed_any _).mono ?_
  rintro e w3 ⟨rfl, lo⟩
  have HL3 := Lib.hid (HL2.out.trans lo)
  clear lo HL2
  go_wp2_with fail
  go_ret
  exact ⟨rfl, HL3.out⟩

end Go.Proofs.Ytbcilhdamjgoeaa

/-
  The walk of the law SfntChanged: it returns true for all tables, numbers and bytes. No conditions.
-/
import Derived.Test.YtbcilhdamjgoeaaSfChanged
namespace Go.Proofs.Ytbcilhdamjgoeaa
open Go.RowKit

set_option maxRecDepth 100000 in
set_option maxHeartbeats 8000000 in
theorem sfntChanged_some (l : List Sf.Tab) (u : Value) (w : World) (hr : TRow w u l) (hb : ∀ x ∈ l, x.1.length ≤ 9223372036854775807 ∧ x.2.length ≤ 9223372036854775807) (k q : Nat) (tg dt : List UInt8) (hx : l[k]? = some (tg, dt)) (cc : UInt8) (h : Sf.few l = true) (hk : k < l.length) (hw : q < dt.length) (hc : dt.getD q 0 ≠ cc) (hn : (Sf.put 65536 l).2 = 0) :
    Calls Try.prog 5 #[u, .int .i64 k, .int .i64 q, .int .u8 cc.toNat] w fun e w' => e = .returned (.bool true) ∧ Lo w w' := by
  have HF := Lib.hid (few_any l u w hr hb)
  rw [h] at HF
  have HP := Lib.hid (fun (W : World) (lo : Lo w W) => sput_any 65536 l u W (hr.lo lo) (Sf.few_small h))
  unfold strErr at HP
  rw [hn] at HP
  obtain ⟨hv, hri, ht, he⟩ := Sf.put_ok hn
  have hda := Sf.datAt_some hx
  have hta := Sf.tagAt_some hx
  simp only at hda hta
  have hpl : q < (Sf.datAt l k).length := by rw [hda]; exact hw
  have hch := Sf.get_changed (c := cc) hv hri ht hk hpl (by rw [hda]; exact hc)
  have hfb := Sf.file_byte (v := 65536) hri hk hpl
  have hat := Sf.file_at (v := 65536) hri ht hk
  have hflen := Sf.file_len 65536 l (Sf.right_four hri)
  have hoe := Sf.off_end hk
  have hug := Sf.up_ge (Sf.datAt l k)
  have hba := Sf.bin_at (Sf.file 65536 l) k (by unfold Sf.off at hoe; omega)
  rw [hat] at hba
  rw [hda, hta] at hch
  rw [hda] at hfb hoe hug
  have hoff : Sf.off l k + q < (Sf.file 65536 l).length := by omega
  have hfl : (Sf.file 65536 l).length ≤ 16777216 := by omega
  rw [he] at HP
  have HG := Lib.hid (fun (W : World) (v : Value) (h : Row W v [4]) => get_any (Sf.file 65536 l) ((20 + 16 * k : Nat) : Int) v [4] W h (by simp) (by omega) (by have := Sf.right_len hri; omega))
  rw [hba] at HG
  unfold GotRow at HG
  have hk64 : k < 64 := by have := Sf.right_len hri; omega
  generalize Sf.file 65536 l = Fl at *
  generalize Sf.off l k = o at *
  have HGet := Lib.hid (fun W => sget_any (Fl.set (o + q) cc) W (by rw [List.length_set]; omega))
  unfold GotTabs at HGet
  have HCh := Lib.hid hch
  generalize Sf.get (Fl.set (o + q) cc) = gr at *
  have HR := Lib.hid hr
  obtain ⟨p, c, rfl, hlen⟩ := hr.form
  have hdl := (hb _ (List.mem_of_getElem? hx)).2
  simp only at hdl
  have hbt := ba_get dt q
  have hbf := ba_get Fl (o + q)
  rw [hfb] at hbf
  have hne := ne_byte _ _ hc
  generalize dt.getD q 0 = dd at *
  have HCs := Lib.hid (fun W => conv_set Fl (o + q) cc W hoff)
  clear hr hc hn hb h hv hri ht he hda hta hch hfb hat hflen hoe hug hba hpl
  rw [show ((20 + 16 * k : Nat) : Int) = 12 + 16 * (k : Int) + 8 by omega] at HG
  have HX := Lib.hid hx
  go_enter Try.func5, Try.ntmps5
  go_wp2_with fail
  refine HF.out.mono ?_
  rintro e w1 ⟨rfl, lo⟩
  have HL := Lib.hid lo
  clear lo HF
  obtain ⟨b, off, rfl, hc1, hc2⟩ := TRow.at2 (HR.out.lo HL.out) hx
  simp only at hc1 hc2
  clear hx
  go_wp2_with fail
  refine (HP.out _ HL.out).mono ?_
  rintro e w2 ⟨rfl, lo⟩
  have HL2 := Lib.hid (HL.out.trans lo)
  clear lo HL HP hc1 hc2
  go_wp2_with fail
  refine (HG.out _ _ (row1 _ _ rfl 4)).mono ?_
  rintro e w3 ⟨p3, c3, rfl, hrow, lo⟩
  have HL3 := Lib.hid ((HL2.out.alloc _).trans lo)
  have HN := Lib.hid hrow
  obtain ⟨b3, off3, rfl, hn0⟩ := hrow.at_ (k := 0) (by simp)
  simp only [List.getD_cons_zero, Nat.add_zero] at hn0
  clear lo HL2 HG hrow
  obtain ⟨b', off', he, hc1, hc2⟩ := TRow.at2 (HR.out.lo HL3.out) HX.out
  simp only [Option.some.injEq, Addr.mk.injEq, and_true] at he
  obtain ⟨rfl, rfl⟩ := he
  simp only at hc1 hc2
  have hw1 : IntKind.i64.wrap ((o : Int) + (q : Int)) = (o : Int) + (q : Int) := IntWalk.i64_in _ (by omega)
  have hw2 : (0 : Int) ≤ (o : Int) + (q : Int) := by omega
  have hw3 : ((o : Int) + (q : Int)).toNat = o + q := by omega
  have hw4 : decide ((Fl.length : Int) ≤ (o : Int) + (q : Int)) = false := by simp; omega
  have hix : ∀ W : World, (Instr.index 9 (.string ⟨Fl.toArray⟩) (.int .i64 ((o : Int) + (q : Int)))).run Try.prog W = .ok (.int .u8 dd.toNat) W := by
    intro W
    have hlt : (o : Int) + (q : Int) < ((ByteArray.mk Fl.toArray).size : Nat) := by
      show (o : Int) + (q : Int) < (Fl.length : Nat)
      omega
    rw [run_index_string W _ _ _ _ Try.underlying9, dif_pos ⟨hw2, hlt⟩]
    simp only [hw3, hbf]
  go_wp2_with fail
  go_quiet (fail)
  clear hix
  clear hw1 hw4
  generalize hW : w3.drewN nq = w4
  have lo : Lo w3 w4 := by rw [← hW]; exact (Lo.refl w3).drewN nq
  have HL4 := Lib.hid (HL3.out.trans lo)
  have hn4 : w4.cell? ⟨b3, off3, none⟩ = some (.int .i64 o) := by rw [← hW]; exact hn0
  clear lo hW hc1 hc2 HL3 hn0
  obtain ⟨C, W1, hconv, lo1, hcell, hfro, hback, lo2⟩ := HCs.out w4
  have hn5 : W1.cell? ⟨b3, off3, none⟩ = some (.int .i64 o) := by rw [lo1.cell (World.block_lt_of_cell? w4 _ hn4)]; exact hn4
  have HL5 := Lib.hid (HL4.out.trans lo2)
  clear lo1 lo2 HCs
  go_wp2_with fail
  refine (HGet.out _).mono ?_
  rintro e w7 ⟨p7, c7, rfl, _, lo⟩
  have HL7 := Lib.hid (HL5.out.trans lo)
  clear lo HL5 hn4 hn5 hconv hcell hfro hback HGet
  obtain ⟨b', off', he, hc1, hc2⟩ := TRow.at2 (HR.out.lo HL7.out) HX.out
  simp only [Option.some.injEq, Addr.mk.injEq, and_true] at he
  obtain ⟨rfl, rfl⟩ := he
  simp only at hc1 hc2
  have H1 := Lib.hid HCh.out.1
  have H2 := Lib.hid HCh.out.2
  obtain ⟨g1, g2, g3⟩ := gr
  simp only at H1 H2 ⊢
  by_cases f1 : tg = Sf.headTag
  · have htg : (tg == [104, 101, 97, 100]) = true := by simpa [Sf.headTag] using f1
    by_cases f2 : 8 ≤ q
    · by_cases f3 : q ≤ 11
      · by_cases f4 : 12 ≤ dt.length
        · have HE : Hid (g3 = 0) := Lib.hid (H1.out ⟨f1, f2, f3, f4⟩)
          obtain rfl := HE.out
          clear f1 H1 H2
          go_wp2_with fail
          refine (filed_any _).mono ?_
          rintro e w8 ⟨rfl, lo⟩
          have HL8 := Lib.hid (HL7.out.trans lo)
          clear lo HL7
          go_wp2_with fail
          go_ret
          refine ⟨?_, HL8.out⟩
          first | rfl | (apply ret_bool; simp; omega) | (apply ret_bool; simp)
        · have HE : Hid (g3 = 5) := Lib.hid (H2.out fun hf => f4 hf.2.2.2)
          obtain rfl := HE.out
          clear f1 H1 H2
          go_wp2_with fail
          refine (filed_any _).mono ?_
          rintro e w8 ⟨rfl, lo⟩
          have HL8 := Lib.hid (HL7.out.trans lo)
          clear lo HL7
          go_wp2_with fail
          go_ret
          refine ⟨?_, HL8.out⟩
          first | rfl | (apply ret_bool; simp; omega) | (apply ret_bool; simp)
      · have HE : Hid (g3 = 5) := Lib.hid (H2.out fun hf => f3 hf.2.2.1)
        obtain rfl := HE.out
        clear f1 H1 H2
        go_wp2_with fail
        refine (filed_any _).mono ?_
        rintro e w8 ⟨rfl, lo⟩
        have HL8 := Lib.hid (HL7.out.trans lo)
        clear lo HL7
        go_wp2_with fail
        go_ret
        refine ⟨?_, HL8.out⟩
        first | rfl | (apply ret_bool; simp; omega) | (apply ret_bool; simp)
    · have HE : Hid (g3 = 5) := Lib.hid (H2.out fun hf => f2 hf.2.1)
      obtain rfl := HE.out
      clear f1 H1 H2
      go_wp2_with fail
      refine (filed_any _).mono ?_
      rintro e w8 ⟨rfl, lo⟩
      have HL8 := Lib.hid (HL7.out.trans lo)
      clear lo HL7
      go_wp2_with fail
      go_ret
      refine ⟨?_, HL8.out⟩
      first | rfl | (apply ret_bool; simp; omega) | (apply ret_bool; simp)
  · have htg : (tg == [104, 101, 97, 100]) = false := by simpa [Sf.headTag] using f1
    have HE : Hid (g3 = 5) := Lib.hid (H2.out fun hf => f1 hf.1)
    obtain rfl := HE.out
    clear f1 H1 H2
    go_wp2_with fail
    refine (filed_any _).mono ?_
    rintro e w8 ⟨rfl, lo⟩
    have HL8 := Lib.hid (HL7.out.trans lo)
    clear lo HL7
    go_wp2_with fail
    go_ret
    refine ⟨?_, HL8.out⟩
    first | rfl | (apply ret_bool; simp; omega) | (apply ret_bool; simp)

theorem sfntChanged_walk (u : Value) (l : List Sf.Tab) (wh at_ cc : Int) (w : World) (hr : TRow w u l) (hb : ∀ x ∈ l, x.1.length ≤ 9223372036854775807 ∧ x.2.length ≤ 9223372036854775807) (_w1 : (Lit.int .i64 wh).wf = true) (_w2 : (Lit.int .i64 at_).wf = true) (w3 : (Lit.int .u8 cc).wf = true) :
    Calls Try.prog 5 #[u, .int .i64 wh, .int .i64 at_, .int .u8 cc] w fun e w' => e = .returned (.bool true) ∧ Below w.heap.size w w' := by
  cases h : Sf.few l with
  | false => exact sfntChanged_many l u w hr hb wh at_ cc h
  | true =>
    by_cases h1 : wh < 0
    · exact sfntChanged_low l u w hr hb wh at_ cc h h1
    · by_cases h2 : (l.length : Int) ≤ wh
      · exact sfntChanged_high l u w hr hb wh at_ cc h (by omega) h2
      · obtain ⟨k, rfl⟩ := Int.eq_ofNat_of_zero_le (show 0 ≤ wh by omega)
        have hk : k < l.length := by omega
        by_cases h3 : at_ < 0
        · exact sfntChanged_front l u w hr hb k at_ cc h hk h3
        · obtain ⟨q, rfl⟩ := Int.eq_ofNat_of_zero_le (show 0 ≤ at_ by omega)
          obtain ⟨⟨tg, dt⟩, hx⟩ := Sf.some_at hk
          by_cases h4 : dt.length ≤ q
          · exact sfntChanged_back l u w hr hb k q tg dt hx cc h hk h4
          · obtain ⟨c, rfl⟩ := byte_of w3
            by_cases h5 : dt.getD q 0 = c
            · exact sfntChanged_same l u w hr hb k q tg dt hx c h hk (by omega) h5
            · by_cases hn : (Sf.put 65536 l).2 = 0
              · exact sfntChanged_some l u w hr hb k q tg dt hx c h hk (by omega) h5 hn
              · exact sfntChanged_none l u w hr hb k q tg dt hx c h hk (by omega) h5 hn
end Go.Proofs.Ytbcilhdamjgoeaa

/-
  The walk of the law GlyfBack: it returns true, whatever extents and text, and nothing that was there turns. No conditions.
-/
import Derived.Test.YtkfljalcnjdliaaGlSame
namespace Go.Proofs.Ytkfljalcnjdliaa
open Go.RowKit

set_option maxHeartbeats 400000 in
theorem glyfBack_long (v : Value) (l : List Gl.Ext) (a : ByteArray) (w : World) (hr : ERow w v l) (h : ¬ (l.length ≤ 300 ∧ a.size ≤ 1000)) :
    Calls Try.prog 4 #[v, .string a] w fun e w' => e = .returned (.bool true) ∧ Lo w w' := by
  obtain ⟨p, c, rfl, hlen⟩ := RowK.form hr
  generalize l.length = n at *
  clear hr
  by_cases h1 : 300 < n
  · go_enter Try.func4, Try.ntmps4
    go_wp2_with fail
    go_ret
    exact ⟨rfl, Lo.refl _⟩
  · have h2 : 1000 < a.size := by omega
    clear h
    go_enter Try.func4, Try.ntmps4
    go_wp2_with fail
    go_ret
    exact ⟨rfl, Lo.refl _⟩

set_option maxRecDepth 100000 in
set_option maxHeartbeats 1600000 in
theorem glyfBack_none (v : Value) (l : List Gl.Ext) (m : List UInt8) (w : World) (hr : ERow w v l) (h1 : l.length ≤ 300) (h2 : m.length ≤ 1000) (hn : (Gl.put l true).2.2 ≠ 0) :
    Calls Try.prog 4 #[v, .string ⟨m.toArray⟩] w fun e w' => e = .returned (.bool true) ∧ Lo w w' := by
  have HP1 := Lib.hid (fun W (h : ERow W v l) => gput_any v l true W h (by omega))
  have HP2 := Lib.hid (fun W (h : ERow W v l) => gput_any v l false W h (by omega))
  have HD := Lib.hid (fun W => drawn_any W)
  unfold strs3 at HP1 HP2
  have e1 := (Gl.put_both h1).1
  have r1 := Gl.put_refused hn
  have r2 := Gl.put_refused (l := l) (long := false) (by rw [← e1]; exact hn)
  rw [r1.1, r1.2] at HP1
  rw [r2.1, r2.2, ← e1] at HP2
  obtain ⟨p, c, rfl, hlen⟩ := RowK.form hr
  have HR := Lib.hid hr
  generalize (Gl.put l true).2.2 = k at *
  generalize l.length = n at *
  have hb : (k != 0) = true := by simpa using hn
  have hc0 : (⟨#[]⟩ : ByteArray) ++ ⟨#[]⟩ = ⟨#[]⟩ := rfl
  have i1 : ¬ 300 < n := by omega
  have i2 : ¬ 1000 < m.length := by omega
  clear hr e1 r1 r2 hn
  go_enter Try.func4, Try.ntmps4
  go_wp2_with fail
  refine (HP1.out _ HR.out).mono ?_
  rintro e w1 ⟨rfl, lo⟩
  have HL := Lib.hid lo
  have HR := Lib.hid (RowK.lo HR.out lo)
  clear lo HP1
  go_wp2_with fail
  refine (HP2.out _ HR.out).mono ?_
  rintro e w2 ⟨rfl, lo⟩
  have HL := Lib.hid (HL.out.trans lo)
  clear lo HP2 HR
  go_wp2_with fail
  refine (HD.out _).mono ?_
  rintro e w3 ⟨rfl, lo⟩
  have HL := Lib.hid (HL.out.trans lo)
  clear lo HD
  go_wp2_with fail
  go_ret
  exact ⟨rfl, HL.out⟩

set_option maxRecDepth 100000 in
set_option maxHeartbeats 3200000 in
theorem glyfBack_some (v : Value) (l : List Gl.Ext) (m : List UInt8) (w : World) (hr : ERow w v l) (h1 : l.length ≤ 300) (h2 : m.length ≤ 1000) (hn : (Gl.put l true).2.2 = 0) :
    Calls Try.prog 4 #[v, .string ⟨m.toArray⟩] w fun e w' => e = .returned (.bool true) ∧ Lo w w' := by
  have HP1 := Lib.hid (fun W (h : ERow W v l) => gput_any v l true W h (by omega))
  have HP2 := Lib.hid (fun W (h : ERow W v l) => gput_any v l false W h (by omega))
  have HD := Lib.hid (fun W => drawn_any W)
  unfold strs3 at HP1 HP2
  have eb := Gl.put_both h1
  have hn2 : (Gl.put l false).2.2 = 0 := by rw [← eb.1]; exact hn
  have el := eb.2 hn
  have g1 := Gl.get_put hn m m
  have g2 := Gl.get_put hn2 m m
  rw [hn] at HP1
  rw [hn2, ← el.2] at HP2
  rw [← el.2] at g2
  have b1 : (Gl.put l false).1.length ≤ 4 * 301 := by
    obtain ⟨_, _, _, e1, _⟩ := Gl.put_ok hn2
    rw [e1, Gl.loca_len]
    show 2 * (l.length + 1) ≤ _
    omega
  have b2 : (Gl.put l true).2.1.length ≤ 12 * 300 := by
    obtain ⟨_, _, _, _, e2⟩ := Gl.put_ok hn
    rw [e2, Gl.bodies_len]
    have := Gl.outlines_le l
    omega
  have hl2 := el.1
  have HG1 := Lib.hid (fun W => gget_any ((Gl.put l true).1 ++ m) ((Gl.put l true).2.1 ++ m) l.length true W (by rw [List.length_append]; omega) (by rw [List.length_append]; omega))
  have HG2 := Lib.hid (fun W => gget_any ((Gl.put l false).1 ++ m) ((Gl.put l true).2.1 ++ m) l.length false W (by rw [List.length_append]; omega) (by rw [List.length_append]; omega))
  rw [g1] at HG1
  rw [g2] at HG2
  unfold GotExt at HG1 HG2
  dsimp only at HG1 HG2 HP1 HP2
  have HSm := Lib.hid (fun (v u : Value) (W : World) (h : ERow W v l) (h2 : ERow W u l) => esame_any l v u W h h2)
  obtain ⟨p, c, rfl, hlen⟩ := RowK.form hr
  have HR := Lib.hid hr
  have hcat1 := Gk.cat_list (Gl.put l true).1 m
  have hcat2 := Gk.cat_list (Gl.put l true).2.1 m
  have hcat3 := Gk.cat_list (Gl.put l false).1 m
  have hbne : ((Gl.put l true).1.length : Int) = 2 * ((Gl.put l false).1.length : Int) := by omega
  generalize (Gl.put l true).1 = a at *
  generalize (Gl.put l true).2.1 = b at *
  generalize (Gl.put l false).1 = cc at *
  generalize l.length = n at *
  have i1 : ¬ 300 < n := by omega
  have i2 : ¬ 1000 < m.length := by omega
  clear hr hn hn2 g1 g2 eb el hl2
  go_enter Try.func4, Try.ntmps4
  go_wp2_with fail
  refine (HP1.out _ HR.out).mono ?_
  rintro e w1 ⟨rfl, lo⟩
  have HL := Lib.hid lo
  have HR := Lib.hid (RowK.lo HR.out lo)
  clear lo HP1
  go_wp2_with fail
  refine (HP2.out _ HR.out).mono ?_
  rintro e w2 ⟨rfl, lo⟩
  have HL := Lib.hid (HL.out.trans lo)
  have HR := Lib.hid (RowK.lo HR.out lo)
  clear lo HP2
  go_wp2_with fail
  refine (HG1.out _).mono ?_
  rintro e w3 ⟨p3, c3, rfl, hrow, lo⟩
  have HL := Lib.hid (HL.out.trans lo)
  have HR := Lib.hid (RowK.lo HR.out lo)
  have HM := Lib.hid hrow
  clear lo HG1 hrow
  go_wp2_with fail
  refine (HG2.out _).mono ?_
  rintro e w4 ⟨p4, c4, rfl, hrow, lo⟩
  have HL := Lib.hid (HL.out.trans lo)
  have HR := Lib.hid (RowK.lo HR.out lo)
  have HM := Lib.hid (RowK.lo HM.out lo)
  have HN := Lib.hid hrow
  clear lo HG2 hrow
  go_wp2_with fail
  refine (HD.out _).mono ?_
  rintro e w5 ⟨rfl, lo⟩
  have HL := Lib.hid (HL.out.trans lo)
  have HR := Lib.hid (RowK.lo HR.out lo)
  have HM := Lib.hid (RowK.lo HM.out lo)
  have HN := Lib.hid (RowK.lo HN.out lo)
  clear lo HD
  go_wp2_with fail
  refine (HSm.out _ _ _ HR.out HM.out).mono ?_
  rintro e w6 ⟨rfl, lo⟩
  have HL := Lib.hid (HL.out.trans lo)
  have HR := Lib.hid (RowK.lo HR.out lo)
  have HN := Lib.hid (RowK.lo HN.out lo)
  clear lo HM
  go_wp2_with fail
  refine (HSm.out _ _ _ HR.out HN.out).mono ?_
  rintro e w7 ⟨rfl, lo⟩
  have HL := Lib.hid (HL.out.trans lo)
  clear lo HSm HR HN
  go_wp2_with fail
  go_ret
  exact ⟨rfl, HL.out⟩

theorem glyfBack_walk (v : Value) (l : List Gl.Ext) (a : ByteArray) (w : World) (hr : ERow w v l) (_wa : a.size ≤ maxLen) :
    Calls Try.prog 4 #[v, .string a] w fun e w' => e = .returned (.bool true) ∧ Below w.heap.size w w' := by
  by_cases h : l.length ≤ 300 ∧ a.size ≤ 1000
  · by_cases hn : (Gl.put l true).2.2 = 0
    · exact glyfBack_some v l a.data.toList w hr h.1 h.2 hn
    · exact glyfBack_none v l a.data.toList w hr h.1 h.2 hn
  · exact glyfBack_long v l a w hr h
end Go.Proofs.Ytkfljalcnjdliaa

/-
  The walk of the law HeadOnly: it returns true for all texts, numbers and bytes. No conditions.
-/
import Derived.Test.YtbcilhdamjgoeaaHeHeaded
import Derived.Test.YtbcilhdamjgoeaaGkBytes2
namespace Go.Proofs.Ytbcilhdamjgoeaa
open Go.RowKit

theorem block_lt5 {T : Nat} {o : Obj} {w : World} (hT : w.heap[T]? = some o) : T < w.heap.size := by
  rcases Nat.lt_or_ge T w.heap.size with hlt | hge
  · exact hlt
  · rw [Array.getElem?_eq_none hge] at hT; cases hT
set_option maxRecDepth 100000 in
set_option maxHeartbeats 800000 in
theorem headOnly_long (a b c : List UInt8) (at_ x : Int) (w : World) (hs : 3000 < wrap64 (wrap64 ((a.length : Int) + (b.length : Int)) + (c.length : Int))) :
    Calls Try.prog 9 #[.string ⟨a.toArray⟩, .string ⟨b.toArray⟩, .string ⟨c.toArray⟩, .int .i64 at_, .int .u8 x] w fun e w' => e = .returned (.bool true) ∧ Lo w w' := by
  go_enter Try.func9, Try.ntmps9
  go_wp2_with fail
  go_ret
  exact ⟨rfl, Lo.refl _⟩
set_option maxRecDepth 100000 in
set_option maxHeartbeats 1600000 in
theorem headOnly_none (a b c : List UInt8) (at_ x : Int) (w : World) (ha : a.length ≤ 9223372036854775807) (hb : b.length ≤ 9223372036854775807) (hc : c.length ≤ 9223372036854775807) (hs : ¬ 3000 < wrap64 (wrap64 ((a.length : Int) + (b.length : Int)) + (c.length : Int))) (hn : (He.get a b c).2 ≠ 0) :
    Calls Try.prog 9 #[.string ⟨a.toArray⟩, .string ⟨b.toArray⟩, .string ⟨c.toArray⟩, .int .i64 at_, .int .u8 x] w fun e w' => e = .returned (.bool true) ∧ Lo w w' := by
  have HG := Lib.hid (fun W => hget_any a b c W ha hb hc)
  unfold headErr at HG
  rw [He.get_none hn] at HG
  generalize (He.get a b c).2 = er at *
  have hbe : (er == 0) = false := by simpa using hn
  unfold aggH He.zero at HG
  simp only at HG
  clear hn
  go_enter Try.func9, Try.ntmps9
  go_wp2_with fail
  refine (HG.out _).mono ?_
  rintro e w1 ⟨rfl, lo⟩
  have HL := Lib.hid lo
  clear lo HG
  go_wp2_with fail
  generalize hW : World.alloc w1 _ = w2
  have lo : Lo w1 w2 := by rw [← hW]; exact (Lo.refl w1).alloc _
  have HA : Hid (w2.heap[w1.heap.size]? = some (.cells #[.int .i64 0, .int .i64 0, .int .i64 0, .int .i64 0, .int .i64 0, .bool false] 46 (0, 0))) := Lib.hid (by rw [← hW]; exact new_block w1 _)
  have HL := Lib.hid (HL.out.trans lo)
  clear lo hW
  refine (headed_any _).mono ?_
  rintro e w3 ⟨rfl, lo⟩
  have HL := Lib.hid (HL.out.trans lo)
  obtain ⟨⟨r0, r1, r2, r3, r4, r5⟩, _⟩ := six_at (lo_block lo HA.out)
  clear lo
  go_wp2_with fail
  go_ret
  refine ⟨?_, HL.out⟩
  first | rfl | (apply ret_bool; simp)

set_option maxRecDepth 100000 in
set_option maxHeartbeats 6400000 in
theorem headOnly_some (a b c : List UInt8) (at_ : Int) (x : UInt8) (w : World) (ha : a.length ≤ 9223372036854775807) (hb : b.length ≤ 9223372036854775807) (hc : c.length ≤ 9223372036854775807) (hs : ¬ 3000 < wrap64 (wrap64 ((a.length : Int) + (b.length : Int)) + (c.length : Int))) (hn : (He.get a b c).2 = 0) :
    Calls Try.prog 9 #[.string ⟨a.toArray⟩, .string ⟨b.toArray⟩, .string ⟨c.toArray⟩, .int .i64 at_, .int .u8 x.toNat] w fun e w' => e = .returned (.bool true) ∧ Lo w w' := by
  have HG := Lib.hid (fun W => hget_any a b c W ha hb hc)
  have hh := He.get_ok hn
  have h54 : 54 ≤ a.length := by
    rcases Nat.lt_or_ge a.length 54 with h | h
    · unfold He.get at hn; rw [if_pos (.inl h)] at hn; cases hn
    · exact h
  have HGS := Lib.hid (fun (q : Nat) (W : World) (hu : ¬ (12 ≤ q ∧ q < 16 ∨ 18 ≤ q ∧ q < 20 ∨ 50 ≤ q ∧ q < 52)) => (hget_any (a.set q x) b c W (by rw [List.length_set]; exact ha) hb hc).mono fun e w' (h : _ ∧ _) => (by rw [He.get_set hu] at h; exact h : e = headErr (He.get a b c) ∧ Lo W w'))
  unfold headErr at HG HGS
  rw [hn] at HG HGS
  generalize (He.get a b c).1 = h at *
  have HP := Lib.hid (fun W => hput_any h W)
  rw [show He.put h = (He.putA h, He.putB h, He.putC h, 0) by unfold He.put; rw [if_neg (by rw [hh]; simp)]] at HP
  have hlA := He.putA_len h
  have hlB := He.putB_len h
  have hlC := He.putC_len h
  have HG2 := Lib.hid (fun W => hget_any (He.putA h) (He.putB h) (He.putC h) W (by omega) (by omega) (by omega))
  rw [He.get_put h hh] at HG2
  have HI := Lib.hid (fun W => his_any h W)
  rw [hh] at HI
  unfold threeErr at HP
  unfold headErr at HG2
  unfold aggH at *
  simp only at HP HG HG2
  generalize He.putA h = pa at *
  generalize He.putB h = pb at *
  generalize He.putC h = pc at *
  have HCs := Lib.hid (fun (q : Nat) (W : World) (hq : q < a.length) => conv_set a q x W hq)
  clear hh hn
  generalize h.upem = x0 at *
  generalize h.glyphs = x1 at *
  generalize h.metrics = x2 at *
  generalize h.asc = x3 at *
  generalize h.desc = x4 at *
  generalize h.long = x5 at *
  go_enter Try.func9, Try.ntmps9
  go_wp2_with fail
  refine (HG.out _).mono ?_
  rintro e w1 ⟨rfl, lo⟩
  have HL := Lib.hid lo
  clear lo HG
  go_wp2_with fail
  generalize hW : World.alloc w1 _ = w2
  have lo : Lo w1 w2 := by rw [← hW]; exact (Lo.refl w1).alloc _
  have HA : Hid (w2.heap[w1.heap.size]? = some (.cells #[.int .i64 x0, .int .i64 x1, .int .i64 x2, .int .i64 x3, .int .i64 x4, .bool x5] 46 (0, 0))) := Lib.hid (by rw [← hW]; exact new_block w1 _)
  have HL := Lib.hid (HL.out.trans lo)
  clear lo hW
  refine (HP.out _).mono ?_
  rintro e w3 ⟨rfl, lo⟩
  have HL := Lib.hid (HL.out.trans lo)
  have HA := Lib.hid (lo_block lo HA.out)
  clear lo HP
  go_wp2_with fail
  refine (HG2.out _).mono ?_
  rintro e w4 ⟨rfl, lo⟩
  have HL := Lib.hid (HL.out.trans lo)
  have HA := Lib.hid (lo_block lo HA.out)
  clear lo HG2
  have hlt4 := block_lt5 HA.out
  obtain ⟨⟨r0, r1, r2, r3, r4, r5⟩, _⟩ := six_at HA.out
  go_wp2_with fail
  clear r0 r1 r2 r3 r4 r5 hlt4
  generalize hW : World.alloc w4 _ = w5
  have lo : Lo w4 w5 := by rw [← hW]; exact (Lo.refl w4).alloc _
  have HK : Hid (w5.heap[w4.heap.size]? = some (.cells #[.int .i64 x0, .int .i64 x1, .int .i64 x2, .int .i64 x3, .int .i64 x4, .bool x5] 46 (0, 0))) := Lib.hid (by rw [← hW]; exact new_block w4 _)
  have HL := Lib.hid (HL.out.trans lo)
  have HA := Lib.hid (lo_block lo HA.out)
  clear lo hW
  refine (HI.out _).mono ?_
  rintro e w6 ⟨rfl, lo⟩
  have HL := Lib.hid (HL.out.trans lo)
  have HA := Lib.hid (lo_block lo HA.out)
  have HK := Lib.hid (lo_block lo HK.out)
  clear lo HI
  obtain ⟨⟨r0, r1, r2, r3, r4, r5⟩, _⟩ := six_at HA.out
  obtain ⟨⟨s0, s1, s2, s3, s4, s5⟩, _⟩ := six_at HK.out
  by_cases n1 : at_ < 0
  · go_wp2_with fail
    refine (headed_any _).mono ?_
    rintro e w8 ⟨rfl, lo⟩
    have HL := Lib.hid (HL.out.trans lo)
    clear lo
    go_wp2_with fail
    go_ret
    refine ⟨?_, HL.out⟩
    first | rfl | (apply ret_bool; simp)
  · by_cases n2 : (a.length : Int) ≤ at_
    · have n54 : 54 ≤ at_ := by omega
      go_wp2_with fail
      refine (headed_any _).mono ?_
      rintro e w8 ⟨rfl, lo⟩
      have HL := Lib.hid (HL.out.trans lo)
      clear lo
      go_wp2_with fail
      go_ret
      refine ⟨?_, HL.out⟩
      first | rfl | (apply ret_bool; simp)
    · obtain ⟨q, rfl⟩ := Int.eq_ofNat_of_zero_le (show 0 ≤ at_ by omega)
      have hq : q < a.length := by omega
      by_cases u1 : 12 ≤ q ∧ q < 16
      · obtain ⟨u1, u2⟩ := u1
        go_wp2_with fail
        refine (headed_any _).mono ?_
        rintro e w8 ⟨rfl, lo⟩
        have HL := Lib.hid (HL.out.trans lo)
        clear lo
        go_wp2_with fail
        go_ret
        refine ⟨?_, HL.out⟩
        first | rfl | (apply ret_bool; simp)
      · by_cases u2 : 18 ≤ q ∧ q < 20
        · obtain ⟨u3, u4⟩ := u2
          go_wp2_with fail
          refine (headed_any _).mono ?_
          rintro e w8 ⟨rfl, lo⟩
          have HL := Lib.hid (HL.out.trans lo)
          clear lo
          go_wp2_with fail
          go_ret
          refine ⟨?_, HL.out⟩
          first | rfl | (apply ret_bool; simp)
        · by_cases u3 : 50 ≤ q ∧ q < 52
          · obtain ⟨u5, u6⟩ := u3
            go_wp2_with fail
            refine (headed_any _).mono ?_
            rintro e w8 ⟨rfl, lo⟩
            have HL := Lib.hid (HL.out.trans lo)
            clear lo
            go_wp2_with fail
            go_ret
            refine ⟨?_, HL.out⟩
            first | rfl | (apply ret_bool; simp)
          · have hu : ¬ (12 ≤ q ∧ q < 16 ∨ 18 ≤ q ∧ q < 20 ∨ 50 ≤ q ∧ q < 52) := by omega
            obtain ⟨C, W1, hconv, lo1, hcell, hfro, hback, lo6⟩ := HCs.out q w6 hq
            have HL5 := Lib.hid (HL.out.trans lo6)
            clear lo1 HCs
            have h4 : q < 12 ∨ (16 ≤ q ∧ q < 18) ∨ (20 ≤ q ∧ q < 50) ∨ 52 ≤ q := by omega
            clear u1 u2 u3
            rcases h4 with v1 | ⟨v1, v2⟩ | ⟨v1, v2⟩ | v1
            · go_wp2_with fail
              refine (HGS.out _ _ hu).mono ?_
              rintro e w8 ⟨rfl, lo⟩
              have HL := Lib.hid (HL5.out.trans lo)
              have HA := Lib.hid (lo_block (lo6.trans lo) HA.out)
              clear lo lo6 hconv hcell hfro hback HL5
              go_wp2_with fail
              generalize hW : World.alloc w8 _ = w9
              have lo : Lo w8 w9 := by rw [← hW]; exact (Lo.refl w8).alloc _
              have HK : Hid (w9.heap[w8.heap.size]? = some (.cells #[.int .i64 x0, .int .i64 x1, .int .i64 x2, .int .i64 x3, .int .i64 x4, .bool x5] 46 (0, 0))) := Lib.hid (by rw [← hW]; exact new_block w8 _)
              have HL := Lib.hid (HL.out.trans lo)
              have HA := Lib.hid (lo_block lo HA.out)
              clear lo hW
              refine (headed_any _).mono ?_
              rintro e w10 ⟨rfl, lo⟩
              have HL := Lib.hid (HL.out.trans lo)
              obtain ⟨⟨r0, r1, r2, r3, r4, r5⟩, _⟩ := six_at (lo_block lo HA.out)
              obtain ⟨⟨s0, s1, s2, s3, s4, s5⟩, _⟩ := six_at (lo_block lo HK.out)
              clear lo
              go_wp2_with fail
              go_ret
              refine ⟨?_, HL.out⟩
              first | rfl | (apply ret_bool; simp)
            · go_wp2_with fail
              refine (HGS.out _ _ hu).mono ?_
              rintro e w8 ⟨rfl, lo⟩
              have HL := Lib.hid (HL5.out.trans lo)
              have HA := Lib.hid (lo_block (lo6.trans lo) HA.out)
              clear lo lo6 hconv hcell hfro hback HL5
              go_wp2_with fail
              generalize hW : World.alloc w8 _ = w9
              have lo : Lo w8 w9 := by rw [← hW]; exact (Lo.refl w8).alloc _
              have HK : Hid (w9.heap[w8.heap.size]? = some (.cells #[.int .i64 x0, .int .i64 x1, .int .i64 x2, .int .i64 x3, .int .i64 x4, .bool x5] 46 (0, 0))) := Lib.hid (by rw [← hW]; exact new_block w8 _)
              have HL := Lib.hid (HL.out.trans lo)
              have HA := Lib.hid (lo_block lo HA.out)
              clear lo hW
              refine (headed_any _).mono ?_
              rintro e w10 ⟨rfl, lo⟩
              have HL := Lib.hid (HL.out.trans lo)
              obtain ⟨⟨r0, r1, r2, r3, r4, r5⟩, _⟩ := six_at (lo_block lo HA.out)
              obtain ⟨⟨s0, s1, s2, s3, s4, s5⟩, _⟩ := six_at (lo_block lo HK.out)
              clear lo
              go_wp2_with fail
              go_ret
              refine ⟨?_, HL.out⟩
              first | rfl | (apply ret_bool; simp)
            · go_wp2_with fail
              refine (HGS.out _ _ hu).mono ?_
              rintro e w8 ⟨rfl, lo⟩
              have HL := Lib.hid (HL5.out.trans lo)
              have HA := Lib.hid (lo_block (lo6.trans lo) HA.out)
              clear lo lo6 hconv hcell hfro hback HL5
              go_wp2_with fail
              generalize hW : World.alloc w8 _ = w9
              have lo : Lo w8 w9 := by rw [← hW]; exact (Lo.refl w8).alloc _
              have HK : Hid (w9.heap[w8.heap.size]? = some (.cells #[.int .i64 x0, .int .i64 x1, .int .i64 x2, .int .i64 x3, .int .i64 x4, .bool x5] 46 (0, 0))) := Lib.hid (by rw [← hW]; exact new_block w8 _)
              have HL := Lib.hid (HL.out.trans lo)
              have HA := Lib.hid (lo_block lo HA.out)
              clear lo hW
              refine (headed_any _).mono ?_
              rintro e w10 ⟨rfl, lo⟩
              have HL := Lib.hid (HL.out.trans lo)
              obtain ⟨⟨r0, r1, r2, r3, r4, r5⟩, _⟩ := six_at (lo_block lo HA.out)
              obtain ⟨⟨s0, s1, s2, s3, s4, s5⟩, _⟩ := six_at (lo_block lo HK.out)
              clear lo
              go_wp2_with fail
              go_ret
              refine ⟨?_, HL.out⟩
              first | rfl | (apply ret_bool; simp)
            · go_wp2_with fail
              refine (HGS.out _ _ hu).mono ?_
              rintro e w8 ⟨rfl, lo⟩
              have HL := Lib.hid (HL5.out.trans lo)
              have HA := Lib.hid (lo_block (lo6.trans lo) HA.out)
              clear lo lo6 hconv hcell hfro hback HL5
              go_wp2_with fail
              generalize hW : World.alloc w8 _ = w9
              have lo : Lo w8 w9 := by rw [← hW]; exact (Lo.refl w8).alloc _
              have HK : Hid (w9.heap[w8.heap.size]? = some (.cells #[.int .i64 x0, .int .i64 x1, .int .i64 x2, .int .i64 x3, .int .i64 x4, .bool x5] 46 (0, 0))) := Lib.hid (by rw [← hW]; exact new_block w8 _)
              have HL := Lib.hid (HL.out.trans lo)
              have HA := Lib.hid (lo_block lo HA.out)
              clear lo hW
              refine (headed_any _).mono ?_
              rintro e w10 ⟨rfl, lo⟩
              have HL := Lib.hid (HL.out.trans lo)
              obtain ⟨⟨r0, r1, r2, r3, r4, r5⟩, _⟩ := six_at (lo_block lo HA.out)
              obtain ⟨⟨s0, s1, s2, s3, s4, s5⟩, _⟩ := six_at (lo_block lo HK.out)
              clear lo
              go_wp2_with fail
              go_ret
              refine ⟨?_, HL.out⟩
              first | rfl | (apply ret_bool; simp)

theorem headOnly_walk (a b c : ByteArray) (at_ x : Int) (w : World) (w0 : a.size ≤ maxLen) (w1 : b.size ≤ maxLen) (w2 : c.size ≤ maxLen) (_w3 : (Lit.int .i64 at_).wf = true) (w4 : (Lit.int .u8 x).wf = true) :
    Calls Try.prog 9 #[.string a, .string b, .string c, .int .i64 at_, .int .u8 x] w fun e w' => e = .returned (.bool true) ∧ Below w.heap.size w w' := by
  have e : ∀ z : ByteArray, z.size ≤ maxLen → z.data.toList.length ≤ 9223372036854775807 := by
    intro z hz; unfold maxLen at hz; exact hz
  by_cases hs : 3000 < wrap64 (wrap64 ((a.data.toList.length : Int) + (b.data.toList.length : Int)) + (c.data.toList.length : Int))
  · exact headOnly_long a.data.toList b.data.toList c.data.toList at_ x w hs
  · by_cases hn : (He.get a.data.toList b.data.toList c.data.toList).2 = 0
    · obtain ⟨y, rfl⟩ := byte_of w4
      exact headOnly_some a.data.toList b.data.toList c.data.toList at_ y w (e a w0) (e b w1) (e c w2) hs hn
    · exact headOnly_none a.data.toList b.data.toList c.data.toList at_ x w (e a w0) (e b w1) (e c w2) hs hn
end Go.Proofs.Ytbcilhdamjgoeaa

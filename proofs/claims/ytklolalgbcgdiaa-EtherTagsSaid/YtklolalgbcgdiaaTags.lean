/-
  EtherTags (layer 4): the walk.
-/
import Derived.Test.YtklolalgbcgdiaaTags12
import Derived.Test.YtklolalgbcgdiaaSame
import Derived.Test.YtklolalgbcgdiaaApp
import Derived.Test.YtklolalgbcgdiaaAwake4
import Derived.Deep.DeepCutAuto
import Derived.Deep.RegionLaw
import Derived.Test.YtklolalgbcgdiaaPart
namespace Go.Proofs.Ytklolalgbcgdiaa
open Go.RowKit

set_option maxRecDepth 100000 in
set_option maxHeartbeats 6000000 in
theorem tags_any (A0 : Option Addr) (n0 c0 : Nat) (zs : List Int) (vlan : Int) (w : World) (hi : Ints .i64 w A0 n0 c0 zs) :
    Calls Try.prog 7 #[.slice A0 n0 c0, .int .i64 vlan] w fun e w' => e = .returned (.bool true) ∧ Below w.heap.size w w' := by
  have hmx : n0 ≤ 9223372036854775807 := by have h1 := hi.cap; have h2 := hi.max; unfold maxLen at h2; omega
  have HI := Lib.hid hi
  go_enter Try.func7, Try.ntmps7
  go_upto_region 1 with fail
  go_cut [5] (fun p wx => ∃ (g : Nat) (d0 d1 d2 d3 d4 d5 d6 d7 d8 d9 d10 d11 vl y : Int) (A : Option Addr) (m c : Nat) (bs : List Int), p = .pointer (some ⟨g, 0, none⟩) ∧ w.heap.size ≤ g ∧ (∀ z ∈ [d0, d1, d2, d3, d4, d5, d6, d7, d8, d9, d10, d11], 0 ≤ z ∧ z < 256) ∧ (1535 ≤ y ∧ y ≤ 65535) ∧ (bs.length = m ∧ m ≤ 1501 ∧ m ≤ c ∧ c ≤ maxLen ∧ (A = none → c = 0)) ∧ (∀ z ∈ bs, 0 ≤ z ∧ z < 256) ∧ Box g 42 #[.int .u8 d0, .int .u8 d1, .int .u8 d2, .int .u8 d3, .int .u8 d4, .int .u8 d5, .int .u8 d6, .int .u8 d7, .int .u8 d8, .int .u8 d9, .int .u8 d10, .int .u8 d11, .int .i64 vl, .int .i64 y, .slice A m c] wx ∧ Lies g A (bs.map (Value.int .u8)) wx ∧ Below w.heap.size w wx)
  case first =>
    clear hi
    go_wp2_with fail
    refine (new_any A0 n0 c0 zs _ HI.out.len hmx HI.out.lies).mono ?_
    rintro e w1 ⟨D, rfl, hD, hdeck, hb1⟩
    go_wp2_with fail
    refine (frame_any D A0 n0 c0 zs _ hdeck).mono ?_
    rintro e w2 ⟨a, b, vl, y, A, m, c, bs, rfl, hy, hv, hlies, hm, hz, hs⟩
    have hb2 := stays_below hb1 hs hD
    have HM := Lib.hid hm; clear hm
    go_wp2
    go_meet
    refine ⟨w2.heap.size, 2, 0, a / 16777216 % 256, a / 65536 % 256, a / 256 % 256, a % 256, 2, 0, b / 16777216 % 256, b / 65536 % 256, b / 256 % 256, b % 256, vl, y, A, m, c, bs, rfl, hb2.size, ?_, hy, HM.out, hz, Box.made _ _ _, hlies.alloc (Nat.le_refl _) _, hb2.alloc hb2.size _⟩
    intro z h
    simp at h
    omega
  case rest =>
    obtain ⟨g, d0, d1, d2, d3, d4, d5, d6, d7, d8, d9, d10, d11, vl, y, A, m, c, bs, rfl, hg, hd, hy, ⟨hbl, hm1, hmc, hcm, hA⟩, hz, hb, hlies, hbel⟩ := hcut
    have HBL := Lib.hid hbl; clear hbl
    have hb0 : Box g 42 #[.int .u8 d0, .int .u8 d1, .int .u8 d2, .int .u8 d3, .int .u8 d4, .int .u8 d5, .int .u8 d6, .int .u8 d7, .int .u8 d8, .int .u8 d9, .int .u8 d10, .int .u8 d11, .int .i64 0, .int .i64 y, .slice A m c] (wc.setCell ⟨g, 12, none⟩ (.int .i64 0)) := by simpa using hb.put 12 (.int .i64 0)
    have hl0 := hlies.setCell (p := ⟨g, 12, none⟩) (Nat.le_refl _) (.int .i64 0)
    have hbel0 := hbel.setCell (p := ⟨g, 12, none⟩) hg (.int .i64 0)
    have q12 := hb.at_ 12
    have q12o := hb.open_ 12
    go_upto_region 3 with fail
    generalize wc.setCell ⟨g, 12, none⟩ (.int .i64 0) = w1 at hb0 hl0 hbel0
    clear hb hlies hbel q12 q12o hi
    have hb0_0 := hb0.at_ 0; have hb0_1 := hb0.at_ 1; have hb0_2 := hb0.at_ 2; have hb0_3 := hb0.at_ 3; have hb0_4 := hb0.at_ 4; have hb0_5 := hb0.at_ 5; have hb0_6 := hb0.at_ 6; have hb0_7 := hb0.at_ 7; have hb0_8 := hb0.at_ 8; have hb0_9 := hb0.at_ 9; have hb0_10 := hb0.at_ 10; have hb0_11 := hb0.at_ 11; have hb0_12 := hb0.at_ 12; have hb0_13 := hb0.at_ 13; have hb0_14 := hb0.at_ 14
    have hval := Lib.hid (fun w => valid_any d0 d1 d2 d3 d4 d5 d6 d7 d8 d9 d10 d11 0 y A m c w (by unfold maxLen at hcm; omega))
    go_wp2_with fail
    refine (hval.out _).mono ?_
    rintro e w2 ⟨rfl, hb2⟩
    clear hb0_0 hb0_1 hb0_2 hb0_3 hb0_4 hb0_5 hb0_6 hb0_7 hb0_8 hb0_9 hb0_10 hb0_11 hb0_12 hb0_13 hb0_14 hval
    have hbf := hb0.under hb2 hb0.inside
    have hlf := hl0.below (hb2.mono (Nat.le_of_lt hb0.inside))
    have hbelf := hbel0.trans (hb2.mono hbel0.size)
    clear hb0 hl0 hbel0 hb2
    by_cases hok : frameOk 0 y m = true
    · have HOK := Lib.hid hok
      go_upto_region 5 with fail
      clear hok
      have hbf_0 := hbf.at_ 0; have hbf_1 := hbf.at_ 1; have hbf_2 := hbf.at_ 2; have hbf_3 := hbf.at_ 3; have hbf_4 := hbf.at_ 4; have hbf_5 := hbf.at_ 5; have hbf_6 := hbf.at_ 6; have hbf_7 := hbf.at_ 7; have hbf_8 := hbf.at_ 8; have hbf_9 := hbf.at_ 9; have hbf_10 := hbf.at_ 10; have hbf_11 := hbf.at_ 11; have hbf_12 := hbf.at_ 12; have hbf_13 := hbf.at_ 13; have hbf_14 := hbf.at_ 14
      go_cut [6] (fun p wx => ∃ g2, p = .pointer (some ⟨g2, 0, none⟩) ∧ w2.heap.size ≤ g2 ∧ Box g2 42 #[.int .u8 d0, .int .u8 d1, .int .u8 d2, .int .u8 d3, .int .u8 d4, .int .u8 d5, .int .u8 d6, .int .u8 d7, .int .u8 d8, .int .u8 d9, .int .u8 d10, .int .u8 d11, .int .i64 0, .int .i64 y, .slice A m c] wx ∧ Below w2.heap.size w2 wx)
      case first =>
        go_wp2
        go_meet
        exact ⟨w2.heap.size, rfl, Nat.le_refl _, Box.made _ _ _, (Below.refl _ _).alloc (Nat.le_refl _) _⟩
      case rest =>
        obtain ⟨w3, rfl⟩ : ∃ x : World, x = wc := ⟨_, rfl⟩
        obtain ⟨g2, rfl, hg2, hbg, hb3⟩ := hcut
        clear hbf_0 hbf_1 hbf_2 hbf_3 hbf_4 hbf_5 hbf_6 hbf_7 hbf_8 hbf_9 hbf_10 hbf_11 hbf_12 hbf_13 hbf_14
        have hgs := hbf.inside
        have hbf := hbf.under hb3 hgs
        have hlf := hlf.below (hb3.mono (by omega))
        have hbelf := hbelf.trans (hb3.mono hbelf.size)
        clear hb3
        have q12 := hbg.at_ 12
        have q12o := hbg.open_ 12
        go_wp2_with fail
        refine (mod_any _ _ _ (by omega) (by omega)).mono ?_
        rintro e w4 ⟨rfl, rfl⟩
        have v0 := Int.emod_nonneg vlan (show (4094 : Int) ≠ 0 by omega)
        have v1 := Int.emod_lt_of_pos vlan (show (0 : Int) < 4094 by omega)
        generalize vlan % 4094 = r at v0 v1
        obtain ⟨v, hv⟩ : ∃ v : Int, v = 1 + r := ⟨_, rfl⟩
        have hwr : IntKind.i64.wrap (1 + r) = v := by rw [hv]; exact IntWalk.i64_in _ (by omega)
        have HV := Lib.hid hv; clear hv
        have hgg : g ≠ g2 := by omega
        have hbg4 : Box g2 42 #[.int .u8 d0, .int .u8 d1, .int .u8 d2, .int .u8 d3, .int .u8 d4, .int .u8 d5, .int .u8 d6, .int .u8 d7, .int .u8 d8, .int .u8 d9, .int .u8 d10, .int .u8 d11, .int .i64 v, .int .i64 y, .slice A m c] (w3.setCell ⟨g2, 12, none⟩ (.int .i64 v)) := by simpa using hbg.put 12 (.int .i64 v)
        have hbf4 := hbf.aside (p := ⟨g2, 12, none⟩) hgg (.int .i64 v)
        have hlf4 := hlf.setCell (p := ⟨g2, 12, none⟩) (by simp; omega) (.int .i64 v)
        have hbel4 := hbelf.setCell (p := ⟨g2, 12, none⟩) (by have := hbelf.size; simp; omega) (.int .i64 v)
        go_upto_region 7 with fail
        generalize w3.setCell ⟨g2, 12, none⟩ (.int .i64 v) = w4 at hbg4 hbf4 hlf4 hbel4
        have hv : 1 ≤ v ∧ v ≤ 4094 := by have := HV.out; omega
        clear hbg hbf hlf hbelf q12 q12o hwr HV v0 v1
        go_cut [7, 8] (fun p e wx => ∃ (B7 : Addr) (n7 c7 : Nat), p = .slice (some B7) n7 c7 ∧ e = .int .i64 0 ∧ (n7 = 14 + m ∧ n7 ≤ c7 ∧ c7 ≤ maxLen) ∧ Lies wx.heap.size (some B7) ((frameBytes [d0, d1, d2, d3, d4, d5, d6, d7, d8, d9, d10, d11] 0 y bs).map (Value.int .u8)) wx ∧ Below w4.heap.size w4 wx)
        case first =>
          have hbf4_0 := hbf4.at_ 0; have hbf4_1 := hbf4.at_ 1; have hbf4_2 := hbf4.at_ 2; have hbf4_3 := hbf4.at_ 3; have hbf4_4 := hbf4.at_ 4; have hbf4_5 := hbf4.at_ 5; have hbf4_6 := hbf4.at_ 6; have hbf4_7 := hbf4.at_ 7; have hbf4_8 := hbf4.at_ 8; have hbf4_9 := hbf4.at_ 9; have hbf4_10 := hbf4.at_ 10; have hbf4_11 := hbf4.at_ 11; have hbf4_12 := hbf4.at_ 12; have hbf4_13 := hbf4.at_ 13; have hbf4_14 := hbf4.at_ 14
          go_wp2_with fail
          refine (encode_yes d0 d1 d2 d3 d4 d5 d6 d7 d8 d9 d10 d11 0 y A m c bs _ HOK.out HBL.out hA (hlf4.more (Nat.le_of_lt hbf4.inside))).mono ?_
          rintro e w5 ⟨u, rfl, hown, hb5⟩
          obtain ⟨A7, c7, rfl, k1, k2, k3, k4⟩ := own_open hown
          have hl7 : (frameBytes [d0, d1, d2, d3, d4, d5, d6, d7, d8, d9, d10, d11] 0 y bs).length = 14 + m := by rw [← HBL.out]; simp [frameBytes]; omega
          obtain ⟨B7, rfl, -, -⟩ := k4.int (k := 0) (by omega)
          generalize (frameBytes [d0, d1, d2, d3, d4, d5, d6, d7, d8, d9, d10, d11] 0 y bs).length = n7 at hl7 k1
          have HL7 := Lib.hid hl7; clear hl7
          go_wp2
          go_meet
          exact ⟨B7, n7, c7, rfl, rfl, ⟨HL7.out, k1, k2⟩, k4, hb5⟩
        case rest =>
          obtain ⟨w5, rfl⟩ : ∃ x : World, x = wc := ⟨_, rfl⟩
          obtain ⟨B7, n7, c7, rfl, rfl, ⟨hn7, hc7, hc7m⟩, hl7, hb5⟩ := hcut
          have HN7 := Lib.hid hn7; clear hn7
          have hbg5 := hbg4.under hb5 hbg4.inside
          have hbf5 := hbf4.under hb5 hbf4.inside
          have hlf5 := hlf4.below (hb5.mono (Nat.le_of_lt hbf4.inside))
          have hbel5 := hbel4.trans (hb5.mono hbel4.size)
          clear hbg4 hbf4 hlf4 hbel4 hb5
          have hokv : frameOk v y m = true := frameOk_vlan HOK.out (by omega) (by omega)
          have HOKV := Lib.hid hokv; clear hokv
          go_upto_region 8 with fail
          go_cut [9, 10] (fun p e wx => ∃ (B9 : Addr) (n9 c9 : Nat), p = .slice (some B9) n9 c9 ∧ e = .int .i64 0 ∧ (n9 = 18 + m ∧ n9 ≤ c9 ∧ c9 ≤ maxLen) ∧ Lies wx.heap.size (some B9) ((frameBytes [d0, d1, d2, d3, d4, d5, d6, d7, d8, d9, d10, d11] v y bs).map (Value.int .u8)) wx ∧ Below w5.heap.size w5 wx)
          case first =>
            have hbg5_0 := hbg5.at_ 0; have hbg5_1 := hbg5.at_ 1; have hbg5_2 := hbg5.at_ 2; have hbg5_3 := hbg5.at_ 3; have hbg5_4 := hbg5.at_ 4; have hbg5_5 := hbg5.at_ 5; have hbg5_6 := hbg5.at_ 6; have hbg5_7 := hbg5.at_ 7; have hbg5_8 := hbg5.at_ 8; have hbg5_9 := hbg5.at_ 9; have hbg5_10 := hbg5.at_ 10; have hbg5_11 := hbg5.at_ 11; have hbg5_12 := hbg5.at_ 12; have hbg5_13 := hbg5.at_ 13; have hbg5_14 := hbg5.at_ 14
            go_wp2_with fail
            refine (encode_yes d0 d1 d2 d3 d4 d5 d6 d7 d8 d9 d10 d11 v y A m c bs _ HOKV.out HBL.out hA (hlf5.more (Nat.le_of_lt hbf5.inside))).mono ?_
            rintro e w6 ⟨u, rfl, hown, hb6⟩
            obtain ⟨A9, c9, rfl, k1, k2, k3, k4⟩ := own_open hown
            have hl9 : (frameBytes [d0, d1, d2, d3, d4, d5, d6, d7, d8, d9, d10, d11] v y bs).length = 18 + m := by rw [← HBL.out]; simp [frameBytes, show v ≠ 0 by omega]; omega
            obtain ⟨B9, rfl, -, -⟩ := k4.int (k := 0) (by omega)
            generalize (frameBytes [d0, d1, d2, d3, d4, d5, d6, d7, d8, d9, d10, d11] v y bs).length = n9 at hl9 k1
            have HL9 := Lib.hid hl9; clear hl9
            go_wp2
            go_meet
            exact ⟨B9, n9, c9, rfl, rfl, ⟨HL9.out, k1, k2⟩, k4, hb6⟩
          case rest =>
            obtain ⟨w6, rfl⟩ : ∃ x : World, x = wc := ⟨_, rfl⟩
            obtain ⟨B9, n9, c9, rfl, rfl, ⟨hn9, hc9, hc9m⟩, hl9, hb6⟩ := hcut
            have HN9 := Lib.hid hn9; clear hn9
            have hbf6 := hbf5.under hb6 hbf5.inside
            have hlf6 := hlf5.below (hb6.mono (Nat.le_of_lt hbf5.inside))
            have hbel6 := hbel5.trans (hb6.mono hbel5.size)
            have hl76 := lies_grow hl7 hb6 (Nat.le_refl _)
            clear hbf5 hlf5 hbel5 hb6 hbg5 hl7
            have x1 : decide ((n7 : Int) < 14) = false := by have := HN7.out; simp; omega
            have x2 : IntKind.i64.wrap ((n7 : Int) + 4) = (n7 : Int) + 4 := IntWalk.i64_in _ (by have := HN7.out; omega)
            have x3 : ((n9 : Int) != (n7 : Int) + 4) = false := by have := HN7.out; have := HN9.out; simp; omega
            have hfb0 : frameBytes [d0, d1, d2, d3, d4, d5, d6, d7, d8, d9, d10, d11] 0 y bs = [d0, d1, d2, d3, d4, d5, d6, d7, d8, d9, d10, d11] ++ (y / 256 :: y % 256 :: bs) := by simp [frameBytes]
            have hfbv : frameBytes [d0, d1, d2, d3, d4, d5, d6, d7, d8, d9, d10, d11] v y bs = [d0, d1, d2, d3, d4, d5, d6, d7, d8, d9, d10, d11] ++ (129 :: 0 :: v / 256 :: v % 256 :: y / 256 :: y % 256 :: bs) := by simp [frameBytes, show v ≠ 0 by omega]
            have L9a : Lies w6.heap.size (some B9) ([d0, d1, d2, d3, d4, d5, d6, d7, d8, d9, d10, d11].map (Value.int .u8)) w6 := by have h := hl9.take 12; rw [hfbv] at h; simpa using h
            have L9b : Lies w6.heap.size (some ⟨B9.block, B9.off + 16, none⟩) ((y / 256 :: y % 256 :: bs).map (Value.int .u8)) w6 := by have h := lies_drop hl9 16 (by omega); rw [hfbv] at h; simpa using h
            have L7a : Lies w6.heap.size (some B7) ([d0, d1, d2, d3, d4, d5, d6, d7, d8, d9, d10, d11].map (Value.int .u8)) w6 := by have h := hl76.take 12; rw [hfb0] at h; simpa using h
            have L7b : Lies w6.heap.size (some ⟨B7.block, B7.off + 12, none⟩) ((y / 256 :: y % 256 :: bs).map (Value.int .u8)) w6 := by have h := lies_drop hl76 12 (by omega); rw [hfb0] at h; simpa using h
            have HF := Lib.hid hfb0; clear hfb0 hfbv hl9 hl76
            have s7 : (12 : Int) ≤ c7 := by have := HN7.out; omega
            have s9 : (12 : Int) ≤ c9 := by have := HN9.out; omega
            have t9 : (16 : Int) ≤ c9 := by have := HN9.out; omega
            have u7 : (12 : Int) ≤ n7 := by have := HN7.out; omega
            have u9 : (16 : Int) ≤ n9 := by have := HN9.out; omega
            have k7 : ¬ c7 = 12 := by have := HN7.out; omega
            have k9 : ¬ c9 = 16 := by have := HN9.out; omega
            have H9a := Lib.hid L9a
            have H9b := Lib.hid L9b
            have H7a := Lib.hid L7a
            have H7b := Lib.hid L7b
            clear L9a L9b L7a L7b
            go_upto_region 11 with fail
            refine tags11 d0 d1 d2 d3 d4 d5 d6 d7 d8 d9 d10 d11 y v A m c bs g g2 B7 B9 n7 c7 n9 c9 w6 HBL HOK hd hz hm1 HF HN9 hc9 hc9m H9a H9b _ _ _ _ _ _ _ _ _ _ _ _ _ _ _ _ _ _ _ _ _ _ _ _ _ _ _ _ _ _ _ _ _ _ _ _ _ _ _ _ _ _ _ _ _ _ _ _ _ _ _ _ _ _ _ _ _ _ _ _ _ _ _ _ _ _ _ _ _ _ _ _ _ _ _ _ _ _ _ _ _ _ _ _ _ _ _ (fun v58 v61 q AX cX w7 hbx hlx hb7 => ?_)
            go_upto_region 12 with fail
            refine tags12 d0 d1 d2 d3 d4 d5 d6 d7 d8 d9 d10 d11 y v A m c bs g g2 B7 B9 n7 c7 n9 c9 w7 q AX cX HBL.out HN7 hc7 hc7m HN9 hc9 hc9m (lies_grow H9a.out hb7 (Nat.le_refl _)) (lies_grow H9b.out hb7 (Nat.le_refl _)) (lies_grow H7a.out hb7 (Nat.le_refl _)) (lies_grow H7b.out hb7 (Nat.le_refl _)) hbx hlx (hbf6.under hb7 hbf6.inside) (hlf6.below (hb7.mono (Nat.le_of_lt hbf6.inside))) _ _ _ _ _ _ _ _ _ _ _ _ _ _ _ _ _ _ _ _ _ _ _ _ _ _ _ _ _ _ _ _ _ _ _ _ _ _ _ _ _ _ _ _ _ _ _ _ _ _ _ _ _ _ _ _ _ _ _ _ _ _ _ _ _ _ _ _ _ _ _ _ _ _ _ _ _ _ _ _ _ _ _ _ _ (fun w8 hb8 => ?_)
            go_wp2
            go_ret
            exact ⟨rfl, (hbel6.trans (hb7.mono hbel6.size)).trans (hb8.mono (Nat.le_trans hbel6.size hb7.size))⟩
    · have hok' : frameOk 0 y m = false := by simpa using hok
      go_wp2_with fail
      refine (awake4_any _).mono ?_
      rintro e w3 ⟨rfl, hb3⟩
      go_wp2
      go_ret
      exact ⟨rfl, hbelf.trans (hb3.mono hbelf.size)⟩
end Go.Proofs.Ytklolalgbcgdiaa

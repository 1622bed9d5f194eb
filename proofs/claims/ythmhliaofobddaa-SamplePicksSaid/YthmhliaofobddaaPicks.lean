/-
  SamplePicks (layer 37): the walk. The program picks what the reference picks, whatever the three numbers are. No condition on the arguments.
-/
import Derived.Test.YthmhliaofobddaaPickAny
import Derived.Deep.RegionWith
import Derived.BigRegion
import Derived.OpenShut
import Derived.Deep.DeepCutAuto
namespace Go.Proofs.Ythmhliaofobddaa
open Go.RowKit

set_option maxHeartbeats 1000000 in
theorem same_yes (A A2 : Option Addr) (n c c2 : Nat) (zs : List Int) (w : World) (hz : zs.length = n) (hn : n ≤ 9223372036854775807) (h1 : Lies w.heap.size A (zs.map (Value.int .i64)) w) (h2 : Lies w.heap.size A2 (zs.map (Value.int .i64)) w) :
    Calls Try.prog 9 #[.slice A n c, .slice A2 n c2] w fun e w' => e = .returned (.bool true) ∧ ∃ k, w' = w.drewN k := by
  have HZ := Lib.hid hz; clear hz
  go_enter Try.func9, Try.ntmps9
  go_wp2_with fail
  go_loopw [13] (fun i wr => ∃ k q : Nat, k ≤ n ∧ i = .int .i64 k ∧ wr = w.drewN q) (fun i _ => n - (intOf i).toNat)
  case atStart => exact ⟨0, 0, Nat.zero_le _, rfl, rfl⟩
  case round =>
    obtain ⟨k, q, hk, rfl, rfl⟩ := hrel
    by_cases hlt : k < n
    · obtain ⟨a, rfl, ha, hc⟩ := h1.int (k := k) (by rw [HZ.out]; exact hlt)
      obtain ⟨a2, rfl, ha2, hc2⟩ := h2.int (k := k) (by rw [HZ.out]; exact hlt)
      generalize zs.getD k 0 = x at hc hc2
      go_wp2_with fail
      go_quiet (fail)
      go_wp2
      go_roundw
      case rel => exact ⟨k + 1, _, by omega, by go_num, rfl⟩
      case measure => simp [intOf]; omega
    · go_wp2
      go_ret
      exact ⟨rfl, q, rfl⟩

set_option maxHeartbeats 4000000 in
theorem picks_any (a0 a1 a2 : Int) (w : World) (w0 : (Lit.int .i64 a0).wf = true) (w1 : (Lit.int .i64 a1).wf = true) (w2 : (Lit.int .i64 a2).wf = true) :
    Calls Try.prog 4 #[.int .i64 a0, .int .i64 a1, .int .i64 a2] w fun e w' => e = .returned (.bool true) ∧ Below w.heap.size w w' := by
  have b0 := Go.bounds_i64 w0
  have b1 := Go.bounds_i64 w1
  have b2 := Go.bounds_i64 w2
  clear w0 w1 w2
  go_enter Try.func4, Try.ntmps4
  go_wp2_with fail
  refine (mod_any _ _ _ (by omega) (by omega)).mono ?_
  rintro e w1 ⟨rfl, rfl⟩
  have hr0 := Int.emod_nonneg a1 (show (50 : Int) ≠ 0 by omega)
  have hr1 := Int.emod_lt_of_pos a1 (show (0 : Int) < 50 by omega)
  generalize a1 % 50 = r at hr0 hr1
  go_wp2_with fail
  refine (mod_any _ _ _ (by omega) (by omega)).mono ?_
  rintro e w1 ⟨rfl, rfl⟩
  have hn0 := Int.emod_nonneg a0 (show (300 : Int) ≠ 0 by omega)
  have hn1 := Int.emod_lt_of_pos a0 (show (0 : Int) < 300 by omega)
  generalize a0 % 300 = n at hn0 hn1
  go_wp2_with fail
  refine (mod_any _ _ _ (by omega) (by omega)).mono ?_
  rintro e w1 ⟨rfl, rfl⟩
  have hf0 := Int.emod_nonneg a2 (show (1 + r + 2) ≠ 0 by omega)
  have hf1 := Int.emod_lt_of_pos a2 (show 0 < 1 + r + 2 by omega)
  generalize a2 % (1 + r + 2) = f at hf0 hf1
  go_wp2_with fail
  refine (mod_any _ _ _ (by omega) (by omega)).mono ?_
  rintro e w1 ⟨rfl, rfl⟩
  have hm0 := Int.emod_nonneg a0 (show (1073741824 : Int) ≠ 0 by omega)
  have hm1 := Int.emod_lt_of_pos a0 (show (0 : Int) < 1073741824 by omega)
  generalize a0 % 1073741824 = m at hm0 hm1
  go_wp2_with fail
  refine (mod_any _ _ _ (by omega) (by omega)).mono ?_
  rintro e w1 ⟨rfl, rfl⟩
  have hg0 := Int.emod_nonneg a2 (show (1048576 : Int) ≠ 0 by omega)
  have hg1 := Int.emod_lt_of_pos a2 (show (0 : Int) < 1048576 by omega)
  generalize a2 % 1048576 = g at hg0 hg1
  go_wp2_with fail
  generalize hws : World.alloc (World.alloc (World.alloc (World.alloc w (.cells #[.int .i64 a0, .int .i64 a1, .int .i64 a2] 3)) (.cells #[.int .i64 n, .int .i64 (1 + r), .int .i64 (f - 1)] 3)) (.cells #[.int .i64 m, .int .i64 1048576, .int .i64 g] 3))
    (.cells #[.slice (some ⟨w.heap.size, 0, none⟩) 3 3, .slice (some ⟨w.heap.size + 1, 0, none⟩) 3 3, .slice (some ⟨w.heap.size + 1 + 1, 0, none⟩) 3 3] 23) = ws
  have hbelS : Below w.heap.size w ws := by rw [← hws]; exact ((((Below.refl _ _).alloc (Nat.le_refl _) _).alloc (by simp) _).alloc (by simp; omega) _).alloc (by simp; omega) _
  have hx0 : Box w.heap.size 3 #[.int .i64 a0, .int .i64 a1, .int .i64 a2] ws := by rw [← hws]; exact (((Box.made _ _ _).past _).past _).past _
  have hx1 : Box (w.heap.size + 1) 3 #[.int .i64 n, .int .i64 (1 + r), .int .i64 (f - 1)] ws := by rw [← hws]; exact ((Box.madeAt (by simp)).past _).past _
  have hx2 : Box (w.heap.size + 1 + 1) 3 #[.int .i64 m, .int .i64 1048576, .int .i64 g] ws := by rw [← hws]; exact (Box.madeAt (by simp)).past _
  have hx3 : Box (w.heap.size + 1 + 1 + 1) 23 #[.slice (some ⟨w.heap.size, 0, none⟩) 3 3, .slice (some ⟨w.heap.size + 1, 0, none⟩) 3 3, .slice (some ⟨w.heap.size + 1 + 1, 0, none⟩) 3 3] ws := by rw [← hws]; exact Box.madeAt (by simp)
  clear hws
  have hrows : ∀ k : Nat, k < 3 → ∃ (gk : Nat) (x y z : Int), ws.cell? ⟨w.heap.size + 1 + 1 + 1, k, none⟩ = some (.slice (some ⟨gk, 0, none⟩) 3 3) ∧ Box gk 3 #[.int .i64 x, .int .i64 y, .int .i64 z] ws ∧
      x ≤ 9223372036854775807 ∧ -9223372036854775808 ≤ y ∧ y ≤ 9223372036854775807 := by
    intro k hk
    rw [hx3.at_ k]
    match k, hk with
    | 0, _ => exact ⟨_, _, _, _, rfl, hx0, by omega, by omega, by omega⟩
    | 1, _ => exact ⟨_, _, _, _, rfl, hx1, by omega, by omega, by omega⟩
    | 2, _ => exact ⟨_, _, _, _, rfl, hx2, by omega, by omega, by omega⟩
  have HR := Lib.hid hrows; clear hrows
  have hlt3 := hx3.inside
  clear hx0 hx1 hx2 hx3
  go_loopw [37] (fun i wr => ∃ k : Nat, k ≤ 3 ∧ i = .int .i64 k ∧ Below ws.heap.size ws wr) (fun i _ => 3 - (intOf i).toNat)
  case atStart => exact ⟨0, by omega, rfl, Below.refl _ _⟩
  case round =>
    obtain ⟨k, hk, rfl, hbel⟩ := hrel
    by_cases hlt : k < 3
    · obtain ⟨gk, x, y, z, hc, hB, hxu, hy0, hy1⟩ := HR.out k hlt
      have hc' : wr.cell? ⟨w.heap.size + 1 + 1 + 1, k, none⟩ = some (.slice (some ⟨gk, 0, none⟩) 3 3) := (hbel.cell (p := ⟨w.heap.size + 1 + 1 + 1, k, none⟩) hlt3).trans hc
      have hBr := hB.under hbel hB.inside
      have c0 : wr.cell? ⟨gk, 0, none⟩ = some (.int .i64 x) := hBr.at_ 0
      have c1 : wr.cell? ⟨gk, 1, none⟩ = some (.int .i64 y) := hBr.at_ 1
      have c2 : wr.cell? ⟨gk, 2, none⟩ = some (.int .i64 z) := hBr.at_ 2
      clear hc
      have hxu' := Lib.hid (show x ≤ 9223372036854775807 ∧ -9223372036854775808 ≤ y ∧ y ≤ 9223372036854775807 from ⟨hxu, hy0, hy1⟩)
      clear hxu hy0 hy1
      go_upto_region 5 with fail
      go_cut [10, 11] (fun p q wx => q = .int .i64 (errOf x y z) ∧ wx.ownsRow wr.heap.size 3 1 p (listOf x y z).length ((listOf x y z).map (Value.int .i64)) ∧ Below wr.heap.size wr wx)
      case first =>
        go_region_with (go_at_call 6; refine (pick_any x y z _ hxu'.out.1 hxu'.out.2.1 hxu'.out.2.2).mono ?_; rintro e w1 ⟨v1, rfl, ho1, hb1⟩)
        all_goals (go_wp2_with fail; go_meet; exact ⟨rfl, ho1, (Below.refl _ _).drew.trans hb1⟩)
      case rest =>
        obtain ⟨rfl, ho1, hb1⟩ := hcut
        have hs1 := hb1.size
        have c0' : wc.cell? ⟨gk, 0, none⟩ = some (.int .i64 x) := (hBr.under hb1 hBr.inside).at_ 0
        have c1' : wc.cell? ⟨gk, 1, none⟩ = some (.int .i64 y) := (hBr.under hb1 hBr.inside).at_ 1
        have c2' : wc.cell? ⟨gk, 2, none⟩ = some (.int .i64 z) := (hBr.under hb1 hBr.inside).at_ 2
        have hbel1 := hbel.trans (hb1.mono hbel.size)
        clear c0 c1 c2 hc' hbel hb1 hBr
        go_upto_region 6 with fail
        go_cut [12, 13] (fun p q wx => q = .int .i64 (errOf x y z) ∧ wx.ownsRow wc.heap.size 3 1 p (listOf x y z).length ((listOf x y z).map (Value.int .i64)) ∧ Below wc.heap.size wc wx)
        case first =>
          go_region_with (go_at_call 8; refine (ref_any x y z _).mono ?_; rintro e w1 ⟨v1, rfl, ho1, hb1⟩)
          all_goals (go_wp2_with fail; go_meet; exact ⟨rfl, ho1, (Below.refl _ _).drew.trans hb1⟩)
        case rest =>
          obtain ⟨rfl, ho2, hb2⟩ := hcut
          obtain ⟨A1, d1, rfl, q1, q2, q3, l1⟩ := own_open ho1
          obtain ⟨A2, d2, rfl, q4, q5, q6, l2⟩ := own_open ho2
          unfold maxLen at q2
          have l1' := (l1.below hb2).more hb2.size
          generalize hL : listOf x y z = L at l1' l2 q1 q3 q4 q6
          have HL := Lib.hid hL; clear hL
          have hb3 := hbel1.trans (hb2.mono (by have := hbel1.size; omega))
          generalize errOf x y z = er
          have ht : (er == er) = true := beq_self_eq_true er
          clear ho1 ho2 l1 hb2 hbel1 c0' c1' c2'
          go_wp2_with fail
          refine (same_yes _ _ _ _ _ L _ rfl (by omega) l1' l2).mono ?_
          rintro e w3 ⟨rfl, qq, rfl⟩
          go_wp2
          go_roundw
          case rel => exact ⟨k + 1, by omega, by go_num, below_drewN hb3 _⟩
          case measure => simp [intOf]; omega
    · go_wp2_with fail
      refine (awake_any _).mono ?_
      rintro e w3 ⟨rfl, hb3⟩
      go_wp2
      go_ret
      have hb4 := hbelS.trans (hbel.mono hbelS.size)
      exact ⟨rfl, hb4.trans (hb3.mono hb4.size)⟩
end Go.Proofs.Ythmhliaofobddaa

/-
  PacketSelf (layer 6): the walk. The words with their own sum behind them have the sum 0, and exchanging two words leaves the sum. No condition on the arguments.
-/
import Derived.Test.YtmdfajpbgfdbbabSum
import Derived.Test.YtmdfajpbgfdbbabMod
import Derived.BigRegion
import Derived.Deep.DeepCutAuto
namespace Go.Proofs.Ytmdfajpbgfdbbab
open Go.RowKit

theorem info8 : (Try.prog.info? 5).map (fun i => (i.zero, i.size, i.bytes)) = some (some (.int .u8 0), 1, 1) := by kernel_rfl

theorem lies_lit {e : TypeId} {K : IntKind} (zs : List Int) (W : World) : Lies (W.alloc (.cells (zs.map (Value.int K)).toArray e)).heap.size (some ⟨W.heap.size, 0, none⟩) (zs.map (Value.int K)) (W.alloc (.cells (zs.map (Value.int K)).toArray e)) := by
  intro k hk
  have hk' : k < zs.length := by simpa using hk
  refine ⟨_, .int K zs[k], rfl, by simp, by simp [hk'], ?_⟩
  have h1 := (Box.made W e (zs.map (Value.int K)).toArray).at_ k
  have e1 : (⟨W.heap.size, 0, none⟩ : Addr).add k = ⟨W.heap.size, k, none⟩ := by
    unfold Addr.add
    by_cases h : k = 0 <;> simp [h]
  rw [e1, h1]
  simp [hk']

set_option maxHeartbeats 400000 in
theorem awake_any (w : World) : Calls Try.prog 5 #[] w fun e w' => e = .returned (.bool true) ∧ Below w.heap.size w w' := by
  have hl := lies_lit (e := 5) (K := .u8) [0, 1, 242, 3, 244, 245, 246, 247] w
  go_enter Try.func5, Try.ntmps5
  go_wp2_with fail
  refine (sum_any _ _ _ [0, 1, 242, 3, 244, 245, 246, 247] _ rfl (fun z hz => by simp at hz; omega) (by decide) (by simpa using hl)).mono ?_
  rintro e w1 ⟨rfl, q, rfl⟩
  have e1 : (sumOf [0, 1, 242, 3, 244, 245, 246, 247] == 8717) = true := by decide
  go_wp2_with fail
  refine (sum_any _ _ _ [] _ rfl (fun z hz => by simp at hz) (by decide) Lies.nothing).mono ?_
  rintro e w1 ⟨rfl, q2, rfl⟩
  have e2 : (sumOf [] == 65535) = true := by decide
  go_wp2
  go_ret
  exact ⟨rfl, below_drewN ((Below.refl _ _).alloc (Nat.le_refl _) _) _⟩

set_option maxHeartbeats 400000 in
theorem short_yes (A : Option Addr) (n c : Nat) (w : World) (hn : n ≤ 600) : Calls Try.prog 4 #[.slice A n c] w fun e w' => e = .returned (.bool true) ∧ w = w' := by
  go_enter Try.func4, Try.ntmps4
  go_wp2
  go_ret
  exact ⟨congrArg (fun b => Ending.returned (.bool b)) (decide_eq_true (by omega)), rfl⟩
set_option maxHeartbeats 400000 in
theorem short_no (A : Option Addr) (n c : Nat) (w : World) (h : n ≤ 9223372036854775807) (hn : 600 < n) : Calls Try.prog 4 #[.slice A n c] w fun e w' => e = .returned (.bool false) ∧ w = w' := by
  go_enter Try.func4, Try.ntmps4
  go_wp2
  go_ret
  exact ⟨congrArg (fun b => Ending.returned (.bool b)) (decide_eq_false (by omega)), rfl⟩

set_option maxHeartbeats 2000000 in
set_option maxRecDepth 100000 in
theorem self_any (A : Option Addr) (n c : Nat) (zs : List Int) (a1 a2 : Int) (w : World) (hz : Ints .u8 w A n c zs) : Calls Try.prog 3 #[.slice A n c, .int .i64 a1, .int .i64 a2] w fun e w' => e = .returned (.bool true) ∧ Below w.heap.size w w' := by
  obtain ⟨hlen, hcap, hmax, hlies, hwf⟩ := hz
  unfold maxLen at hmax
  by_cases hbig : 600 < n
  · go_enter Try.func3, Try.ntmps3
    go_wp2_with fail
    refine (short_no _ _ _ _ (by omega) hbig).mono ?_
    rintro e w1 ⟨rfl, rfl⟩
    go_wp2_with fail
    refine (awake_any _).mono ?_
    rintro e w1 ⟨rfl, hb⟩
    go_wp2
    go_ret
    exact ⟨rfl, hb⟩
  by_cases hsmall : n < 2
  · go_enter Try.func3, Try.ntmps3
    go_wp2_with fail
    refine (short_yes _ _ _ _ (by omega)).mono ?_
    rintro e w1 ⟨rfl, rfl⟩
    go_wp2_with fail
    refine (awake_any _).mono ?_
    rintro e w1 ⟨rfl, hb⟩
    go_wp2
    go_ret
    exact ⟨rfl, hb⟩
  have hbytes : Bytes zs := fun z hz => by
    have := hwf z hz
    simp [Lit.wf, IntKind.min, IntKind.max, IntKind.signed, IntKind.bits] at this
    omega
  obtain ⟨a, rfl, ha, -⟩ := hlies.int (k := 0) (by omega)
  obtain ⟨h, hh⟩ : ∃ h : Nat, n / 2 = h := ⟨_, rfl⟩
  have hh0 : (n : Int) / 2 = h := by omega
  have hh1 : 2 * h ≤ n := by omega
  have hh2 : 1 ≤ h := by omega
  have hh3 : ((h : Int) * 2).toNat = 2 * h := by omega
  have hn6 : n ≤ 600 := by omega
  clear hbig hsmall hh
  go_enter Try.func3, Try.ntmps3
  go_wp2_with fail
  refine (short_yes _ _ _ _ (by omega)).mono ?_
  rintro e w1 ⟨rfl, rfl⟩
  go_wp2_with fail
  have hlt := (hlies.take (2 * h))
  rw [← List.map_take] at hlt
  have hbt := bytes_take hbytes (2 * h)
  have htl : (zs.take (2 * h)).length = 2 * h := by simp; omega
  clear hlies hwf hbytes hh0 hlen
  generalize zs.take (2 * h) = bs at hlt hbt htl
  refine (sum_any _ _ _ bs _ htl hbt (by omega) hlt).mono ?_
  rintro e w1 ⟨rfl, q1, rfl⟩
  go_wp2_with (at_builtin; refine push_many rfl _ _ 22 rfl w.heap.size 5 (.int .u8 0) 1 Try.underlying22 info8 rfl _ 0 [] rfl (World.ownsRow_nil _ _ _ _) (some a) (2 * h) c w.heap.size (bs.map (Value.int .u8)) rfl ?c1 ?c2 ?c3 ?c4 ?c5 ?c6 ?c7 ?_)
  case c1 => simpa using htl
  case c2 => omega
  case c3 => exact hlt.drewN _
  case c4 => exact fun u hu => by simp at hu; obtain ⟨z, _, rfl⟩ := hu; rfl
  case c5 => unfold maxLen; omega
  case c6 => omega
  case c7 => exact Nat.le_refl _
  intro v1 w1 hown hgrow
  have hbel := (below_drewN (Below.refl w.heap.size w) q1).grown hgrow (Nat.le_refl _) (fun j hj => by cases hj)
  have hlt1 := hlt.below hbel
  clear hgrow
  obtain ⟨g, cap, rfl, hg1, hg2⟩ := hown.form (by omega)
  have e1 := Int.emod_nonneg a1 (show (h : Int) ≠ 0 by omega)
  have e2 := Int.emod_lt_of_pos a1 (show 0 < (h : Int) by omega)
  have e3 := Int.emod_nonneg a2 (show (h : Int) ≠ 0 by omega)
  have e4 := Int.emod_lt_of_pos a2 (show 0 < (h : Int) by omega)
  have h22 : 2 * (h : Int) / 2 = h := by omega
  go_wp2_with fail
  refine (mod_any _ _ _ (by omega) (by omega)).mono ?_
  rintro e w2 ⟨rfl, rfl⟩
  generalize a1 % (h : Int) = i' at e1 e2
  obtain ⟨i, rfl⟩ := Int.eq_ofNat_of_zero_le e1
  go_wp2_with fail
  refine (mod_any _ _ _ (by omega) (by omega)).mono ?_
  rintro e w2 ⟨rfl, rfl⟩
  generalize a2 % (h : Int) = k' at e3 e4
  obtain ⟨k, rfl⟩ := Int.eq_ofNat_of_zero_le e3
  have hik : 2 * i + 1 < 2 * h := by omega
  have hkk : 2 * k + 1 < 2 * h := by omega
  have cell : ∀ j, j < 2 * h → w1.cell? (a.add j) = some (.int .u8 (bs.getD j 0)) := fun j hj => by
    obtain ⟨a', h1, _, h2⟩ := hlt1.int (k := j) (by omega)
    injection h1 with h1
    rw [h1]; exact h2
  have add1 : ∀ j, a.add (j + 1) = ⟨a.block, a.off + (j + 1), none⟩ := fun j => by simp [Addr.add]
  have l1 := cell (2 * i) (by omega)
  have l2 := cell (2 * i + 1) (by omega)
  have l3 := cell (2 * k) (by omega)
  have l4 := cell (2 * k + 1) (by omega)
  rw [add1] at l2 l4
  have hcl : ∀ j, j < 2 * h → w1.cell? ⟨g, j, none⟩ = some (.int .u8 (bs.getD j 0)) := fun j hj => by
    rw [hown.cellAt j (by omega), List.getElem?_map, List.getElem?_eq_getElem (by omega), List.getD_eq_getElem?_getD, List.getElem?_eq_getElem (by omega)]; rfl
  have m1 := hcl (2 * i) (by omega)
  have m2 := hcl (2 * i + 1) (by omega)
  have m3 := hcl (2 * k) (by omega)
  have m4 := hcl (2 * k + 1) (by omega)
  have z1 := hown.frozenAt (2 * i)
  have z2 := hown.frozenAt (2 * i + 1)
  have z3 := hown.frozenAt (2 * k)
  have z4 := hown.frozenAt (2 * k + 1)
  have hsw := Lib.hid (words_swap bs i k (by omega) (by omega))
  clear cell add1 hcl
  have hown' := Lib.hid ((((hown.stored (2 * i) (.int .u8 (bs.getD (2 * k) 0))).1.stored (2 * i + 1) (.int .u8 (bs.getD (2 * k + 1) 0))).1.stored (2 * k) (.int .u8 (bs.getD (2 * i) 0))).1.stored (2 * k + 1) (.int .u8 (bs.getD (2 * i + 1) 0))).1
  have hbel' := Lib.hid ((((hbel.setCell (p := ⟨g, 2 * i, none⟩) hg1 (.int .u8 (bs.getD (2 * k) 0))).setCell (p := ⟨g, 2 * i + 1, none⟩) hg1 (.int .u8 (bs.getD (2 * k + 1) 0))).setCell (p := ⟨g, 2 * k, none⟩) hg1 (.int .u8 (bs.getD (2 * i) 0))).setCell (p := ⟨g, 2 * k + 1, none⟩) hg1 (.int .u8 (bs.getD (2 * i + 1) 0)))
  have t1 : (2 * (i : Int)).toNat = 2 * i := by omega
  have t2 : (2 * (i : Int) + 1).toNat = 2 * i + 1 := by omega
  have t3 : (2 * (k : Int)).toNat = 2 * k := by omega
  have t4 : (2 * (k : Int) + 1).toNat = 2 * k + 1 := by omega
  have t5 : IntKind.i64.wrap (2 * (i : Int) + 1) = 2 * (i : Int) + 1 := IntWalk.i64_in _ (by omega)
  have t6 : IntKind.i64.wrap (2 * (k : Int) + 1) = 2 * (k : Int) + 1 := IntWalk.i64_in _ (by omega)
  have t7 : 0 ≤ 2 * (i : Int) := by omega
  have t8 : 0 ≤ 2 * (i : Int) + 1 := by omega
  have t9 : 0 ≤ 2 * (k : Int) := by omega
  have t10 : 0 ≤ 2 * (k : Int) + 1 := by omega
  have t11 : 2 * (i : Int) + 1 < 2 * h := by omega
  have t12 : 2 * (k : Int) + 1 < 2 * h := by omega
  have t13 : 2 * (i : Int) < 2 * h := by omega
  have t14 : 2 * (k : Int) < 2 * h := by omega
  go_upto_region 7 with fail
  go_cut [42] (fun _ wx => wx.ownsRow w.heap.size 5 1 (.slice (some ⟨g, 0, none⟩) (2 * h) cap) (2 * h) ((put2 (put2 bs (2 * i) (bs.getD (2 * k) 0) (bs.getD (2 * k + 1) 0)) (2 * k) (bs.getD (2 * i) 0) (bs.getD (2 * i + 1) 0)).map (Value.int .u8)) ∧ Below w.heap.size w wx)
  case first =>
    by_cases e : i = k
    · subst e
      generalize y1 : bs.getD (2 * i) 0 = x1 at l1 l3 m1 m3 hown' hbel'
      generalize y2 : bs.getD (2 * i + 1) 0 = x2 at l2 l4 m2 m4 hown' hbel'
      have Y1 := Lib.hid y1; clear y1
      have Y2 := Lib.hid y2; clear y2
      have n1 : ¬ 2 * i = 2 * i + 1 := by omega
      have n2 : ¬ 2 * i + 1 = 2 * i := by omega
      go_region
      go_wp2_with fail
      go_meet
      refine ⟨?_, hbel'.out.drew⟩
      have h9 := hown'.out
      simp only [put2, List.map_set, Y1.out, Y2.out]
      exact h9.drew
    · generalize y1 : bs.getD (2 * i) 0 = x1 at l1 m1 hown' hbel'
      generalize y2 : bs.getD (2 * i + 1) 0 = x2 at l2 m2 hown' hbel'
      generalize y3 : bs.getD (2 * k) 0 = x3 at l3 m3 hown' hbel'
      generalize y4 : bs.getD (2 * k + 1) 0 = x4 at l4 m4 hown' hbel'
      have Y1 := Lib.hid y1; clear y1
      have Y2 := Lib.hid y2; clear y2
      have Y3 := Lib.hid y3; clear y3
      have Y4 := Lib.hid y4; clear y4
      have n1 : ¬ 2 * i = 2 * i + 1 := by omega
      have n2 : ¬ 2 * i + 1 = 2 * i := by omega
      have n3 : ¬ 2 * k = 2 * k + 1 := by omega
      have n4 : ¬ 2 * k + 1 = 2 * k := by omega
      have n5 : ¬ 2 * i = 2 * k := by omega
      have n6 : ¬ 2 * k = 2 * i := by omega
      have n7 : ¬ 2 * i + 1 = 2 * k := by omega
      have n8 : ¬ 2 * k = 2 * i + 1 := by omega
      have n9 : ¬ 2 * i = 2 * k + 1 := by omega
      have n10 : ¬ 2 * k + 1 = 2 * i := by omega
      have n11 : ¬ i = k := e
      have n12 : ¬ k = i := fun h => e h.symm
      go_region
      go_wp2_with fail
      go_meet
      refine ⟨?_, hbel'.out.drew⟩
      have h9 := hown'.out
      simp only [put2, List.map_set, Y1.out, Y2.out, Y3.out, Y4.out]
      exact h9.drew
  case rest =>
    obtain ⟨hownc, hbelc⟩ := hcut
    have hltc := hlt.below hbelc
    have hsum : sumOf (put2 (put2 bs (2 * i) (bs.getD (2 * k) 0) (bs.getD (2 * k + 1) 0)) (2 * k) (bs.getD (2 * i) 0) (bs.getD (2 * i + 1) 0)) = sumOf bs := by
      unfold sumOf; rw [hsw.out]
    have Hsum := Lib.hid hsum; clear hsum
    have hself := Lib.hid (self_sum bs h hbt htl)
    have hcsl : (put2 (put2 bs (2 * i) (bs.getD (2 * k) 0) (bs.getD (2 * k + 1) 0)) (2 * k) (bs.getD (2 * i) 0) (bs.getD (2 * i + 1) 0)).length = 2 * h := by simp [put2]; omega
    have hcsb : Bytes (put2 (put2 bs (2 * i) (bs.getD (2 * k) 0) (bs.getD (2 * k + 1) 0)) (2 * k) (bs.getD (2 * i) 0) (bs.getD (2 * i + 1) 0)) := by
      intro z hz
      unfold put2 at hz
      have s1 : ∀ (l : List Int) (j : Nat) (x : Int), (∀ z ∈ l, 0 ≤ z ∧ z < 256) → 0 ≤ x ∧ x < 256 → ∀ z ∈ l.set j x, 0 ≤ z ∧ z < 256 := fun l j x hl hx z hz => by
        rcases List.mem_or_eq_of_mem_set hz with h | h
        · exact hl z h
        · exact h ▸ hx
      exact s1 _ _ _ (s1 _ _ _ (s1 _ _ _ (s1 _ _ _ hbt (bytes_at hbt _)) (bytes_at hbt _)) (bytes_at hbt _)) (bytes_at hbt _) z hz
    generalize put2 (put2 bs (2 * i) (bs.getD (2 * k) 0) (bs.getD (2 * k + 1) 0)) (2 * k) (bs.getD (2 * i) 0) (bs.getD (2 * i + 1) 0) = cs at hownc Hsum hcsl hcsb
    have Hcsl := Lib.hid hcsl; clear hcsl
    have Htl := Lib.hid htl; clear htl
    clear hsw hown' hbel' l1 l2 l3 l4 m1 m2 m3 m4 z1 z2 z3 z4 hown hbel hlt1 t1 t2 t3 t4 t5 t6 t7 t8 t9 t10 t11 t12 t13 t14 h22
    go_wp2_with (at_builtin; refine push_many rfl _ _ 22 rfl wc.heap.size 5 (.int .u8 0) 1 Try.underlying22 info8 rfl _ 0 [] rfl (World.ownsRow_nil _ _ _ _) (some a) (2 * h) c w.heap.size (bs.map (Value.int .u8)) rfl ?c1 ?c2 ?c3 ?c4 ?c5 ?c6 ?c7 ?_)
    case c1 => simpa using Htl.out
    case c2 => omega
    case c3 => exact hltc
    case c4 => exact fun u hu => by simp at hu; obtain ⟨z, _, rfl⟩ := hu; rfl
    case c5 => unfold maxLen; omega
    case c6 => omega
    case c7 => exact Nat.le_refl _
    intro v2 w2 hown2 hgrow2
    have hbel2 := (Below.refl wc.heap.size wc).grown hgrow2 (Nat.le_refl _) (fun j hj => by cases hj)
    have hc2 := own_under hownc hbel2 (Nat.le_refl _)
    clear hgrow2
    have hsb := fold_bd (words bs)
    have hs1 : 0 ≤ sumOf bs := by unfold sumOf; omega
    have hs2 : sumOf bs ≤ 65535 := by unfold sumOf; omega
    clear hsb
    generalize hsm : sumOf bs = sm at hs1 hs2 Hsum hself
    have Hsm := Lib.hid hsm; clear hsm
    have hq : sm / 256 % 256 = sm / 256 := by omega
    rw [hq] at hself
    clear hq
    have hlit : Lies (w2.heap.size + 1) (some ⟨w2.heap.size, 0, none⟩) [.int .u8 (sm / 256), .int .u8 (sm % 256)] (w2.alloc (.cells #[.int .u8 (sm / 256), .int .u8 (sm % 256)] 5)) := by
      have h9 := lies_lit (e := 5) (K := .u8) [sm / 256, sm % 256] w2
      simpa using h9
    go_wp2_with (at_builtin; refine push_many rfl _ _ 22 rfl wc.heap.size 5 (.int .u8 0) 1 Try.underlying22 info8 rfl _ (2 * h) _ rfl (hown2.alloc _) (some ⟨w2.heap.size, 0, none⟩) 2 2 (w2.heap.size + 1) [.int .u8 (sm / 256), .int .u8 (sm % 256)] rfl ?c1 ?c2 ?c3 ?c4 ?c5 ?c6 ?c7 ?_)
    case c1 => rfl
    case c2 => omega
    case c3 => exact hlit
    case c4 => exact fun u hu => by simp at hu; rcases hu with rfl | rfl <;> rfl
    case c5 => unfold maxLen; omega
    case c6 => omega
    case c7 => have := hbel2.size; simp; omega
    intro v3 w3 hown3 hgrow3
    have hb3 : Below wc.heap.size wc w3 := (hbel2.alloc hbel2.size _).grown hgrow3 (by have := hbel2.size; simp; omega) (fun j hj => by have := (hown2.lt j hj).1; omega)
    have hc3 := own_under hownc hb3 (Nat.le_refl _)
    obtain ⟨A3, c3, rfl, h3c, h3m, hl3, hlies3⟩ := own_open hown3
    unfold maxLen at h3m
    clear hgrow3 hown2 hlit hown3 hbel2 hc2
    have hlies3' : Lies w3.heap.size A3 ((bs ++ [sm / 256, sm % 256]).map (Value.int .u8)) w3 := by simpa using hlies3
    clear hlies3 hl3
    have hb4 : Bytes (bs ++ [sm / 256, sm % 256]) := fun z hz => by
      simp at hz
      rcases hz with h | h | h
      · exact hbt z h
      · omega
      · omega
    go_wp2_with fail
    refine (sum_any _ _ _ (bs ++ [sm / 256, sm % 256]) _ (by simp [Htl.out]) hb4 (by omega) hlies3').mono ?_
    rintro e w4 ⟨rfl, q4, rfl⟩
    have g0 := hself.out
    go_wp2_with fail
    refine (sum_any _ _ _ cs (w3.drewN q4) Hcsl.out hcsb (by omega) ((Lies.own hc3).drewN q4)).mono ?_
    rintro e w5 ⟨rfl, q5, rfl⟩
    have g1 := Hsum.out
    go_wp2_with fail
    refine (awake_any _).mono ?_
    rintro e w6 ⟨rfl, hb6⟩
    go_wp2
    go_ret
    refine ⟨rfl, ?_⟩
    have hb7 := below_drewN (hbelc.trans (hb3.mono hbelc.size)) (q4 + q5)
    exact hb7.trans (hb6.mono hb7.size)
end Go.Proofs.Ytmdfajpbgfdbbab

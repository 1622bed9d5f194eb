/-
  Layer 32: Encode.
-/
import Derived.Test.YtpclmngkpkinoaaOpenV
import Derived.Test.YtpclmngkpkinoaaEnc15
import Derived.Deep.DeepCutAuto
import Derived.Laws.Cover3
namespace Go.Proofs.Ytpclmngkpkinoaa
open Go.RowKit
theorem or_again (g : Int) (h0 : 0 ≤ g) (h1 : g ≤ 4095) : bits .or .i64 g 32768 = g + 32768 := by
  obtain ⟨a, rfl⟩ := Int.eq_ofNat_of_zero_le h0
  have e1 : (BitVec.ofInt 64 (a : Int)).toNat = a := by
    rw [BitVec.ofInt_natCast, BitVec.toNat_ofNat]; exact Nat.mod_eq_of_lt (by omega)
  have e2 : (BitVec.ofInt 64 32768).toNat = 32768 := by decide
  show IntKind.i64.wrap ((BitVec.ofInt 64 (a : Int) ||| BitVec.ofInt 64 32768).toNat : Int) = _
  rw [BitVec.toNat_or, e1, e2, Nat.or_comm, nat_join 15 32768 a (by omega) (by omega), IntWalk.i64_in _ (by omega)]
  omega
def capA (r : Int) : List Int := if r = -1 then [] else [9, 1, r]
def capG (g : Int) (ag : Bool) : List Int := if (g != 0 || ag) then [64, 2] ++ be2 (g + if ag then 32768 else 0) else []
def capO (r g : Int) (ag : Bool) (a : Int) : List Int := capA r ++ capG g ag ++ ([65, 4] ++ be4 a)
def shO (a : Int) : Int := if a > 65535 then 23456 else a
def encO (a i hh r g : Int) (ag : Bool) : List Int := [4] ++ be2 (shO a) ++ be2 hh ++ be4 i ++ [((capO r g ag a).length : Int) + 2, 2, ((capO r g ag a).length : Int)] ++ capO r g ag a
theorem valid_bounds {a i hh r g : Int} (h : validO a i hh r g = true) : (1 ≤ a ∧ a ≤ 4294967295) ∧ (1 ≤ i ∧ i ≤ 4294967295) ∧ (0 ≤ hh ∧ hh ≤ 65535) ∧ (-1 ≤ r ∧ r ≤ 4) ∧ (0 ≤ g ∧ g ≤ 4095) := by
  have := of_decide_eq_true h
  omega
set_option maxRecDepth 100000 in
set_option maxHeartbeats 2000000 in
theorem encode_yes (a i hh r g : Int) (ag : Bool) (w : World) (hv : validO a i hh r g = true) :
    Calls Try.prog 16 #[.agg #[.int .i64 a, .int .i64 i, .int .i64 hh, .int .i64 r, .int .i64 g, .bool ag]] w fun e w' => ∃ v, e = .returned (.tuple #[v, .int .i64 0]) ∧ w'.ownsRow w.heap.size 5 1 v (encO a i hh r g ag).length ((encO a i hh r g ag).map (Value.int .u8)) ∧ Below w.heap.size w w' := by
  have hb := Box.made w 31 #[.int .i64 a, .int .i64 i, .int .i64 hh, .int .i64 r, .int .i64 g, .bool ag]
  have HV := Lib.hid (fun w => ovalid_any a i hh r g ag w)
  rw [hv] at HV
  obtain ⟨⟨a0, a1⟩, ⟨i0, i1⟩, ⟨q0, q1⟩, ⟨r0, r1⟩, g0, g1⟩ := valid_bounds hv
  obtain ⟨E, hE⟩ : ∃ E, encO a i hh r g ag = E := ⟨_, rfl⟩
  rw [hE]
  replace hE := Lib.hid hE
  go_enter Try.func16, Try.ntmps16
  go_wp2_with ((with_reducible refine load_box (t := 31) Try.underlying31 ?_ ?_ ?_ hb ?_); (· rfl); (· kernel_rfl); (· rfl))
  refine (HV.out _).mono ?_
  rintro e w1 ⟨rfl, hb1⟩
  have hbx := hb.under hb1 hb.inside
  have hin := hbx.inside
  have hbA := hbx
  have hbl1 : Below w.heap.size w w1 := ((Below.refl w.heap.size w).alloc (Nat.le_refl _) _).trans (hb1.mono (by simp))
  have hsz1 : w.heap.size + 1 ≤ w1.heap.size := by omega
  clear hb hb1 HV
  have hx3 := hbx.at_ 3
  have hnil : w1.ownsRow (w.heap.size + 1) 5 1 (.slice none 0 0) 0 [] := World.ownsRow_nil _ _ _ _
  go_upto_if 13 with fail
  go_cut [4] (fun v wx => wx.ownsRow (w.heap.size + 1) 5 1 v (capA r).length ((capA r).map (Value.int .u8)) ∧ Below (w.heap.size + 1) w1 wx)
  case first =>
    by_cases hr : r = -1
    · subst hr
      go_wp2_with fail
      go_meet
      exact ⟨World.ownsRow_nil _ _ _ _, Below.refl _ _⟩
    · have hrb : (r != -1) = true := by simpa using hr
      have hrw : IntKind.u8.wrap r = r := by rcases (show r = 0 ∨ r = 1 ∨ r = 2 ∨ r = 3 ∨ r = 4 by omega) with rfl | rfl | rfl | rfl | rfl <;> rfl
      go_wp2_with (at_builtin; refine push_lit rfl _ _ 22 rfl _ 5 (.int .u8 0) 1 Try.underlying22 infoU8 rfl (by omega) _ _ _ rfl (hnil) [ .int .u8 9, .int .u8 1, .int .u8 r] rfl (by simp [Value.oneCell']) (by simp) (by first | omega | (simp; done) | (simp; omega)) (by first | omega | (simp; done) | (simp; omega)) ?_)
      intro v3 w3 hown3 hgr3
      have hb3 := lit_below (Below.refl (w.heap.size + 1) w1) hnil hgr3 (Nat.le_refl _) hsz1
      go_wp2
      go_meet
      exact ⟨by simpa [capA, hr] using hown3, hb3⟩
  case rest =>
    obtain ⟨hown1, hbw1⟩ := hcut
    have hl1 : (capA r).length ≤ 3 := by unfold capA; split <;> simp
    have hbx := hbx.under hbw1 (Nat.lt_succ_self w.heap.size)
    have hsz2 : w.heap.size + 1 ≤ wc.heap.size := Nat.le_trans hsz1 hbw1.size
    clear hx3 hnil
    have hx4 := hbx.at_ 4
    have hx5 := hbx.at_ 5
    go_upto_region 6 with fail
    go_cut [26] (fun b wx => b = .bool (g != 0 || ag) ∧ wx = wc)
    case first =>
      by_cases hg : g = 0
      · subst hg
        go_wp2_with fail
        go_meet
        exact ⟨by simp, rfl⟩
      · have hgb : (g != 0) = true := by simpa using hg
        go_wp2_with fail
        go_meet
        exact ⟨by simp [hgb], rfl⟩
    case rest =>
      obtain ⟨rfl, hw⟩ := hcut
      subst hw
      go_upto_if 26 with fail
      go_cut [4] (fun v wx => wx.ownsRow (w.heap.size + 1) 5 1 v ((capA r).length + (capG g ag).length) ((capA r ++ capG g ag).map (Value.int .u8)) ∧ Below (w.heap.size + 1) w1 wx)
      case first =>
        cases hq : (g != 0 || ag) with
        | false =>
          have hG : capG g ag = [] := by simp [capG, hq]
          go_wp2_with fail
          go_meet
          exact ⟨by simpa [hG] using hown1, hbw1⟩
        | true =>
          have hG : capG g ag = [64, 2] ++ be2 (g + if ag then 32768 else 0) := by simp [capG, hq]
          cases ag
          · go_wp2_with (at_builtin; refine push_lit rfl _ _ 22 rfl _ 5 (.int .u8 0) 1 Try.underlying22 infoU8 rfl (by omega) _ _ _ rfl (hown1) [ .int .u8 64, .int .u8 2] rfl (by simp [Value.oneCell']) (by simp) (by first | omega | (simp; done) | (simp; omega)) (by first | omega | (simp; done) | (simp; omega)) ?_)
            intro v3 w3 hown3 hgr3
            have hb3 := lit_below hbw1 hown1 hgr3 (Nat.le_refl _) hsz2
            have hsz3 := hb3.size
            go_wp2_with fail
            refine (append16_any (w.heap.size + 1) v3 _ _ g w3 g0 (by omega) (by simp; omega) (by omega) hown3).mono ?_
            rintro e w4 ⟨v4, rfl, hown4, hb4⟩
            go_wp2
            go_meet
            exact ⟨by rw [hG]; simpa [be2] using hown4, hb3.trans hb4⟩
          · go_wp2_with (at_builtin; refine push_lit rfl _ _ 22 rfl _ 5 (.int .u8 0) 1 Try.underlying22 infoU8 rfl (by omega) _ _ _ rfl (hown1) [ .int .u8 64, .int .u8 2] rfl (by simp [Value.oneCell']) (by simp) (by first | omega | (simp; done) | (simp; omega)) (by first | omega | (simp; done) | (simp; omega)) ?_)
            intro v3 w3 hown3 hgr3
            have hb3 := lit_below hbw1 hown1 hgr3 (Nat.le_refl _) hsz2
            have hsz3 := hb3.size
            go_wp2_with fail
            rw [or_again g g0 g1]
            refine (append16_any (w.heap.size + 1) v3 _ _ (g + 32768) w3 (by omega) (by omega) (by simp; omega) (by omega) hown3).mono ?_
            rintro e w4 ⟨v4, rfl, hown4, hb4⟩
            go_wp2
            go_meet
            exact ⟨by rw [hG]; simpa [be2] using hown4, hb3.trans hb4⟩
      case rest =>
        obtain ⟨hown2, hbw2⟩ := hcut
        have hl2 : (capG g ag).length ≤ 4 := by unfold capG; split <;> simp [be2]
        have hby := hbA.under hbw2 (Nat.lt_succ_self w.heap.size)
        have hsz3 : w.heap.size + 1 ≤ wc.heap.size := Nat.le_trans hsz1 hbw2.size
        clear hown1 hbw1 hsz2
        clear hx4 hx5 hbx
        go_upto_region 11 with fail
        refine enc11 (w.heap.size + 1) w.heap.size _ _ _ a i hh r g ag _ (by omega) a1 (by omega) hsz3 (Nat.lt_succ_self _) hown2 hby _ _ _ _ _ _ _ _ _ _ _ _ _ _ _ _ _ _ _ _ _ _ _ _ _ _ _ _ _ _ _ _ _ _ _ _ _ _ _ _ _ _ _ _ _ _ _ _ _ _ _ _ _ _ _ _ _ _ _ _ _ _ _ _ _ _ _ _ (fun v5 v39 v40 w5 hown5 hb5 => ?_)
        have hbw5 := hbw2.trans hb5
        have hbz := hbA.under hbw5 (Nat.lt_succ_self w.heap.size)
        have hsz5 : w.heap.size + 1 ≤ w5.heap.size := Nat.le_trans hsz1 hbw5.size
        have hz0 := hbz.at_ 0
        clear hown2 hby hbw2 hb5 hsz3
        go_upto_if 47 with fail
        go_cut [6] (fun v wx => v = .int .i64 (shO a) ∧ wx = w5)
        case first =>
          by_cases hs : a > 65535
          · have e : shO a = 23456 := if_pos hs
            go_wp2_with fail
            go_meet
            exact ⟨by rw [e], rfl⟩
          · have e : shO a = a := if_neg hs
            go_wp2_with fail
            go_meet
            exact ⟨by rw [e], rfl⟩
        case rest =>
          obtain ⟨rfl, hw5⟩ := hcut
          subst hw5
          have hs0 : 0 ≤ shO a ∧ shO a ≤ 4294967295 := by unfold shO; split <;> omega
          generalize hsh : shO a = sh at hs0
          go_upto_region 15 with fail
          have hcap : (capA r ++ capG g ag).map (Value.int .u8) ++ ([65, 4] ++ be4 a).map (Value.int .u8) = (capO r g ag a).map (Value.int .u8) := by simp [capO]
          have hcl : (capA r).length + (capG g ag).length + 6 = (capO r g ag a).length := by simp [capO, be4]; omega
          rw [hcap, hcl] at hown5
          have hl13 : (capO r g ag a).length ≤ 13 ∧ 6 ≤ (capO r g ag a).length := by omega
          clear hcap hcl
          obtain ⟨A4, c4, rfl, k41, k42, k43, k44⟩ := own_open hown5
          have hin5 := hbz.inside
          have henc : E = [4] ++ be2 sh ++ be2 hh ++ be4 i ++ [((capO r g ag a).length : Int) + 2, 2, ((capO r g ag a).length : Int)] ++ capO r g ag a := by rw [← hE.out, encO, hsh]
          clear hown5 k43
          generalize capO r g ag a = L at hl13 k41 k44 henc
          obtain ⟨n, hn⟩ : ∃ n, L.length = n := ⟨_, rfl⟩
          rw [hn] at hl13 k41 henc
          replace henc := Lib.hid henc
          obtain ⟨hn13, hn6⟩ := hl13
          refine enc15 wc.heap.size w.heap.size sh a i hh r g ag wc hs0.1 hs0.2 q0 (by omega) (Nat.le_refl _) hin5 hbz _ _ _ _ _ _ _ _ _ _ _ _ _ _ _ _ _ _ _ _ _ _ _ _ _ _ _ _ _ _ _ _ _ _ _ _ _ _ _ _ _ _ _ _ _ _ _ _ _ _ _ _ _ _ _ _ _ _ _ _ _ _ _ _ _ _ _ _ (fun v6 v48 v50 w6 hown6 hb6 => ?_)
          have hb6z := hbz.under hb6 hin5
          have hz1 := hb6z.at_ 1
          have hsz6 := hb6.size
          go_wp2_with fail
          refine (append32_any wc.heap.size v6 5 _ i w6 (by omega) i1 (by omega) hsz6 hown6).mono ?_
          rintro e w7 ⟨v7, rfl, hown7, hb7⟩
          have hb67 := hb6.trans hb7
          have hsz7 := hb67.size
          clear hz0 hz1 hbz hb6z hb6 hown6 k41
          have hz : (0 : Int) ≤ n := by omega
          go_wp2_with (at_builtin; refine push_lit rfl _ _ 22 rfl _ 5 (.int .u8 0) 1 Try.underlying22 infoU8 rfl (by omega) _ _ _ rfl (hown7) [ .int .u8 ((n : Int) + 2), .int .u8 2, .int .u8 n] rfl (by simp [Value.oneCell']) (by simp) (by first | omega | (simp; done) | (simp; omega)) (by first | omega | (simp; done) | (simp; omega)) ?_)
          intro v8 w8 hown8 hgr8
          have hb8 : Below wc.heap.size w7 w8 := lit_below (Below.refl _ w7) hown7 hgr8 (Nat.le_refl _) hsz7
          have hb68 := hb67.trans hb8
          have k45 := k44.below hb68
          have hsz8 := hb68.size
          go_wp2_with (at_builtin; refine push_all rfl _ _ 22 rfl _ 5 (.int .u8 0) 1 Try.underlying22 infoU8 rfl (by omega) _ _ _ rfl (hown8) _ _ _ _ (( L).map (Value.int .u8)) rfl (by first | rfl | (simp; done) | (simp; omega)) (by omega) ( k45) (by simp [Value.oneCell']) (by first | omega | (simp; done) | (simp; omega)) (by first | omega | (simp; done) | (simp; omega)) ?_)
          intro v9 w9 hown9 hgr9
          have hb9 := hb68.grown hgr9 hsz8 (fun j hj => (hown8.lt j hj).1)
          go_wp2
          go_ret2
          refine ⟨_, rfl, ?_, hbl1.trans ((hbw5.trans (hb9.mono hsz5)).mono (Nat.le_succ _))⟩
          have h9 := own_less (base' := w.heap.size) hown9 (by omega)
          have hlen : ([4] ++ be2 sh ++ be2 hh ++ be4 i ++ [(n : Int) + 2, 2, (n : Int)] ++ L).length = 5 + 4 + 3 + n := by simp [be2, be4, hn]; omega
          rw [henc.out, hlen]
          simpa using h9
end Go.Proofs.Ytpclmngkpkinoaa

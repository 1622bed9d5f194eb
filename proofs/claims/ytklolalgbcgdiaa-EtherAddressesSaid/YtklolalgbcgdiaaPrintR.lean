/-
  Layer 4, the reference: Print.
-/
import Derived.Test.YtklolalgbcgdiaaPrintMac
namespace Go.Proofs.Ytklolalgbcgdiaa
open Go.RowKit
open Txt
set_option maxHeartbeats 1000000 in
theorem rprint_any (a b c d e f : Int) (w : World) (hr : ∀ z ∈ [a, b, c, d, e, f], 0 ≤ z ∧ z < 256) :
    Calls Try.prog 11 #[.agg #[.int .u8 a, .int .u8 b, .int .u8 c, .int .u8 d, .int .u8 e, .int .u8 f]] w fun e' w' => e' = .returned (.string (strOfNums (macTxt [a, b, c, d, e, f]))) ∧ Below w.heap.size w w' := by
  have hat := fun (k : Nat) (h : k < 6) (w : World) => run_macAt a b c d e f k h w
  obtain ⟨i0, hi, hz0, hz1, hz2⟩ := info_parts infoU8
  go_enter Try.func11, Try.ntmps11
  go_wp2
  have hl6 : [a, b, c, d, e, f].length = 6 := rfl
  generalize hl0 : [a, b, c, d, e, f] = l at hat hr hl6
  have Hl0 := Lib.hid hl0; clear hl0
  have Hl := Lib.hid hl6; clear hl6
  go_loopw [3, 7] (fun v i wr => ∃ k : Nat, k ≤ 6 ∧ i = .int .i64 k ∧ wr.ownsRow (w.heap.size + 1) 5 1 v (macTxt (l.take k)).length ((macTxt (l.take k)).map (Value.int .u8)) ∧ Below w.heap.size w wr ∧ w.heap.size < wr.heap.size) (fun _ i _ => 6 - (intOf i).toNat)
  case atStart => exact ⟨0, Nat.zero_le _, rfl, World.ownsRow_nil _ _ _ _, (by repeat (with_reducible first | exact Below.refl _ _ | assumption | refine Below.drew ?_ | refine below_drewN ?_ _ | refine Below.alloc ?_ (by simp) _ | refine Below.setCell ?_ (by first | (simp; done) | omega | (simp; omega)) _ | refine Below.alloc ?_ (by simp; omega) _)), by simp⟩
  case round =>
    obtain ⟨k, hk, rfl, hown, hbel, hsz⟩ := hrel
    by_cases hlt : k < 6
    · have hix := hat k hlt
      have hb := hr (l.getD k 0) (by rw [List.getD_eq_getElem?_getD, List.getElem?_eq_getElem (by have := Hl.out; omega)]; exact List.getElem_mem _)
      have hsn := Lib.hid (take_more l k (by have := Hl.out; omega))
      generalize hx : l.getD k 0 = x at hix hb hsn
      clear hat hx
      obtain ⟨hx0, hx1⟩ := hb
      have hlen : (macTxt (l.take k)).length ≤ 20 := by have h := macTxt_len (l.take k); rw [List.length_take, Hl.out] at h; omega
      have hb4 : 0 ≤ x / 16 ∧ x / 16 < 16 := by omega
      have hb5 : 0 ≤ x % 16 ∧ x % 16 < 16 := by omega
      have hd1 := run_digit (x / 16) hb4.1 hb4.2
      have hd2 := run_digit (x % 16) hb5.1 hb5.2
      have hand : bits .and .u8 x 15 = x % 16 := by go_bits2
      by_cases h0 : k ≤ 0
      · go_upto_region 7 with fail
        refine wp_region_tail 8 (fun _ => False) (fun _ => True) (Stays (fun _ => False)) [isV (u3), isV ?v1r1, isV ?v2r1, isV ?v3r1, isV ?v4r1, isV ?v5r1, isV ?v6r1, isLit (fun _ => False) (0) 5 #[.int .u8 (hexd (x / 16)), .int .u8 (hexd (x % 16))] 2] (by kernel_rfl) (by kernel_rfl) (by kernel_rfl) (by kernel_rfl) trivial (fun _ h => False.elim h) (fun _ _ _ h => h) ?spr1 ?enr1
        case spr1 =>
          -- 0: Op.move t3
          refine specs_cons (cst _ rfl fun env ρ W hW hI hF hS => ?_) ?_
          · have e3 := hS.at 3 (by kernel_rfl) (slot_base (by kernel_rfl))
            go_simp
            try with_reducible rfl
          -- 1: Op.move t5
          refine specs_cons (cst _ rfl fun env ρ W hW hI hF hS => ?_) ?_
          · have e5 := hS.at 5 (by kernel_rfl) (slot_base (by kernel_rfl))
            go_simp
            try with_reducible rfl
          -- 2: Op.binOp BinOp.shr 5 t17 (const (4:u64)) 52
          refine specs_cons (cst _ rfl fun env ρ W hW hI hF hS => ?_) ?_
          · have hc := stays_cells hW; have cc := hS.const; have e17 := (hS.at 17 (by kernel_rfl) (v := env 1) (by kernel_rfl)).trans (hF 1 (by kernel_rfl))
            go_simp
            try with_reducible rfl
          -- 3: Op.index 9 (const (Value.string { data := #[48, 49, 50, 51, 52, 53, 54
          refine specs_cons (cst _ rfl fun env ρ W hW hI hF hS => ?_) ?_
          · have hc := stays_cells hW; have cc := hS.const; have e18 := (hS.at 18 (by kernel_rfl) (v := env 2) (by kernel_rfl)).trans (hF 2 (by kernel_rfl))
            go_simp
            try with_reducible rfl
          -- 4: Op.move t5
          refine specs_cons (cst _ rfl fun env ρ W hW hI hF hS => ?_) ?_
          · have e5 := hS.at 5 (by kernel_rfl) (slot_base (by kernel_rfl))
            go_simp
            try with_reducible rfl
          -- 5: Op.binOp BinOp.and 5 t20 (const (15:u8)) 5
          refine specs_cons (cst _ rfl fun env ρ W hW hI hF hS => ?_) ?_
          · have hc := stays_cells hW; have cc := hS.const; have e20 := (hS.at 20 (by kernel_rfl) (v := env 4) (by kernel_rfl)).trans (hF 4 (by kernel_rfl))
            go_simp
            try with_reducible rfl
          -- 6: Op.index 9 (const (Value.string { data := #[48, 49, 50, 51, 52, 53, 54
          refine specs_cons (cst _ rfl fun env ρ W hW hI hF hS => ?_) ?_
          · have hc := stays_cells hW; have cc := hS.const; have e21 := (hS.at 21 (by kernel_rfl) (v := env 5) (by kernel_rfl)).trans (hF 5 (by kernel_rfl))
            go_simp
            try with_reducible rfl
          -- 7: Op.buildSlice 33 2 #[(0, t19), (1, t22)]
          refine specs_cons (lit_made (Nat.zero_le _) _ _ _ rfl (fun _ h => False.elim h) (fun _ _ _ h => h) fun env ρ W hW hI hF hS => ?_) ?_
          · have e19 := (hS.at 19 (by kernel_rfl) (v := env 3) (by kernel_rfl)).trans (hF 3 (by kernel_rfl)); have e22 := (hS.at 22 (by kernel_rfl) (v := env 6) (by kernel_rfl)).trans (hF 6 (by kernel_rfl))
            go_simp
            try with_reducible rfl
          exact specs_nil
        case enr1 =>
          intro env W K
          have f0 : env 0 = _ := K.facts 0 (by decide) rfl
          have f1 : env 1 = _ := K.facts 1 (by decide) rfl
          have f2 : env 2 = _ := K.facts 2 (by decide) rfl
          have f3 : env 3 = _ := K.facts 3 (by decide) rfl
          have f4 : env 4 = _ := K.facts 4 (by decide) rfl
          have f5 : env 5 = _ := K.facts 5 (by decide) rfl
          have f6 : env 6 = _ := K.facts 6 (by decide) rfl
          obtain ⟨g7, k7, ⟨l7, x7⟩, b7⟩ := K.facts 7 (by decide) rfl
          have hgrow := K.stays.of_drew.below
          clear K
          simp only [List.take_succ_cons, List.take_zero, List.drop_zero, List.drop_succ_cons, putAll, Nat.reduceAdd]
          simp only [Act.put, List.setIfInBounds_toArray, List.set_cons_succ, List.set_cons_zero, f0, f1, f2, f3, f4, f5, f6, k7]
          clear f0 f1 f2 f3 f4 f5 f6
          have hown' := own_under hown hgrow (Nat.le_refl _)
          have hsz3 := hgrow.size
          go_wp2_with (at_builtin; refine push_all rfl _ _ 33 rfl _ 5 (.int .u8 0) 1 Try.underlying33 infoU8 rfl (by omega) _ _ _ rfl (hown') _ _ _ _ (( [hexd (x / 16), hexd (x % 16)]).map (Value.int .u8)) rfl (by first | rfl | (simp; done) | (simp; omega)) (by omega) ( lies_box (xs := [.int .u8 (hexd (x / 16)), .int .u8 (hexd (x % 16))]) b7 b7.inside) (by simp [Value.oneCell']) (by first | omega | (simp; done) | (simp; omega)) (by first | omega | (simp; done) | (simp; omega)) ?_)
          intro v2 w2 hown2 hgr2
          have hbel2 := (hbel.trans (hgrow.mono (by omega))).grown hgr2 (by have := hgrow.size; omega) (fun j hj => by have := (hown'.lt j hj).1; omega)
          have hsz2 := hgr2.size
          have htx := Lib.hid (show macTxt (l.take (k + 1)) = macTxt (l.take k) ++ [hexd (x / 16), hexd (x % 16)] by rw [hsn.out]; obtain rfl : k = 0 := (by omega); rfl)
          go_wp2
          go_roundw
          case rel =>
            refine ⟨k + 1, by omega, by go_num, ?_, hbel2, by omega⟩
            rw [htx.out]
            simpa using hown2
          case measure => simp [intOf]; omega
      · have h0' : 0 < k := by omega
        go_wp2_with (at_builtin; refine push_lit rfl _ _ 33 rfl _ 5 (.int .u8 0) 1 Try.underlying33 infoU8 rfl (by omega) _ _ _ rfl (hown) [ .int .u8 58] rfl (by simp [Value.oneCell']) (by simp) (by first | omega | (simp; done) | (simp; omega)) (by first | omega | (simp; done) | (simp; omega)) ?_)
        intro v1 w1 hown1 hgr1
        have hbel1 := lit_below hbel hown hgr1 (by omega) (by omega)
        have hsz1 := hgr1.size
        simp at hsz1
        clear hgr1 hown
        go_upto_region 7 with fail
        refine wp_region_tail 8 (fun _ => False) (fun _ => True) (Stays (fun _ => False)) [isV (v1), isV ?v1r2, isV ?v2r2, isV ?v3r2, isV ?v4r2, isV ?v5r2, isV ?v6r2, isLit (fun _ => False) (0) 5 #[.int .u8 (hexd (x / 16)), .int .u8 (hexd (x % 16))] 2] (by kernel_rfl) (by kernel_rfl) (by kernel_rfl) (by kernel_rfl) trivial (fun _ h => False.elim h) (fun _ _ _ h => h) ?spr2 ?enr2
        case spr2 =>
          -- 0: Op.move t3
          refine specs_cons (cst _ rfl fun env ρ W hW hI hF hS => ?_) ?_
          · have e3 := hS.at 3 (by kernel_rfl) (slot_base (by kernel_rfl))
            go_simp
            try with_reducible rfl
          -- 1: Op.move t5
          refine specs_cons (cst _ rfl fun env ρ W hW hI hF hS => ?_) ?_
          · have e5 := hS.at 5 (by kernel_rfl) (slot_base (by kernel_rfl))
            go_simp
            try with_reducible rfl
          -- 2: Op.binOp BinOp.shr 5 t17 (const (4:u64)) 52
          refine specs_cons (cst _ rfl fun env ρ W hW hI hF hS => ?_) ?_
          · have hc := stays_cells hW; have cc := hS.const; have e17 := (hS.at 17 (by kernel_rfl) (v := env 1) (by kernel_rfl)).trans (hF 1 (by kernel_rfl))
            go_simp
            try with_reducible rfl
          -- 3: Op.index 9 (const (Value.string { data := #[48, 49, 50, 51, 52, 53, 54
          refine specs_cons (cst _ rfl fun env ρ W hW hI hF hS => ?_) ?_
          · have hc := stays_cells hW; have cc := hS.const; have e18 := (hS.at 18 (by kernel_rfl) (v := env 2) (by kernel_rfl)).trans (hF 2 (by kernel_rfl))
            go_simp
            try with_reducible rfl
          -- 4: Op.move t5
          refine specs_cons (cst _ rfl fun env ρ W hW hI hF hS => ?_) ?_
          · have e5 := hS.at 5 (by kernel_rfl) (slot_base (by kernel_rfl))
            go_simp
            try with_reducible rfl
          -- 5: Op.binOp BinOp.and 5 t20 (const (15:u8)) 5
          refine specs_cons (cst _ rfl fun env ρ W hW hI hF hS => ?_) ?_
          · have hc := stays_cells hW; have cc := hS.const; have e20 := (hS.at 20 (by kernel_rfl) (v := env 4) (by kernel_rfl)).trans (hF 4 (by kernel_rfl))
            go_simp
            try with_reducible rfl
          -- 6: Op.index 9 (const (Value.string { data := #[48, 49, 50, 51, 52, 53, 54
          refine specs_cons (cst _ rfl fun env ρ W hW hI hF hS => ?_) ?_
          · have hc := stays_cells hW; have cc := hS.const; have e21 := (hS.at 21 (by kernel_rfl) (v := env 5) (by kernel_rfl)).trans (hF 5 (by kernel_rfl))
            go_simp
            try with_reducible rfl
          -- 7: Op.buildSlice 33 2 #[(0, t19), (1, t22)]
          refine specs_cons (lit_made (Nat.zero_le _) _ _ _ rfl (fun _ h => False.elim h) (fun _ _ _ h => h) fun env ρ W hW hI hF hS => ?_) ?_
          · have e19 := (hS.at 19 (by kernel_rfl) (v := env 3) (by kernel_rfl)).trans (hF 3 (by kernel_rfl)); have e22 := (hS.at 22 (by kernel_rfl) (v := env 6) (by kernel_rfl)).trans (hF 6 (by kernel_rfl))
            go_simp
            try with_reducible rfl
          exact specs_nil
        case enr2 =>
          intro env W K
          have f0 : env 0 = _ := K.facts 0 (by decide) rfl
          have f1 : env 1 = _ := K.facts 1 (by decide) rfl
          have f2 : env 2 = _ := K.facts 2 (by decide) rfl
          have f3 : env 3 = _ := K.facts 3 (by decide) rfl
          have f4 : env 4 = _ := K.facts 4 (by decide) rfl
          have f5 : env 5 = _ := K.facts 5 (by decide) rfl
          have f6 : env 6 = _ := K.facts 6 (by decide) rfl
          obtain ⟨g7, k7, ⟨l7, x7⟩, b7⟩ := K.facts 7 (by decide) rfl
          have hgrow := K.stays.of_drew.below
          clear K
          simp only [List.take_succ_cons, List.take_zero, List.drop_zero, List.drop_succ_cons, putAll, Nat.reduceAdd]
          simp only [Act.put, List.setIfInBounds_toArray, List.set_cons_succ, List.set_cons_zero, f0, f1, f2, f3, f4, f5, f6, k7]
          clear f0 f1 f2 f3 f4 f5 f6
          have hown' := own_under hown1 hgrow (Nat.le_refl _)
          have hsz3 := hgrow.size
          go_wp2_with (at_builtin; refine push_all rfl _ _ 33 rfl _ 5 (.int .u8 0) 1 Try.underlying33 infoU8 rfl (by omega) _ _ _ rfl (hown') _ _ _ _ (( [hexd (x / 16), hexd (x % 16)]).map (Value.int .u8)) rfl (by first | rfl | (simp; done) | (simp; omega)) (by omega) ( lies_box (xs := [.int .u8 (hexd (x / 16)), .int .u8 (hexd (x % 16))]) b7 b7.inside) (by simp [Value.oneCell']) (by first | omega | (simp; done) | (simp; omega)) (by first | omega | (simp; done) | (simp; omega)) ?_)
          intro v2 w2 hown2 hgr2
          have hbel2 := (hbel1.trans (hgrow.mono (by omega))).grown hgr2 (by have := hgrow.size; omega) (fun j hj => by have := (hown'.lt j hj).1; omega)
          have hsz2 := hgr2.size
          have htx := Lib.hid (show macTxt (l.take (k + 1)) = (macTxt (l.take k) ++ [58]) ++ [hexd (x / 16), hexd (x % 16)] by rw [hsn.out]; exact macTxt_snoc _ _ (by intro e; have := congrArg List.length e; rw [List.length_take, Hl.out] at this; simp at this; omega))
          go_wp2
          go_roundw
          case rel =>
            refine ⟨k + 1, by omega, by go_num, ?_, hbel2, by omega⟩
            rw [htx.out]
            simpa using hown2
          case measure => simp [intOf]; omega
    · obtain rfl : k = 6 := by omega
      have htk : l.take 6 = l := List.take_of_length_le (by rw [Hl.out]; exact Nat.le_refl _)
      rw [htk] at hown
      obtain ⟨A, cc, rfl, hc1, hc2, hc3, hlies⟩ := own_open hown
      have hconv := fun dst hd => conv_bytes (P := Try.prog) (src := 33) (dst := dst) (c := cc) Try.underlying33 Try.underlying5 hd hlies rfl
      have hconv := hconv 9 Try.underlying9
      clear hat hown hlies
      go_wp2
      go_ret
      exact ⟨by rw [Hl0.out]; rfl, hbel⟩
end Go.Proofs.Ytklolalgbcgdiaa

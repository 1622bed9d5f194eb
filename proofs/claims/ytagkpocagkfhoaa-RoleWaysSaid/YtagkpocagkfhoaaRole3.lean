/-
  Roles: sending and receiving a route whose attributes are all empty but for the mark.
-/
import Derived.Test.YtagkpocagkfhoaaRole2
import Derived.Deep.DeepCutAuto
namespace Go.Proofs.Ytagkpocagkfhoaa
open Go.RowKit
def sendX (mine own x : Int) : Int := if x = -1 ∧ (downR mine = true ∨ mine = 4) then own else x
set_option maxHeartbeats 1000000 in
theorem send_bad (mine own x : Int) (w : World) (h1 : isR mine = true) (h2 : asnR own = true) (h3 : ¬ x = -1) (h4 : downR mine = false) :
    Calls Try.prog 22 #[.int .i64 mine, .int .i64 own, .agg #[.int .i64 0, .slice none 0 0, .bool false, .int .u64 0, .int .u64 0, .int .i64 0, .int .i64 0, .int .i64 (x), .slice none 0 0, .slice none 0 0, .slice none 0 0]] w fun e w' => e = .returned (.tuple #[.agg #[.int .i64 0, .slice none 0 0, .bool false, .int .u64 0, .int .u64 0, .int .i64 0, .int .i64 0, .int .i64 (0), .slice none 0 0, .slice none 0 0, .slice none 0 0], .int .i64 30]) ∧ Below w.heap.size w w' := by
  have H1 := Lib.hid (fun w => isRole_any mine w)
  have H2 := Lib.hid (fun w => asn_any own w)
  have H3 := Lib.hid (fun w => down_any mine w)
  rw [h1] at H1; rw [h2] at H2; rw [h4] at H3
  clear h1 h2 h4
  have hb := (Box.made w 43 #[.int .i64 0, .slice none 0 0, .bool false, .int .u64 0, .int .u64 0, .int .i64 0, .int .i64 0, .int .i64 (x), .slice none 0 0, .slice none 0 0, .slice none 0 0]).past (.cells #[.int .i64 0, .slice none 0 0, .bool false, .int .u64 0, .int .u64 0, .int .i64 0, .int .i64 0, .int .i64 (0), .slice none 0 0, .slice none 0 0, .slice none 0 0] 43)
  have hz : Box (w.heap.size + 1) 43 #[.int .i64 0, .slice none 0 0, .bool false, .int .u64 0, .int .u64 0, .int .i64 0, .int .i64 0, .int .i64 (0), .slice none 0 0, .slice none 0 0, .slice none 0 0] ((w.alloc (.cells #[.int .i64 0, .slice none 0 0, .bool false, .int .u64 0, .int .u64 0, .int .i64 0, .int .i64 0, .int .i64 (x), .slice none 0 0, .slice none 0 0, .slice none 0 0] 43)).alloc (.cells #[.int .i64 0, .slice none 0 0, .bool false, .int .u64 0, .int .u64 0, .int .i64 0, .int .i64 0, .int .i64 (0), .slice none 0 0, .slice none 0 0, .slice none 0 0] 43)) := Box.madeAt (by simp)
  have hbl : Below w.heap.size w ((w.alloc (.cells #[.int .i64 0, .slice none 0 0, .bool false, .int .u64 0, .int .u64 0, .int .i64 0, .int .i64 0, .int .i64 (x), .slice none 0 0, .slice none 0 0, .slice none 0 0] 43)).alloc (.cells #[.int .i64 0, .slice none 0 0, .bool false, .int .u64 0, .int .u64 0, .int .i64 0, .int .i64 0, .int .i64 (0), .slice none 0 0, .slice none 0 0, .slice none 0 0] 43)) := ((Below.refl _ _).alloc (Nat.le_refl _) _).alloc (by simp) _
  have hb_7 := hb.at_ 7
  have x0 : (x == -1) = false := by simpa using h3
  have x1 : (x != -1) = true := by simpa using h3
  go_enter Try.func22, Try.ntmps22
  go_wp2_with fail
  refine (H1.out _).mono ?_
  rintro e w1 ⟨rfl, rfl⟩
  go_wp2_with fail
  refine (H2.out _).mono ?_
  rintro e w1 ⟨rfl, rfl⟩
  go_wp2_with fail
  refine (H3.out _).mono ?_
  rintro e w1 ⟨rfl, rfl⟩
  go_wp2_with ((with_reducible refine store_box (t := 43) (us := ?_) ?_ ?_ ?_ hz ?_ ?_ ?_); rotate_left 3; (· exact rfl); (· rfl); (· simp [Value.oneCell']); rotate_left 1; (· kernel_rfl); (· rfl); intro w2 hz2 ho)
  exact ret_box2 (v := .int .i64 30) Try.results22 Try.underlying43 rfl (by kernel_rfl) rfl rfl hz2 rfl ⟨rfl, (ho.stays (X := fun _ => False) (Stays.of_below hbl) (by omega)).below⟩
theorem box_eq {Z : Nat} {t : TypeId} {cs us : Array Value} {w : World} (h : Box Z t cs w) (he : cs = us) : Box Z t us w := he ▸ h
set_option maxHeartbeats 2000000 in
theorem send_good (mine own x : Int) (w : World) (h1 : isR mine = true) (h2 : asnR own = true) (h3 : x = -1 ∨ downR mine = true) :
    Calls Try.prog 22 #[.int .i64 mine, .int .i64 own, .agg #[.int .i64 0, .slice none 0 0, .bool false, .int .u64 0, .int .u64 0, .int .i64 0, .int .i64 0, .int .i64 (x), .slice none 0 0, .slice none 0 0, .slice none 0 0]] w fun e w' => e = .returned (.tuple #[.agg #[.int .i64 0, .slice none 0 0, .bool false, .int .u64 0, .int .u64 0, .int .i64 0, .int .i64 0, .int .i64 (sendX mine own x), .slice none 0 0, .slice none 0 0, .slice none 0 0], .int .i64 0]) ∧ Below w.heap.size w w' := by
  have H1 := Lib.hid (fun w => isRole_any mine w)
  have H2 := Lib.hid (fun w => asn_any own w)
  have H3 := Lib.hid (fun w => down_any mine w)
  have H4 := Lib.hid (fun w => copies_mark x w)
  rw [h1] at H1; rw [h2] at H2
  clear h1 h2
  have hb := (Box.made w 43 #[.int .i64 0, .slice none 0 0, .bool false, .int .u64 0, .int .u64 0, .int .i64 0, .int .i64 0, .int .i64 (x), .slice none 0 0, .slice none 0 0, .slice none 0 0]).past (.cells #[.int .i64 0, .slice none 0 0, .bool false, .int .u64 0, .int .u64 0, .int .i64 0, .int .i64 0, .int .i64 (0), .slice none 0 0, .slice none 0 0, .slice none 0 0] 43)
  have hz : Box (w.heap.size + 1) 43 #[.int .i64 0, .slice none 0 0, .bool false, .int .u64 0, .int .u64 0, .int .i64 0, .int .i64 0, .int .i64 (0), .slice none 0 0, .slice none 0 0, .slice none 0 0] ((w.alloc (.cells #[.int .i64 0, .slice none 0 0, .bool false, .int .u64 0, .int .u64 0, .int .i64 0, .int .i64 0, .int .i64 (x), .slice none 0 0, .slice none 0 0, .slice none 0 0] 43)).alloc (.cells #[.int .i64 0, .slice none 0 0, .bool false, .int .u64 0, .int .u64 0, .int .i64 0, .int .i64 0, .int .i64 (0), .slice none 0 0, .slice none 0 0, .slice none 0 0] 43)) := Box.madeAt (by simp)
  have hbl : Below w.heap.size w ((w.alloc (.cells #[.int .i64 0, .slice none 0 0, .bool false, .int .u64 0, .int .u64 0, .int .i64 0, .int .i64 0, .int .i64 (x), .slice none 0 0, .slice none 0 0, .slice none 0 0] 43)).alloc (.cells #[.int .i64 0, .slice none 0 0, .bool false, .int .u64 0, .int .u64 0, .int .i64 0, .int .i64 0, .int .i64 (0), .slice none 0 0, .slice none 0 0, .slice none 0 0] 43)) := ((Below.refl _ _).alloc (Nat.le_refl _) _).alloc (by simp) _
  have hbi := hb.inside
  have hzi := hz.inside
  have hb_7 := hb.at_ 7
  by_cases hx : x = -1
  · subst hx
    clear h3
    by_cases h4 : mine = 4
    · subst h4
      rw [show downR 4 = false from rfl] at H3
      rw [show sendX 4 own (-1) = own by simp [sendX]]
      go_enter Try.func22, Try.ntmps22
      go_wp2_with fail
      refine (H1.out _).mono ?_
      rintro e w1 ⟨rfl, rfl⟩
      go_wp2_with fail
      refine (H2.out _).mono ?_
      rintro e w1 ⟨rfl, rfl⟩
      go_wp2_with ((with_reducible refine load_box (t := 43) Try.underlying43 ?_ ?_ ?_ hb ?_); (· rfl); (· kernel_rfl); (· rfl))
      refine (H4.out _).mono ?_
      rintro e w2 ⟨rfl, hb2⟩
      have b2 := hbl.trans (hb2.mono hbl.size)
      have hz2 := hz.under hb2 hz.inside
      have hbb := hb.under hb2 hb.inside
      have hbbi := hbb.inside
      have hz2i := hz2.inside
      have hy := Box.made w2 43 #[.int .i64 0, .slice none 0 0, .bool false, .int .u64 0, .int .u64 0, .int .i64 0, .int .i64 0, .int .i64 (0), .slice none 0 0, .slice none 0 0, .slice none 0 0]
      go_upto_region 6 with ((with_reducible refine store_box (t := 43) (us := ?_) ?_ ?_ ?_ hy ?_ ?_ ?_); rotate_left 3; (· exact rfl); (· rfl); (· simp [Value.oneCell']); rotate_left 1; (· kernel_rfl); (· rfl); intro w3 hy3 ho3)
      have b3 : Below w.heap.size w w3 := (ho3.stays (X := fun _ => False) (Stays.of_below (b2.alloc b2.size _)) b2.size).below
      have hb3 : Box w.heap.size 43 #[.int .i64 0, .slice none 0 0, .bool false, .int .u64 0, .int .u64 0, .int .i64 0, .int .i64 0, .int .i64 ((-1)), .slice none 0 0, .slice none 0 0, .slice none 0 0] w3 := by
        show w3.heap[w.heap.size]? = _
        rw [ho3.block _ (by omega)]; exact hbb.past _
      have hz3 : Box (w.heap.size + 1) 43 #[.int .i64 0, .slice none 0 0, .bool false, .int .u64 0, .int .u64 0, .int .i64 0, .int .i64 0, .int .i64 (0), .slice none 0 0, .slice none 0 0, .slice none 0 0] w3 := by
        show w3.heap[w.heap.size + 1]? = _
        rw [ho3.block _ (by omega)]; exact hz2.past _
      have hb3_7 := hb3.at_ 7
      clear hb_7 hb hz hbl hb2 hz2 hbb hy ho3
      go_wp2_with fail
      refine (H3.out _).mono ?_
      rintro e w4 ⟨rfl, rfl⟩
      have hy3_7 := hy3.at_ 7
      have hy3o7 := hy3.open_ 7
      have hy4 : Box w2.heap.size 43 #[.int .i64 0, .slice none 0 0, .bool false, .int .u64 0, .int .u64 0, .int .i64 0, .int .i64 0, .int .i64 (own), .slice none 0 0, .slice none 0 0, .slice none 0 0] (w3.setCell ⟨w2.heap.size, 7, none⟩ (.int .i64 own)) := box_eq (hy3.put 7 _) (by simp)
      have hz4 : Box (w.heap.size + 1) 43 #[.int .i64 0, .slice none 0 0, .bool false, .int .u64 0, .int .u64 0, .int .i64 0, .int .i64 0, .int .i64 (0), .slice none 0 0, .slice none 0 0, .slice none 0 0] (w3.setCell ⟨w2.heap.size, 7, none⟩ (.int .i64 own)) := hz3.aside (by simp; omega) _
      have b4 : Below w.heap.size w (w3.setCell ⟨w2.heap.size, 7, none⟩ (.int .i64 own)) := b3.setCell (by simp; exact b2.size) _
      go_wp2_with (first | ((with_reducible refine load_box (t := 43) Try.underlying43 ?_ ?_ ?_ hy4 ?_); (· rfl); (· kernel_rfl); (· rfl)) | ((with_reducible refine store_box (t := 43) (us := ?_) ?_ ?_ ?_ hz4 ?_ ?_ ?_); rotate_left 3; (· exact rfl); (· rfl); (· simp [Value.oneCell']); rotate_left 1; (· kernel_rfl); (· rfl); intro w5 hz5 ho5))
      exact ret_box2 (v := .int .i64 0) Try.results22 Try.underlying43 rfl (by kernel_rfl) rfl rfl hz5 rfl ⟨rfl, (ho5.stays (X := fun _ => False) (Stays.of_below b4) (by omega)).below⟩
    · have m0 : (mine == 4) = false := by simpa using h4
      cases hd : downR mine with
      | true =>
        rw [hd] at H3
        rw [show sendX mine own (-1) = own by simp [sendX, hd]]
        clear hd
        go_enter Try.func22, Try.ntmps22
        go_wp2_with fail
        refine (H1.out _).mono ?_
        rintro e w1 ⟨rfl, rfl⟩
        go_wp2_with fail
        refine (H2.out _).mono ?_
        rintro e w1 ⟨rfl, rfl⟩
        go_wp2_with ((with_reducible refine load_box (t := 43) Try.underlying43 ?_ ?_ ?_ hb ?_); (· rfl); (· kernel_rfl); (· rfl))
        refine (H4.out _).mono ?_
        rintro e w2 ⟨rfl, hb2⟩
        have b2 := hbl.trans (hb2.mono hbl.size)
        have hz2 := hz.under hb2 hz.inside
        have hbb := hb.under hb2 hb.inside
        have hbbi := hbb.inside
        have hz2i := hz2.inside
        have hy := Box.made w2 43 #[.int .i64 0, .slice none 0 0, .bool false, .int .u64 0, .int .u64 0, .int .i64 0, .int .i64 0, .int .i64 (0), .slice none 0 0, .slice none 0 0, .slice none 0 0]
        go_upto_region 6 with ((with_reducible refine store_box (t := 43) (us := ?_) ?_ ?_ ?_ hy ?_ ?_ ?_); rotate_left 3; (· exact rfl); (· rfl); (· simp [Value.oneCell']); rotate_left 1; (· kernel_rfl); (· rfl); intro w3 hy3 ho3)
        have b3 : Below w.heap.size w w3 := (ho3.stays (X := fun _ => False) (Stays.of_below (b2.alloc b2.size _)) b2.size).below
        have hb3 : Box w.heap.size 43 #[.int .i64 0, .slice none 0 0, .bool false, .int .u64 0, .int .u64 0, .int .i64 0, .int .i64 0, .int .i64 ((-1)), .slice none 0 0, .slice none 0 0, .slice none 0 0] w3 := by
          show w3.heap[w.heap.size]? = _
          rw [ho3.block _ (by omega)]; exact hbb.past _
        have hz3 : Box (w.heap.size + 1) 43 #[.int .i64 0, .slice none 0 0, .bool false, .int .u64 0, .int .u64 0, .int .i64 0, .int .i64 0, .int .i64 (0), .slice none 0 0, .slice none 0 0, .slice none 0 0] w3 := by
          show w3.heap[w.heap.size + 1]? = _
          rw [ho3.block _ (by omega)]; exact hz2.past _
        have hb3_7 := hb3.at_ 7
        clear hb_7 hb hz hbl hb2 hz2 hbb hy ho3
        go_wp2_with fail
        refine (H3.out _).mono ?_
        rintro e w4 ⟨rfl, rfl⟩
        have hy3_7 := hy3.at_ 7
        have hy3o7 := hy3.open_ 7
        have hy4 : Box w2.heap.size 43 #[.int .i64 0, .slice none 0 0, .bool false, .int .u64 0, .int .u64 0, .int .i64 0, .int .i64 0, .int .i64 (own), .slice none 0 0, .slice none 0 0, .slice none 0 0] (w3.setCell ⟨w2.heap.size, 7, none⟩ (.int .i64 own)) := box_eq (hy3.put 7 _) (by simp)
        have hz4 : Box (w.heap.size + 1) 43 #[.int .i64 0, .slice none 0 0, .bool false, .int .u64 0, .int .u64 0, .int .i64 0, .int .i64 0, .int .i64 (0), .slice none 0 0, .slice none 0 0, .slice none 0 0] (w3.setCell ⟨w2.heap.size, 7, none⟩ (.int .i64 own)) := hz3.aside (by simp; omega) _
        have b4 : Below w.heap.size w (w3.setCell ⟨w2.heap.size, 7, none⟩ (.int .i64 own)) := b3.setCell (by simp; exact b2.size) _
        go_wp2_with (first | ((with_reducible refine load_box (t := 43) Try.underlying43 ?_ ?_ ?_ hy4 ?_); (· rfl); (· kernel_rfl); (· rfl)) | ((with_reducible refine store_box (t := 43) (us := ?_) ?_ ?_ ?_ hz4 ?_ ?_ ?_); rotate_left 3; (· exact rfl); (· rfl); (· simp [Value.oneCell']); rotate_left 1; (· kernel_rfl); (· rfl); intro w5 hz5 ho5))
        exact ret_box2 (v := .int .i64 0) Try.results22 Try.underlying43 rfl (by kernel_rfl) rfl rfl hz5 rfl ⟨rfl, (ho5.stays (X := fun _ => False) (Stays.of_below b4) (by omega)).below⟩
      | false =>
        rw [hd] at H3
        rw [show sendX mine own (-1) = -1 by simp [sendX, hd, h4]]
        clear hd
        go_enter Try.func22, Try.ntmps22
        go_wp2_with fail
        refine (H1.out _).mono ?_
        rintro e w1 ⟨rfl, rfl⟩
        go_wp2_with fail
        refine (H2.out _).mono ?_
        rintro e w1 ⟨rfl, rfl⟩
        go_wp2_with ((with_reducible refine load_box (t := 43) Try.underlying43 ?_ ?_ ?_ hb ?_); (· rfl); (· kernel_rfl); (· rfl))
        refine (H4.out _).mono ?_
        rintro e w2 ⟨rfl, hb2⟩
        have b2 := hbl.trans (hb2.mono hbl.size)
        have hz2 := hz.under hb2 hz.inside
        have hbb := hb.under hb2 hb.inside
        have hbbi := hbb.inside
        have hz2i := hz2.inside
        have hy := Box.made w2 43 #[.int .i64 0, .slice none 0 0, .bool false, .int .u64 0, .int .u64 0, .int .i64 0, .int .i64 0, .int .i64 (0), .slice none 0 0, .slice none 0 0, .slice none 0 0]
        go_upto_region 6 with ((with_reducible refine store_box (t := 43) (us := ?_) ?_ ?_ ?_ hy ?_ ?_ ?_); rotate_left 3; (· exact rfl); (· rfl); (· simp [Value.oneCell']); rotate_left 1; (· kernel_rfl); (· rfl); intro w3 hy3 ho3)
        have b3 : Below w.heap.size w w3 := (ho3.stays (X := fun _ => False) (Stays.of_below (b2.alloc b2.size _)) b2.size).below
        have hb3 : Box w.heap.size 43 #[.int .i64 0, .slice none 0 0, .bool false, .int .u64 0, .int .u64 0, .int .i64 0, .int .i64 0, .int .i64 ((-1)), .slice none 0 0, .slice none 0 0, .slice none 0 0] w3 := by
          show w3.heap[w.heap.size]? = _
          rw [ho3.block _ (by omega)]; exact hbb.past _
        have hz3 : Box (w.heap.size + 1) 43 #[.int .i64 0, .slice none 0 0, .bool false, .int .u64 0, .int .u64 0, .int .i64 0, .int .i64 0, .int .i64 (0), .slice none 0 0, .slice none 0 0, .slice none 0 0] w3 := by
          show w3.heap[w.heap.size + 1]? = _
          rw [ho3.block _ (by omega)]; exact hz2.past _
        have hb3_7 := hb3.at_ 7
        clear hb_7 hb hz hbl hb2 hz2 hbb hy ho3
        go_wp2_with fail
        refine (H3.out _).mono ?_
        rintro e w4 ⟨rfl, rfl⟩
        go_wp2_with (first | ((with_reducible refine load_box (t := 43) Try.underlying43 ?_ ?_ ?_ hy3 ?_); (· rfl); (· kernel_rfl); (· rfl)) | ((with_reducible refine store_box (t := 43) (us := ?_) ?_ ?_ ?_ hz3 ?_ ?_ ?_); rotate_left 3; (· exact rfl); (· rfl); (· simp [Value.oneCell']); rotate_left 1; (· kernel_rfl); (· rfl); intro w5 hz5 ho5))
        exact ret_box2 (v := .int .i64 0) Try.results22 Try.underlying43 rfl (by kernel_rfl) rfl rfl hz5 rfl ⟨rfl, (ho5.stays (X := fun _ => False) (Stays.of_below b3) (by omega)).below⟩
  · have hd : downR mine = true := by rcases h3 with h | h; exact absurd h hx; exact h
    have x0 : (x == -1) = false := by simpa using hx
    have x1 : (x != -1) = true := by simpa using hx
    rw [hd] at H3
    rw [show sendX mine own x = x by simp [sendX, hx]]
    clear hd h3
    go_enter Try.func22, Try.ntmps22
    go_wp2_with fail
    refine (H1.out _).mono ?_
    rintro e w1 ⟨rfl, rfl⟩
    go_wp2_with fail
    refine (H2.out _).mono ?_
    rintro e w1 ⟨rfl, rfl⟩
    go_wp2_with fail
    refine (H3.out _).mono ?_
    rintro e w1 ⟨rfl, rfl⟩
    go_wp2_with ((with_reducible refine load_box (t := 43) Try.underlying43 ?_ ?_ ?_ hb ?_); (· rfl); (· kernel_rfl); (· rfl))
    refine (H4.out _).mono ?_
    rintro e w2 ⟨rfl, hb2⟩
    have b2 := hbl.trans (hb2.mono hbl.size)
    have hz2 := hz.under hb2 hz.inside
    have hbb := hb.under hb2 hb.inside
    have hbbi := hbb.inside
    have hz2i := hz2.inside
    have hy := Box.made w2 43 #[.int .i64 0, .slice none 0 0, .bool false, .int .u64 0, .int .u64 0, .int .i64 0, .int .i64 0, .int .i64 (0), .slice none 0 0, .slice none 0 0, .slice none 0 0]
    go_upto_region 6 with ((with_reducible refine store_box (t := 43) (us := ?_) ?_ ?_ ?_ hy ?_ ?_ ?_); rotate_left 3; (· exact rfl); (· rfl); (· simp [Value.oneCell']); rotate_left 1; (· kernel_rfl); (· rfl); intro w3 hy3 ho3)
    have b3 : Below w.heap.size w w3 := (ho3.stays (X := fun _ => False) (Stays.of_below (b2.alloc b2.size _)) b2.size).below
    have hb3 : Box w.heap.size 43 #[.int .i64 0, .slice none 0 0, .bool false, .int .u64 0, .int .u64 0, .int .i64 0, .int .i64 0, .int .i64 (x), .slice none 0 0, .slice none 0 0, .slice none 0 0] w3 := by
      show w3.heap[w.heap.size]? = _
      rw [ho3.block _ (by omega)]; exact hbb.past _
    have hz3 : Box (w.heap.size + 1) 43 #[.int .i64 0, .slice none 0 0, .bool false, .int .u64 0, .int .u64 0, .int .i64 0, .int .i64 0, .int .i64 (0), .slice none 0 0, .slice none 0 0, .slice none 0 0] w3 := by
      show w3.heap[w.heap.size + 1]? = _
      rw [ho3.block _ (by omega)]; exact hz2.past _
    have hb3_7 := hb3.at_ 7
    clear hb_7 hb hz hbl hb2 hz2 hbb hy ho3
    go_wp2_with (first | ((with_reducible refine load_box (t := 43) Try.underlying43 ?_ ?_ ?_ hy3 ?_); (· rfl); (· kernel_rfl); (· rfl)) | ((with_reducible refine store_box (t := 43) (us := ?_) ?_ ?_ ?_ hz3 ?_ ?_ ?_); rotate_left 3; (· exact rfl); (· rfl); (· simp [Value.oneCell']); rotate_left 1; (· kernel_rfl); (· rfl); intro w5 hz5 ho5))
    exact ret_box2 (v := .int .i64 0) Try.results22 Try.underlying43 rfl (by kernel_rfl) rfl rfl hz5 rfl ⟨rfl, (ho5.stays (X := fun _ => False) (Stays.of_below b3) (by omega)).below⟩
end Go.Proofs.Ytagkpocagkfhoaa

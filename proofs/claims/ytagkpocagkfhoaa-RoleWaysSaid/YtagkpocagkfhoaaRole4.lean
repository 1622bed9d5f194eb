/-
  Roles: receiving a route whose attributes are all empty but for the mark.
-/
import Derived.Test.YtagkpocagkfhoaaRole2
import Derived.Deep.DeepCutAuto
namespace Go.Proofs.Ytagkpocagkfhoaa
open Go.RowKit
def recvX (mine fro x : Int) : Int := if x = -1 ∧ downR mine = false then fro else x
theorem box_eqv {Z : Nat} {t : TypeId} {cs us : Array Value} {w : World} (h : Box Z t cs w) (he : cs = us) : Box Z t us w := he ▸ h
set_option maxHeartbeats 2000000 in
theorem recv_good (mine fro x : Int) (w : World) (h1 : isR mine = true) (h2 : asnR fro = true) (h3 : x = -1 ∨ (downR mine = false ∧ (mine = 4 → x = fro))) :
    Calls Try.prog 20 #[.int .i64 mine, .int .i64 fro, .agg #[.int .i64 0, .slice none 0 0, .bool false, .int .u64 0, .int .u64 0, .int .i64 0, .int .i64 0, .int .i64 (x), .slice none 0 0, .slice none 0 0, .slice none 0 0]] w fun e w' => e = .returned (.tuple #[.agg #[.int .i64 0, .slice none 0 0, .bool false, .int .u64 0, .int .u64 0, .int .i64 0, .int .i64 0, .int .i64 (recvX mine fro x), .slice none 0 0, .slice none 0 0, .slice none 0 0], .int .i64 0]) ∧ Below w.heap.size w w' := by
  have H1 := Lib.hid (fun w => isRole_any mine w)
  have H2 := Lib.hid (fun w => asn_any fro w)
  have H3 := Lib.hid (fun w => down_any mine w)
  have H4 := Lib.hid (fun w => copies_mark x w)
  rw [h1] at H1; rw [h2] at H2
  clear h1 h2
  have hb := (Box.made w 43 #[.int .i64 0, .slice none 0 0, .bool false, .int .u64 0, .int .u64 0, .int .i64 0, .int .i64 0, .int .i64 (x), .slice none 0 0, .slice none 0 0, .slice none 0 0]).past (.cells #[.int .i64 0, .slice none 0 0, .bool false, .int .u64 0, .int .u64 0, .int .i64 0, .int .i64 0, .int .i64 (0), .slice none 0 0, .slice none 0 0, .slice none 0 0] 43)
  have hz : Box (w.heap.size + 1) 43 #[.int .i64 0, .slice none 0 0, .bool false, .int .u64 0, .int .u64 0, .int .i64 0, .int .i64 0, .int .i64 (0), .slice none 0 0, .slice none 0 0, .slice none 0 0] ((w.alloc (.cells #[.int .i64 0, .slice none 0 0, .bool false, .int .u64 0, .int .u64 0, .int .i64 0, .int .i64 0, .int .i64 (x), .slice none 0 0, .slice none 0 0, .slice none 0 0] 43)).alloc (.cells #[.int .i64 0, .slice none 0 0, .bool false, .int .u64 0, .int .u64 0, .int .i64 0, .int .i64 0, .int .i64 (0), .slice none 0 0, .slice none 0 0, .slice none 0 0] 43)) := Box.madeAt (by simp)
  have hbl : Below w.heap.size w ((w.alloc (.cells #[.int .i64 0, .slice none 0 0, .bool false, .int .u64 0, .int .u64 0, .int .i64 0, .int .i64 0, .int .i64 (x), .slice none 0 0, .slice none 0 0, .slice none 0 0] 43)).alloc (.cells #[.int .i64 0, .slice none 0 0, .bool false, .int .u64 0, .int .u64 0, .int .i64 0, .int .i64 0, .int .i64 (0), .slice none 0 0, .slice none 0 0, .slice none 0 0] 43)) := ((Below.refl _ _).alloc (Nat.le_refl _) _).alloc (by simp) _
  have hbi := hb.inside
  have hzi := hz.inside
  have hb_7 := hb.at_ 7
  by_cases hx : x = -1
  · subst hx
    clear h3
    cases hd : downR mine with
    | true =>
      rw [hd] at H3
      rw [show recvX mine fro (-1) = -1 by simp [recvX, hd]]
      clear hd
      go_enter Try.func20, Try.ntmps20
      go_wp2_with fail
      refine (H1.out _).mono ?_
      rintro e w1 ⟨rfl, rfl⟩
      go_wp2_with fail
      refine (H2.out _).mono ?_
      rintro e w1 ⟨rfl, rfl⟩
      go_wp2_with ((with_reducible refine load_box (t := 43) Try.underlying43 ?_ ?_ ?_ hb ?_); (· rfl); (· kernel_rfl); (· rfl))
      refine (H4.out _).mono ?_
      rintro e w2 ⟨rfl, hb2⟩
      have b2 := hbl.trans (hb2.mono hbl.size)
      have hz2 := hz.under hb2 hz.inside
      have hbb := hb.under hb2 hb.inside
      have hbbi := hbb.inside
      have hz2i := hz2.inside
      have hy := Box.made w2 43 #[.int .i64 0, .slice none 0 0, .bool false, .int .u64 0, .int .u64 0, .int .i64 0, .int .i64 0, .int .i64 (0), .slice none 0 0, .slice none 0 0, .slice none 0 0]
      go_upto_region 6 with ((with_reducible refine store_box (t := 43) (us := ?_) ?_ ?_ ?_ hy ?_ ?_ ?_); rotate_left 3; (· exact rfl); (· rfl); (· simp [Value.oneCell']); rotate_left 1; (· kernel_rfl); (· rfl); intro w3 hy3 ho3)
      have b3 : Below w.heap.size w w3 := (ho3.stays (X := fun _ => False) (Stays.of_below (b2.alloc b2.size _)) b2.size).below
      have hb3 : Box w.heap.size 43 #[.int .i64 0, .slice none 0 0, .bool false, .int .u64 0, .int .u64 0, .int .i64 0, .int .i64 0, .int .i64 ((-1)), .slice none 0 0, .slice none 0 0, .slice none 0 0] w3 := by
        show w3.heap[w.heap.size]? = _
        rw [ho3.block _ (by omega)]; exact hbb.past _
      have hz3 : Box (w.heap.size + 1) 43 #[.int .i64 0, .slice none 0 0, .bool false, .int .u64 0, .int .u64 0, .int .i64 0, .int .i64 0, .int .i64 (0), .slice none 0 0, .slice none 0 0, .slice none 0 0] w3 := by
        show w3.heap[w.heap.size + 1]? = _
        rw [ho3.block _ (by omega)]; exact hz2.past _
      have hb3_7 := hb3.at_ 7
      clear hb_7 hb hz hbl hb2 hz2 hbb hy ho3
      go_wp2_with fail
      refine (H3.out _).mono ?_
      rintro e w4 ⟨rfl, rfl⟩
      go_wp2_with (first | ((with_reducible refine load_box (t := 43) Try.underlying43 ?_ ?_ ?_ hy3 ?_); (· rfl); (· kernel_rfl); (· rfl)) | ((with_reducible refine store_box (t := 43) (us := ?_) ?_ ?_ ?_ hz3 ?_ ?_ ?_); rotate_left 3; (· exact rfl); (· rfl); (· simp [Value.oneCell']); rotate_left 1; (· kernel_rfl); (· rfl); intro w5 hz5 ho5))
      exact ret_box2 (v := .int .i64 0) Try.results20 Try.underlying43 rfl (by kernel_rfl) rfl rfl hz5 rfl ⟨rfl, (ho5.stays (X := fun _ => False) (Stays.of_below b3) (by omega)).below⟩
    | false =>
      rw [hd] at H3
      rw [show recvX mine fro (-1) = fro by simp [recvX, hd]]
      clear hd
      go_enter Try.func20, Try.ntmps20
      go_wp2_with fail
      refine (H1.out _).mono ?_
      rintro e w1 ⟨rfl, rfl⟩
      go_wp2_with fail
      refine (H2.out _).mono ?_
      rintro e w1 ⟨rfl, rfl⟩
      go_wp2_with ((with_reducible refine load_box (t := 43) Try.underlying43 ?_ ?_ ?_ hb ?_); (· rfl); (· kernel_rfl); (· rfl))
      refine (H4.out _).mono ?_
      rintro e w2 ⟨rfl, hb2⟩
      have b2 := hbl.trans (hb2.mono hbl.size)
      have hz2 := hz.under hb2 hz.inside
      have hbb := hb.under hb2 hb.inside
      have hbbi := hbb.inside
      have hz2i := hz2.inside
      have hy := Box.made w2 43 #[.int .i64 0, .slice none 0 0, .bool false, .int .u64 0, .int .u64 0, .int .i64 0, .int .i64 0, .int .i64 (0), .slice none 0 0, .slice none 0 0, .slice none 0 0]
      go_upto_region 6 with ((with_reducible refine store_box (t := 43) (us := ?_) ?_ ?_ ?_ hy ?_ ?_ ?_); rotate_left 3; (· exact rfl); (· rfl); (· simp [Value.oneCell']); rotate_left 1; (· kernel_rfl); (· rfl); intro w3 hy3 ho3)
      have b3 : Below w.heap.size w w3 := (ho3.stays (X := fun _ => False) (Stays.of_below (b2.alloc b2.size _)) b2.size).below
      have hb3 : Box w.heap.size 43 #[.int .i64 0, .slice none 0 0, .bool false, .int .u64 0, .int .u64 0, .int .i64 0, .int .i64 0, .int .i64 ((-1)), .slice none 0 0, .slice none 0 0, .slice none 0 0] w3 := by
        show w3.heap[w.heap.size]? = _
        rw [ho3.block _ (by omega)]; exact hbb.past _
      have hz3 : Box (w.heap.size + 1) 43 #[.int .i64 0, .slice none 0 0, .bool false, .int .u64 0, .int .u64 0, .int .i64 0, .int .i64 0, .int .i64 (0), .slice none 0 0, .slice none 0 0, .slice none 0 0] w3 := by
        show w3.heap[w.heap.size + 1]? = _
        rw [ho3.block _ (by omega)]; exact hz2.past _
      have hb3_7 := hb3.at_ 7
      clear hb_7 hb hz hbl hb2 hz2 hbb hy ho3
      go_wp2_with fail
      refine (H3.out _).mono ?_
      rintro e w4 ⟨rfl, rfl⟩
      have hy3_7 := hy3.at_ 7
      have hy3o7 := hy3.open_ 7
      have hy4 : Box w2.heap.size 43 #[.int .i64 0, .slice none 0 0, .bool false, .int .u64 0, .int .u64 0, .int .i64 0, .int .i64 0, .int .i64 (fro), .slice none 0 0, .slice none 0 0, .slice none 0 0] (w3.setCell ⟨w2.heap.size, 7, none⟩ (.int .i64 fro)) := box_eqv (hy3.put 7 _) (by simp)
      have hz4 : Box (w.heap.size + 1) 43 #[.int .i64 0, .slice none 0 0, .bool false, .int .u64 0, .int .u64 0, .int .i64 0, .int .i64 0, .int .i64 (0), .slice none 0 0, .slice none 0 0, .slice none 0 0] (w3.setCell ⟨w2.heap.size, 7, none⟩ (.int .i64 fro)) := hz3.aside (by simp; omega) _
      have b4 : Below w.heap.size w (w3.setCell ⟨w2.heap.size, 7, none⟩ (.int .i64 fro)) := b3.setCell (by simp; exact b2.size) _
      go_wp2_with (first | ((with_reducible refine load_box (t := 43) Try.underlying43 ?_ ?_ ?_ hy4 ?_); (· rfl); (· kernel_rfl); (· rfl)) | ((with_reducible refine store_box (t := 43) (us := ?_) ?_ ?_ ?_ hz4 ?_ ?_ ?_); rotate_left 3; (· exact rfl); (· rfl); (· simp [Value.oneCell']); rotate_left 1; (· kernel_rfl); (· rfl); intro w5 hz5 ho5))
      exact ret_box2 (v := .int .i64 0) Try.results20 Try.underlying43 rfl (by kernel_rfl) rfl rfl hz5 rfl ⟨rfl, (ho5.stays (X := fun _ => False) (Stays.of_below b4) (by omega)).below⟩
  · obtain ⟨hd, h4⟩ : downR mine = false ∧ (mine = 4 → x = fro) := by rcases h3 with h | h; exact absurd h hx; exact h
    have x0 : (x == -1) = false := by simpa using hx
    have x1 : (x != -1) = true := by simpa using hx
    rw [hd] at H3
    rw [show recvX mine fro x = x by simp [recvX, hx]]
    clear hd h3
    by_cases m4 : mine = 4
    · have hxf := h4 m4
      subst m4
      subst hxf
      clear h4
      go_enter Try.func20, Try.ntmps20
      go_wp2_with fail
      refine (H1.out _).mono ?_
      rintro e w1 ⟨rfl, rfl⟩
      go_wp2_with fail
      refine (H2.out _).mono ?_
      rintro e w1 ⟨rfl, rfl⟩
      go_wp2_with fail
      refine (H3.out _).mono ?_
      rintro e w1 ⟨rfl, rfl⟩
      go_wp2_with ((with_reducible refine load_box (t := 43) Try.underlying43 ?_ ?_ ?_ hb ?_); (· rfl); (· kernel_rfl); (· rfl))
      refine (H4.out _).mono ?_
      rintro e w2 ⟨rfl, hb2⟩
      have b2 := hbl.trans (hb2.mono hbl.size)
      have hz2 := hz.under hb2 hz.inside
      have hbb := hb.under hb2 hb.inside
      have hbbi := hbb.inside
      have hz2i := hz2.inside
      have hy := Box.made w2 43 #[.int .i64 0, .slice none 0 0, .bool false, .int .u64 0, .int .u64 0, .int .i64 0, .int .i64 0, .int .i64 (0), .slice none 0 0, .slice none 0 0, .slice none 0 0]
      go_upto_region 6 with ((with_reducible refine store_box (t := 43) (us := ?_) ?_ ?_ ?_ hy ?_ ?_ ?_); rotate_left 3; (· exact rfl); (· rfl); (· simp [Value.oneCell']); rotate_left 1; (· kernel_rfl); (· rfl); intro w3 hy3 ho3)
      have b3 : Below w.heap.size w w3 := (ho3.stays (X := fun _ => False) (Stays.of_below (b2.alloc b2.size _)) b2.size).below
      have hb3 : Box w.heap.size 43 #[.int .i64 0, .slice none 0 0, .bool false, .int .u64 0, .int .u64 0, .int .i64 0, .int .i64 0, .int .i64 (x), .slice none 0 0, .slice none 0 0, .slice none 0 0] w3 := by
        show w3.heap[w.heap.size]? = _
        rw [ho3.block _ (by omega)]; exact hbb.past _
      have hz3 : Box (w.heap.size + 1) 43 #[.int .i64 0, .slice none 0 0, .bool false, .int .u64 0, .int .u64 0, .int .i64 0, .int .i64 0, .int .i64 (0), .slice none 0 0, .slice none 0 0, .slice none 0 0] w3 := by
        show w3.heap[w.heap.size + 1]? = _
        rw [ho3.block _ (by omega)]; exact hz2.past _
      have hb3_7 := hb3.at_ 7
      clear hb_7 hb hz hbl hb2 hz2 hbb hy ho3
      go_wp2_with (first | ((with_reducible refine load_box (t := 43) Try.underlying43 ?_ ?_ ?_ hy3 ?_); (· rfl); (· kernel_rfl); (· rfl)) | ((with_reducible refine store_box (t := 43) (us := ?_) ?_ ?_ ?_ hz3 ?_ ?_ ?_); rotate_left 3; (· exact rfl); (· rfl); (· simp [Value.oneCell']); rotate_left 1; (· kernel_rfl); (· rfl); intro w5 hz5 ho5))
      exact ret_box2 (v := .int .i64 0) Try.results20 Try.underlying43 rfl (by kernel_rfl) rfl rfl hz5 rfl ⟨rfl, (ho5.stays (X := fun _ => False) (Stays.of_below b3) (by omega)).below⟩
    · have m0 : (mine == 4) = false := by simpa using m4
      clear h4
      go_enter Try.func20, Try.ntmps20
      go_wp2_with fail
      refine (H1.out _).mono ?_
      rintro e w1 ⟨rfl, rfl⟩
      go_wp2_with fail
      refine (H2.out _).mono ?_
      rintro e w1 ⟨rfl, rfl⟩
      go_wp2_with fail
      refine (H3.out _).mono ?_
      rintro e w1 ⟨rfl, rfl⟩
      go_wp2_with ((with_reducible refine load_box (t := 43) Try.underlying43 ?_ ?_ ?_ hb ?_); (· rfl); (· kernel_rfl); (· rfl))
      refine (H4.out _).mono ?_
      rintro e w2 ⟨rfl, hb2⟩
      have b2 := hbl.trans (hb2.mono hbl.size)
      have hz2 := hz.under hb2 hz.inside
      have hbb := hb.under hb2 hb.inside
      have hbbi := hbb.inside
      have hz2i := hz2.inside
      have hy := Box.made w2 43 #[.int .i64 0, .slice none 0 0, .bool false, .int .u64 0, .int .u64 0, .int .i64 0, .int .i64 0, .int .i64 (0), .slice none 0 0, .slice none 0 0, .slice none 0 0]
      go_upto_region 6 with ((with_reducible refine store_box (t := 43) (us := ?_) ?_ ?_ ?_ hy ?_ ?_ ?_); rotate_left 3; (· exact rfl); (· rfl); (· simp [Value.oneCell']); rotate_left 1; (· kernel_rfl); (· rfl); intro w3 hy3 ho3)
      have b3 : Below w.heap.size w w3 := (ho3.stays (X := fun _ => False) (Stays.of_below (b2.alloc b2.size _)) b2.size).below
      have hb3 : Box w.heap.size 43 #[.int .i64 0, .slice none 0 0, .bool false, .int .u64 0, .int .u64 0, .int .i64 0, .int .i64 0, .int .i64 (x), .slice none 0 0, .slice none 0 0, .slice none 0 0] w3 := by
        show w3.heap[w.heap.size]? = _
        rw [ho3.block _ (by omega)]; exact hbb.past _
      have hz3 : Box (w.heap.size + 1) 43 #[.int .i64 0, .slice none 0 0, .bool false, .int .u64 0, .int .u64 0, .int .i64 0, .int .i64 0, .int .i64 (0), .slice none 0 0, .slice none 0 0, .slice none 0 0] w3 := by
        show w3.heap[w.heap.size + 1]? = _
        rw [ho3.block _ (by omega)]; exact hz2.past _
      have hb3_7 := hb3.at_ 7
      clear hb_7 hb hz hbl hb2 hz2 hbb hy ho3
      go_wp2_with (first | ((with_reducible refine load_box (t := 43) Try.underlying43 ?_ ?_ ?_ hy3 ?_); (· rfl); (· kernel_rfl); (· rfl)) | ((with_reducible refine store_box (t := 43) (us := ?_) ?_ ?_ ?_ hz3 ?_ ?_ ?_); rotate_left 3; (· exact rfl); (· rfl); (· simp [Value.oneCell']); rotate_left 1; (· kernel_rfl); (· rfl); intro w5 hz5 ho5))
      exact ret_box2 (v := .int .i64 0) Try.results20 Try.underlying43 rfl (by kernel_rfl) rfl rfl hz5 rfl ⟨rfl, (ho5.stays (X := fun _ => False) (Stays.of_below b3) (by omega)).below⟩
end Go.Proofs.Ytagkpocagkfhoaa

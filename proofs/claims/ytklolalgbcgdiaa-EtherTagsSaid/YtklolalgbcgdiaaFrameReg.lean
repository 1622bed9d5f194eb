/-
  Layer 4 (ether): regions that write a whole frame, each by one step.
-/
import Derived.Test.YtklolalgbcgdiaaEncode4
import Derived.Test.YtklolalgbcgdiaaFrame
namespace Go.Proofs.Ytklolalgbcgdiaa
open Go.RowKit

section
variable {P : Program} {o : Oper} {a : Act} {W W' : World} {v : Value} {K : Act → World → Prop} {Q : Exit → Act → World → Prop}
theorem wp_value (h : (execOp a.eval o).run P W = .ok (.value v) W') (hk : K (a.put o.dst v) W') : o.wp P a W K Q := by
  unfold Oper.wp; rw [h]; exact hk
theorem wp_skipped (h : (execOp a.eval o).run P W = .ok .skip W') (hk : K (a.put o.dst undef) W') : o.wp P a W K Q := by
  unfold Oper.wp; rw [h]; exact hk
theorem eval_tmp {t : Tmp} (h : a.tmps[t]? = some v) : a.eval (.tmp t) = v := by
  simp [Act.eval, Array.getD_eq_getD_getElem?, h]
theorem eval_put_same {d : Tmp} (h : d < a.tmps.size) : (a.put (some d) v).eval (.tmp d) = v := by
  simp [Act.put, Act.eval, h]
theorem eval_put_other {d t : Tmp} (h : d ≠ t) : (a.put (some d) v).eval (.tmp t) = a.eval (.tmp t) := by
  simp [Act.put, Act.eval, Array.getD_eq_getD_getElem?, Array.getElem?_setIfInBounds_ne h]
theorem eval_put_none {t : Tmp} : (a.put none v).eval (.tmp t) = a.eval (.tmp t) := rfl
end

theorem run_store_frame {ρ : Operand → Value} {o : Oper} {p x : Operand} {W : World} {Z : Nat} {c0 c1 c2 c3 c4 c5 c6 c7 c8 c9 c10 c11 c12 c13 c14 : Value} {u0 u1 u2 u3 u4 u5 u6 u7 u8 u9 u10 u11 vl y : Int} {A : Option Addr} {n c : Nat}
    (ho : o.op = .store 42 p x) (hp : ρ p = .pointer (some ⟨Z, 0, none⟩)) (hx : ρ x = .agg #[.int .u8 u0, .int .u8 u1, .int .u8 u2, .int .u8 u3, .int .u8 u4, .int .u8 u5, .int .u8 u6, .int .u8 u7, .int .u8 u8, .int .u8 u9, .int .u8 u10, .int .u8 u11, .int .i64 vl, .int .i64 y, .slice A n c])
    (hb : Box Z 42 #[c0, c1, c2, c3, c4, c5, c6, c7, c8, c9, c10, c11, c12, c13, c14] W) :
    ∃ W', (execOp ρ o).run Try.prog W = .ok .skip W' ∧ Box Z 42 #[.int .u8 u0, .int .u8 u1, .int .u8 u2, .int .u8 u3, .int .u8 u4, .int .u8 u5, .int .u8 u6, .int .u8 u7, .int .u8 u8, .int .u8 u9, .int .u8 u10, .int .u8 u11, .int .i64 vl, .int .i64 y, .slice A n c] W' ∧ OnlyBlock Z W W' := by
  have hb_0 := hb.at_ 0; have hb_1 := hb.at_ 1; have hb_2 := hb.at_ 2; have hb_3 := hb.at_ 3; have hb_4 := hb.at_ 4; have hb_5 := hb.at_ 5; have hb_6 := hb.at_ 6; have hb_7 := hb.at_ 7; have hb_8 := hb.at_ 8; have hb_9 := hb.at_ 9; have hb_10 := hb.at_ 10; have hb_11 := hb.at_ 11; have hb_12 := hb.at_ 12; have hb_13 := hb.at_ 13; have hb_14 := hb.at_ 14
  have hbo0 := hb.open_ 0; have hbo1 := hb.open_ 1; have hbo2 := hb.open_ 2; have hbo3 := hb.open_ 3; have hbo4 := hb.open_ 4; have hbo5 := hb.open_ 5; have hbo6 := hb.open_ 6; have hbo7 := hb.open_ 7; have hbo8 := hb.open_ 8; have hbo9 := hb.open_ 9; have hbo10 := hb.open_ 10; have hbo11 := hb.open_ 11; have hbo12 := hb.open_ 12; have hbo13 := hb.open_ 13; have hbo14 := hb.open_ 14
  obtain ⟨d, op, ty, ps, af, gu⟩ := o
  cases ho
  refine ⟨fillCells Z 0 [.int .u8 u0, .int .u8 u1, .int .u8 u2, .int .u8 u3, .int .u8 u4, .int .u8 u5, .int .u8 u6, .int .u8 u7, .int .u8 u8, .int .u8 u9, .int .u8 u10, .int .u8 u11, .int .i64 vl, .int .i64 y, .slice A n c] W, ?_, box_fill hb rfl, (((((((((((((((OnlyBlock.refl _ _).setCell (by rfl) _).setCell (by rfl) _).setCell (by rfl) _).setCell (by rfl) _).setCell (by rfl) _).setCell (by rfl) _).setCell (by rfl) _).setCell (by rfl) _).setCell (by rfl) _).setCell (by rfl) _).setCell (by rfl) _).setCell (by rfl) _).setCell (by rfl) _).setCell (by rfl) _).setCell (by rfl) _⟩
  go_simp
  try rfl

theorem run_build_frame {ρ : Operand → Value} {o : Oper} {W : World} (ho : o.op = .build 42 #[]) : (execOp ρ o).run Try.prog W = .ok (.value (.agg #[.int .u8 0, .int .u8 0, .int .u8 0, .int .u8 0, .int .u8 0, .int .u8 0, .int .u8 0, .int .u8 0, .int .u8 0, .int .u8 0, .int .u8 0, .int .u8 0, .int .i64 0, .int .i64 0, .slice none 0 0])) W := by
  obtain ⟨d, op, ty, ps, af, gu⟩ := o
  cases ho
  go_simp

theorem run_load_frame {ρ : Operand → Value} {o : Oper} {p : Operand} {W : World} {Z : Nat} {c0 c1 c2 c3 c4 c5 c6 c7 c8 c9 c10 c11 c12 c13 c14 : Value}
    (ho : o.op = .load 42 p) (hp : ρ p = .pointer (some ⟨Z, 0, none⟩)) (hb : Box Z 42 #[c0, c1, c2, c3, c4, c5, c6, c7, c8, c9, c10, c11, c12, c13, c14] W) :
    (execOp ρ o).run Try.prog W = .ok (.value (.agg #[c0, c1, c2, c3, c4, c5, c6, c7, c8, c9, c10, c11, c12, c13, c14])) W := by
  have hb_0 := hb.at_ 0; have hb_1 := hb.at_ 1; have hb_2 := hb.at_ 2; have hb_3 := hb.at_ 3; have hb_4 := hb.at_ 4; have hb_5 := hb.at_ 5; have hb_6 := hb.at_ 6; have hb_7 := hb.at_ 7; have hb_8 := hb.at_ 8; have hb_9 := hb.at_ 9; have hb_10 := hb.at_ 10; have hb_11 := hb.at_ 11; have hb_12 := hb.at_ 12; have hb_13 := hb.at_ 13; have hb_14 := hb.at_ 14
  obtain ⟨d, op, ty, ps, af, gu⟩ := o
  cases ho
  go_simp

/-- A whole frame is set to nothing, and a number is given. -/
theorem zero_region {id d0 : Nat} {t0 t1 t2 : TypeId} {s0 s1 s2 : String} {f0 f1 f2 : Array Edge} {k : Value} {a : Act} {W : World} {Q : Exit → Act → World → Prop} {Z : Nat} {c0 c1 c2 c3 c4 c5 c6 c7 c8 c9 c10 c11 c12 c13 c14 : Value}
    (hb : Box Z 42 #[c0, c1, c2, c3, c4, c5, c6, c7, c8, c9, c10, c11, c12, c13, c14] W) (h2 : a.tmps[2]? = some (.pointer (some ⟨Z, 0, none⟩))) (hd : d0 ≠ 2) (hd0 : d0 < a.tmps.size)
    (h : ∀ W', Box Z 42 #[.int .u8 0, .int .u8 0, .int .u8 0, .int .u8 0, .int .u8 0, .int .u8 0, .int .u8 0, .int .u8 0, .int .u8 0, .int .u8 0, .int .u8 0, .int .u8 0, .int .i64 0, .int .i64 0, .slice none 0 0] W' → OnlyBlock Z W W' → Q .normal (((a.put (some d0) (.agg #[.int .u8 0, .int .u8 0, .int .u8 0, .int .u8 0, .int .u8 0, .int .u8 0, .int .u8 0, .int .u8 0, .int .u8 0, .int .u8 0, .int .u8 0, .int .u8 0, .int .i64 0, .int .i64 0, .slice none 0 0])).put none undef).put (some 3) k) W') :
    Code.wp Try.prog (Code.region id #[⟨some d0, .build 42 #[], t0, s0, f0, none⟩, ⟨none, .store 42 (.tmp 2) (.tmp d0), t1, s1, f1, none⟩, ⟨some 3, .assign (.const k), t2, s2, f2, none⟩] false) Q a W := by
  refine wp_region_lit ?_
  refine wpList_plain rfl fun K hK => ?_
  refine wp_value (run_build_frame rfl) (hK _ _ ?_)
  refine wpList_plain rfl fun K2 hK2 => ?_
  obtain ⟨W', h1, hb', ho'⟩ := run_store_frame (ρ := (a.put (some d0) (.agg #[.int .u8 0, .int .u8 0, .int .u8 0, .int .u8 0, .int .u8 0, .int .u8 0, .int .u8 0, .int .u8 0, .int .u8 0, .int .u8 0, .int .u8 0, .int .u8 0, .int .i64 0, .int .i64 0, .slice none 0 0])).eval) (o := ⟨none, .store 42 (.tmp 2) (.tmp d0), t1, s1, f1, none⟩) rfl ((eval_put_other hd).trans (eval_tmp h2)) (eval_put_same hd0) hb
  refine wp_skipped h1 (hK2 _ _ ?_)
  refine wpList_plain rfl fun K3 hK3 => ?_
  refine wp_value (v := k) (W' := W') ?_ (hK3 _ _ ?_)
  · rfl
  · exact wpList_nil (h W' hb' ho')
/-- A whole frame is copied, and a number is given. -/
theorem copy_region {id d0 : Nat} {t0 t1 t2 : TypeId} {s0 s1 s2 : String} {f0 f1 f2 : Array Edge} {k : Value} {a : Act} {W : World} {Q : Exit → Act → World → Prop} {Z g : Nat} {c0 c1 c2 c3 c4 c5 c6 c7 c8 c9 c10 c11 c12 c13 c14 : Value} {u0 u1 u2 u3 u4 u5 u6 u7 u8 u9 u10 u11 vl y : Int} {A : Option Addr} {n c : Nat}
    (hg : Box g 42 #[.int .u8 u0, .int .u8 u1, .int .u8 u2, .int .u8 u3, .int .u8 u4, .int .u8 u5, .int .u8 u6, .int .u8 u7, .int .u8 u8, .int .u8 u9, .int .u8 u10, .int .u8 u11, .int .i64 vl, .int .i64 y, .slice A n c] W) (hb : Box Z 42 #[c0, c1, c2, c3, c4, c5, c6, c7, c8, c9, c10, c11, c12, c13, c14] W) (h4 : a.tmps[4]? = some (.pointer (some ⟨g, 0, none⟩))) (h2 : a.tmps[2]? = some (.pointer (some ⟨Z, 0, none⟩))) (hd : d0 ≠ 2) (hd0 : d0 < a.tmps.size)
    (h : ∀ W', Box Z 42 #[.int .u8 u0, .int .u8 u1, .int .u8 u2, .int .u8 u3, .int .u8 u4, .int .u8 u5, .int .u8 u6, .int .u8 u7, .int .u8 u8, .int .u8 u9, .int .u8 u10, .int .u8 u11, .int .i64 vl, .int .i64 y, .slice A n c] W' → OnlyBlock Z W W' → Q .normal (((a.put (some d0) (.agg #[.int .u8 u0, .int .u8 u1, .int .u8 u2, .int .u8 u3, .int .u8 u4, .int .u8 u5, .int .u8 u6, .int .u8 u7, .int .u8 u8, .int .u8 u9, .int .u8 u10, .int .u8 u11, .int .i64 vl, .int .i64 y, .slice A n c])).put none undef).put (some 3) k) W') :
    Code.wp Try.prog (Code.region id #[⟨some d0, .load 42 (.tmp 4), t0, s0, f0, none⟩, ⟨none, .store 42 (.tmp 2) (.tmp d0), t1, s1, f1, none⟩, ⟨some 3, .assign (.const k), t2, s2, f2, none⟩] false) Q a W := by
  refine wp_region_lit ?_
  refine wpList_plain rfl fun K hK => ?_
  refine wp_value (run_load_frame rfl (eval_tmp h4) hg) (hK _ _ ?_)
  refine wpList_plain rfl fun K2 hK2 => ?_
  obtain ⟨W', h1, hb', ho'⟩ := run_store_frame (ρ := (a.put (some d0) (.agg #[.int .u8 u0, .int .u8 u1, .int .u8 u2, .int .u8 u3, .int .u8 u4, .int .u8 u5, .int .u8 u6, .int .u8 u7, .int .u8 u8, .int .u8 u9, .int .u8 u10, .int .u8 u11, .int .i64 vl, .int .i64 y, .slice A n c])).eval) (o := ⟨none, .store 42 (.tmp 2) (.tmp d0), t1, s1, f1, none⟩) rfl ((eval_put_other hd).trans (eval_tmp h2)) (eval_put_same hd0) hb
  refine wp_skipped h1 (hK2 _ _ ?_)
  refine wpList_plain rfl fun K3 hK3 => ?_
  refine wp_value (v := k) (W' := W') ?_ (hK3 _ _ ?_)
  · rfl
  · exact wpList_nil (h W' hb' ho')

theorem only_below {Z : Nat} {w W W' : World} (hb : Below w.heap.size w W) (ho : OnlyBlock Z W W') (hZ : w.heap.size ≤ Z) : Below w.heap.size w W' :=
  (ho.stays (X := fun _ => False) (Stays.of_below hb) hZ).below
theorem shift_slice (b x y n c k : Nat) (hk : ¬ c = k) : Value.slice (some ⟨b, x + y + k, none⟩) n c = Value.slice (some ⟨b, x + (y + k), none⟩) n c := by rw [Nat.add_assoc]
end Go.Proofs.Ytklolalgbcgdiaa

/-
  Ways of a condition that is not known, results that say less. No program is named here.
-/
import Derived.Test.YtojapodjlpffdaaAbsB
namespace Go.Proofs.Ytojapodjlpffdaa
open Go.RowKit
section
variable {P : Program} {N : Nat} {ini : Ini} {Q : Exit → St → Prop} {st : St}
theorem awp_if {c : Operand} {x y : Code} {b : Bool} (hc : st.aop c = .val (.bool b)) (h1 : b = true → Awp P N ini x Q st) (h2 : b = false → Awp P N ini y Q st) : Awp P N ini (.cond c x y) Q st := awp_cond b hc h1 h2
theorem awp_isT {c : Operand} {x y : Code} {b : Bool} (hc : st.aop c = .val (.bool b)) (hb : b = true) (h : Awp P N ini x Q st) : Awp P N ini (.cond c x y) Q st := awp_cond b hc (fun _ => h) (fun e => by rw [hb] at e; cases e)
theorem awp_isF {c : Operand} {x y : Code} {b : Bool} (hc : st.aop c = .val (.bool b)) (hb : b = false) (h : Awp P N ini y Q st) : Awp P N ini (.cond c x y) Q st := awp_cond b hc (fun e => by rw [hb] at e; cases e) (fun _ => h)
theorem awp_is {c : Operand} {x y : Code} {b d : Bool} (hc : st.aop c = .val (.bool b)) (hb : b = d) (h : Awp P N ini (bif d then x else y) Q st) : Awp P N ini (.cond c x y) Q st := by
  subst hb
  exact awp_cond b hc (fun e => by rw [e] at h; exact h) (fun e => by rw [e] at h; exact h)
end
/-- A guarded operation whose guard is as it must be. -/
theorem runk_ung {P : Program} {k : Nat} {ops : Array Oper} {N : Nat} {draw : Bool} {K : St → Prop} {o : Oper} {os : List Oper} {env : List (Nat × AVal)} {objs : Writes} {acc : List Tr} {g t : Nat} {b want : Bool} (hg : o.guard = some (g, want)) (ht : dstOf ops g = some t) (hb : (⟨env, objs⟩ : St).get t = .val (.bool b)) (he : b = want)
    (h : RunK P k ops N draw ({ o with guard := none } :: os) ⟨env, objs⟩ acc K) : RunK P k ops N draw (o :: os) ⟨env, objs⟩ acc K := by
  obtain ⟨tr, h1, h2⟩ := h
  refine ⟨tr, ?_, h2⟩
  rcases h1 with ⟨_, h1⟩ | ⟨_, _, _, _, h3, _⟩
  · exact .inr ⟨g, want, t, b, hg, ht, hb, .inl ⟨he, h1⟩⟩
  · cases h3
theorem runk_off {P : Program} {k : Nat} {ops : Array Oper} {N : Nat} {draw : Bool} {K : St → Prop} {o : Oper} {os : List Oper} {env : List (Nat × AVal)} {objs : Writes} {acc : List Tr} {d g t : Nat} {b want : Bool} (hg : o.guard = some (g, want)) (ht : dstOf ops g = some t) (hb : (⟨env, objs⟩ : St).get t = .val (.bool b)) (hne : b = !want) (hd : o.dst = some d)
    (h : RunK P k ops N draw os ⟨(d, .any) :: env, objs⟩ (⟨.any, [], [], []⟩ :: acc) K) : RunK P k ops N draw (o :: os) ⟨env, objs⟩ acc K := runkOff hg ht hb (by subst hne; cases want <;> rfl) hd h
theorem runk_offN {P : Program} {k : Nat} {ops : Array Oper} {N : Nat} {draw : Bool} {K : St → Prop} {o : Oper} {os : List Oper} {env : List (Nat × AVal)} {objs : Writes} {acc : List Tr} {g t : Nat} {b want : Bool} (hg : o.guard = some (g, want)) (ht : dstOf ops g = some t) (hb : (⟨env, objs⟩ : St).get t = .val (.bool b)) (hne : b = !want) (hd : o.dst = none)
    (h : RunK P k ops N draw os ⟨env, objs⟩ (⟨.any, [], [], []⟩ :: acc) K) : RunK P k ops N draw (o :: os) ⟨env, objs⟩ acc K := ⟨⟨.any, [], [], []⟩, .inr ⟨g, want, _, b, hg, ht, hb, .inr ⟨by subst hne; cases want <;> simp, rfl, rfl, rfl⟩⟩, by rw [hd]; exact h⟩
theorem ints_tail (k : IntKind) (xs : List Int) (lo : Nat) : ((ints k xs).drop lo).take ((ints k xs).length - lo) = ints k (xs.drop lo) := by
  rw [ints_mid, length_ints, List.take_of_length_le (by simp)]
theorem ints_tail2 (k : IntKind) (xs : List Int) (lo : Nat) : ((ints k xs).drop lo).take (xs.length - lo) = ints k (xs.drop lo) := by
  rw [ints_mid, List.take_of_length_le (by simp)]
theorem ints_head (k : IntKind) (xs : List Int) (hi : Nat) : ((ints k xs).drop 0).take (hi - 0) = ints k (xs.take hi) := by
  rw [ints_mid]; rfl
theorem ro_tail (es : List AVal) (lo : Nat) : (es.drop lo).take (es.length - lo) = es.drop lo := List.take_of_length_le (by simp)
/-- Values that say less. -/
inductive Weak : AVal → AVal → Prop where
  | same (x : AVal) : Weak x x
  | any (x : AVal) : Weak x .any
  | nil : Weak (.val (.slice none 0 0)) (.ro [])
inductive Weaks : List AVal → List AVal → Prop where
  | nil : Weaks [] []
  | cons {x y : AVal} {xs ys : List AVal} (h : Weak x y) (t : Weaks xs ys) : Weaks (x :: xs) (y :: ys)
inductive WeakA : AVal → AVal → Prop where
  | one {x y : AVal} (h : Weak x y) : WeakA x y
  | agg {xs ys : List AVal} (h : Weaks xs ys) : WeakA (.agg xs) (.agg ys)
inductive WeakAs : List AVal → List AVal → Prop where
  | nil : WeakAs [] []
  | cons {x y : AVal} {xs ys : List AVal} (h : WeakA x y) (t : WeakAs xs ys) : WeakAs (x :: xs) (y :: ys)
inductive WeakT : AVal → AVal → Prop where
  | one {x y : AVal} (h : WeakA x y) : WeakT x y
  | tuple {xs ys : List AVal} (h : WeakAs xs ys) : WeakT (.tuple xs) (.tuple ys)
section
variable {ψ : Ghost} {prot : Nat → Prop} {w : World}
theorem Weak.rel {x y : AVal} {v : Value} (h : Weak x y) (hv : VRel ψ prot w x v) : VRel ψ prot w y v := by
  cases h with
  | same => exact hv
  | any => exact .any _
  | nil => rw [hv.val_eq]; exact .roNil none 0 (fun _ => rfl)
theorem Weaks.rel {xs ys : List AVal} (h : Weaks xs ys) : xs.length = ys.length ∧ ∀ (i : Nat) (y : AVal), ys[i]? = some y → ∃ x, xs[i]? = some x ∧ ∀ v, VRel ψ prot w x v → VRel ψ prot w y v := by
  induction h with
  | nil => exact ⟨rfl, fun i y h => by simp at h⟩
  | cons h _ ih =>
    refine ⟨by simp [ih.1], fun i y hy => ?_⟩
    cases i with
    | zero => simp at hy; subst hy; exact ⟨_, rfl, fun v hv => h.rel hv⟩
    | succ i => exact ih.2 i y (by simpa using hy)
theorem WeakA.rel {x y : AVal} {v : Value} (h : WeakA x y) (hv : VRel ψ prot w x v) : VRel ψ prot w y v := by
  cases h with
  | one h => exact h.rel hv
  | agg h =>
    obtain ⟨us, rfl, h1, h2⟩ := hv.aggs
    obtain ⟨e, hr⟩ := h.rel (ψ := ψ) (prot := prot) (w := w)
    refine VRels.agg ⟨h1.trans e, fun i y v hy hvi => ?_⟩
    obtain ⟨x, hx, hxy⟩ := hr i y hy
    exact hxy v (h2 i x v hx hvi)
theorem WeakAs.rel {xs ys : List AVal} (h : WeakAs xs ys) : xs.length = ys.length ∧ ∀ (i : Nat) (y : AVal), ys[i]? = some y → ∃ x, xs[i]? = some x ∧ ∀ v, VRel ψ prot w x v → VRel ψ prot w y v := by
  induction h with
  | nil => exact ⟨rfl, fun i y h => by simp at h⟩
  | cons h _ ih =>
    refine ⟨by simp [ih.1], fun i y hy => ?_⟩
    cases i with
    | zero => simp at hy; subst hy; exact ⟨_, rfl, fun v hv => h.rel hv⟩
    | succ i => exact ih.2 i y (by simpa using hy)
theorem WeakT.rel {x y : AVal} {v : Value} (h : WeakT x y) (hv : VRel ψ prot w x v) : VRel ψ prot w y v := by
  cases h with
  | one h => exact h.rel hv
  | tuple h =>
    cases hv with
    | tuple _ vs hl hv =>
      obtain ⟨e, hr⟩ := h.rel (ψ := ψ) (prot := prot) (w := w)
      refine .tuple _ vs (hl.trans e) fun i y v hy hvi => ?_
      obtain ⟨x, hx, hxy⟩ := hr i y hy
      exact hxy v (hv i x v hx hvi)
end
theorem Spec.weak {P : Program} {f : FuncId} {args : List AVal} {objs objs' : Writes} {v v' : AVal} (h : Spec P f args objs v objs') (hw : WeakT v v') : Spec P f args objs v' objs' := fun ψ prot w cargs hψ hr hs ha => by
  refine Calls.mono (h ψ prot w cargs hψ hr hs ha) ?_
  rintro e w' ⟨cv, ψ', prot', rfl, g1, g2, g3⟩
  exact ⟨cv, ψ', prot', rfl, g1, g2, hw.rel g3⟩
theorem ends_weak {P : Program} {fn : Func} {st : St} {v0 v : AVal} {objs' : Writes} (hres : ResOk P fn st v0) (hv : WeakT v0 v) (hp : v.pure = true) (hout : (objs'.filter fun x => x.2.isSome) = []) (hn : nodupB (objs'.map (·.1)) = true) {e : Exit} (he : e = .ret ∨ e = .normal) : Ends P fn v objs' e st :=
  ends_pure (v0 := v) (fun ψ prot w tmps h1 h2 => by
    obtain ⟨cv, h3, h4⟩ := hres ψ prot w tmps h1 h2
    exact ⟨cv, h3, hv.rel h4⟩) rfl hp hout hn he
end Go.Proofs.Ytojapodjlpffdaa

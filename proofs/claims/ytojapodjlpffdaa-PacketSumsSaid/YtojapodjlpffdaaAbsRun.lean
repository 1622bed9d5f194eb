/-
  A region's walk, operation by operation, in one line of goals. No program is named here.
-/
import Derived.Test.YtojapodjlpffdaaAbsMem3
namespace Go.Proofs.Ytojapodjlpffdaa
open Go.RowKit
/-- Operation by operation, and then K. -/
def RunK (P : Program) (k : Nat) (ops : Array Oper) (N : Nat) (draw : Bool) : List Oper → St → List Tr → (St → Prop) → Prop
  | [], st, acc, K => regionChk N ops acc.reverse draw = true ∧ K st
  | o :: os, st, acc, K => ∃ tr, Step P k ops st o tr ∧ RunK P k ops N draw os (st.put o.dst tr.v tr.wr) (tr :: acc) K
section
variable {P : Program} {k : Nat} {ops : Array Oper} {N : Nat} {draw : Bool} {K : St → Prop} {st : St} {ini : Ini} {Q : Exit → St → Prop}
theorem RunK.all : ∀ {os : List Oper} {st : St} {acc : List Tr}, RunK P k ops N draw os st acc K → ∃ trs st', RunOps P k ops os st trs st' ∧ regionChk N ops (acc.reverse ++ trs) draw = true ∧ K st'
  | [], st, acc, h => ⟨[], st, .nil st, by simpa using h.1, h.2⟩
  | o :: os, st, acc, ⟨tr, h1, h2⟩ => by
    obtain ⟨trs, st', g1, g2, g3⟩ := RunK.all h2
    exact ⟨tr :: trs, st', .cons h1 g1, by simpa using g2, g3⟩
theorem awp_reg {id : Nat} (hm : P.follows .mixedOrders = true) (h : ∀ k, RunK P k ops N draw ops.toList st [] (Q .normal)) : Awp P N ini (.region id ops draw) Q st :=
  awp_region hm fun k => let ⟨trs, st', h1, h2, h3⟩ := (h k).all; ⟨trs, st', h1, by simpa using h2, h3⟩
theorem awp_reg_seq {id : Nat} {y : Code} (hm : P.follows .mixedOrders = true) (h : ∀ k, RunK P k ops N draw ops.toList st [] (Awp P N ini y Q)) : Awp P N ini (.seq (.region id ops draw) y) Q st := awp_seq (awp_reg hm h)
theorem runk_end {acc : List Tr} (hc : regionChk N ops acc.reverse draw = true) (h : K st) : RunK P k ops N draw [] st acc K := ⟨hc, h⟩
theorem runk {o : Oper} {os : List Oper} {env : List (Nat × AVal)} {objs : Writes} {acc : List Tr} {v : AVal} {wr : Writes} {touch made : List Nat} {d : Nat} (hg : o.guard = none) (hd : o.dst = some d) (h : OpOk P k ⟨env, objs⟩ o ⟨v, wr, touch, made⟩)
    (t : RunK P k ops N draw os ⟨(d, v) :: env, wr ++ objs⟩ (⟨v, wr, touch, made⟩ :: acc) K) : RunK P k ops N draw (o :: os) ⟨env, objs⟩ acc K := ⟨_, .inl ⟨hg, h⟩, by rw [hd]; exact t⟩
/-- An operation that writes nothing. -/
theorem runk0 {o : Oper} {os : List Oper} {env : List (Nat × AVal)} {objs : Writes} {acc : List Tr} {v : AVal} {touch : List Nat} {d : Nat} (hg : o.guard = none) (hd : o.dst = some d) (h : OpOk P k ⟨env, objs⟩ o ⟨v, [], touch, []⟩)
    (t : RunK P k ops N draw os ⟨(d, v) :: env, objs⟩ (⟨v, [], touch, []⟩ :: acc) K) : RunK P k ops N draw (o :: os) ⟨env, objs⟩ acc K := ⟨_, .inl ⟨hg, h⟩, by rw [hd]; exact t⟩
/-- An operation without a slot. -/
theorem runkN {o : Oper} {os : List Oper} {env : List (Nat × AVal)} {objs : Writes} {acc : List Tr} {v : AVal} {wr : Writes} {touch made : List Nat} (hg : o.guard = none) (hd : o.dst = none) (h : OpOk P k ⟨env, objs⟩ o ⟨v, wr, touch, made⟩)
    (t : RunK P k ops N draw os ⟨env, wr ++ objs⟩ (⟨v, wr, touch, made⟩ :: acc) K) : RunK P k ops N draw (o :: os) ⟨env, objs⟩ acc K := ⟨_, .inl ⟨hg, h⟩, by rw [hd]; exact t⟩
/-- A guarded operation that is carried out, or not. -/
theorem runkOn {o : Oper} {os : List Oper} {env : List (Nat × AVal)} {objs : Writes} {acc : List Tr} {v : AVal} {wr : Writes} {touch made : List Nat} {d g t : Nat} {b : Bool} (hg : o.guard = some (g, b)) (ht : dstOf ops g = some t) (hb : (⟨env, objs⟩ : St).get t = .val (.bool b)) (hd : o.dst = some d) (h : OpOk P k ⟨env, objs⟩ o ⟨v, wr, touch, made⟩)
    (t : RunK P k ops N draw os ⟨(d, v) :: env, wr ++ objs⟩ (⟨v, wr, touch, made⟩ :: acc) K) : RunK P k ops N draw (o :: os) ⟨env, objs⟩ acc K := ⟨_, .inr ⟨g, b, _, b, hg, ht, hb, .inl ⟨rfl, h⟩⟩, by rw [hd]; exact t⟩
theorem runkOff {o : Oper} {os : List Oper} {env : List (Nat × AVal)} {objs : Writes} {acc : List Tr} {d g t : Nat} {b want : Bool} (hg : o.guard = some (g, want)) (ht : dstOf ops g = some t) (hb : (⟨env, objs⟩ : St).get t = .val (.bool b)) (hne : (b == want) = false) (hd : o.dst = some d)
    (t : RunK P k ops N draw os ⟨(d, .any) :: env, objs⟩ (⟨.any, [], [], []⟩ :: acc) K) : RunK P k ops N draw (o :: os) ⟨env, objs⟩ acc K := ⟨⟨.any, [], [], []⟩, .inr ⟨g, want, _, b, hg, ht, hb, .inr ⟨by simpa using hne, rfl, rfl, rfl⟩⟩, by rw [hd]; exact t⟩
end
section
variable {P : Program} {k : Nat} {st : St} {o : Oper}
theorem opok_bin {op : BinOp} {t yt : TypeId} {x y : Operand} {a b cv : Value} (ho : o.op = .binOp op t x y yt) (hx : st.aop x = .val a) (hy : st.aop y = .val b) (h : ∀ w, (do eqGuard op t x y a b; binOp op t a b : Sem Value).run P w = .ok cv w) : OpOk P k st o ⟨.val cv, [], [], []⟩ :=
  opok_quiet fun ψ prot obj w ρ _ hr _ => by
    have h1 := (hx ▸ hr x (by simp [ho, Op.operands]) : VRel ψ prot w (.val a) (ρ x)).val_eq
    have h2 := (hy ▸ hr y (by simp [ho, Op.operands]) : VRel ψ prot w (.val b) (ρ y)).val_eq
    refine ⟨cv, ?_, .val _⟩
    have := h w
    simp only [Sem.run_bind] at this
    simp only [execOp, ho, h1, h2, Sem.run_bind, Sem.run_pure]
    rw [this]; rfl
theorem opok_un {op : UnOp} {t : TypeId} {x : Operand} {a cv : Value} (ho : o.op = .unOp op t x) (hx : st.aop x = .val a) (h : ∀ w, (Op.unary op a).run P w = .ok cv w) : OpOk P k st o ⟨.val cv, [], [], []⟩ :=
  opok_quiet fun ψ prot obj w ρ _ hr _ => by
    have h1 := (hx ▸ hr x (by simp [ho, Op.operands]) : VRel ψ prot w (.val a) (ρ x)).val_eq
    exact ⟨cv, by simp only [execOp, ho, h1, Sem.run_bind, h w, Result.andThen_ok, Sem.run_pure], .val _⟩
theorem opok_conv {s t : TypeId} {x : Operand} {a cv : Value} (ho : o.op = .convert s t x) (hx : st.aop x = .val a) (h : ∀ w, (convert s t a).run P w = .ok cv w) : OpOk P k st o ⟨.val cv, [], [], []⟩ :=
  opok_quiet fun ψ prot obj w ρ _ hr _ => by
    have h1 := (hx ▸ hr x (by simp [ho, Op.operands]) : VRel ψ prot w (.val a) (ρ x)).val_eq
    exact ⟨cv, by simp only [execOp, ho, h1, Sem.run_bind, h w, Result.andThen_ok, Sem.run_pure], .val _⟩
end
def ints (k : IntKind) (xs : List Int) : List AVal := xs.map fun x => .val (.int k x)
end Go.Proofs.Ytojapodjlpffdaa

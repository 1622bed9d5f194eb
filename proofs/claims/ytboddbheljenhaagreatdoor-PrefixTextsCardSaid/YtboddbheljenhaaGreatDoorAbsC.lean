/-
  Ways of a condition that is not known, results that say less. No program is named here.
-/
import Derived.Test.YtboddbheljenhaaGreatDoorAbsB
namespace Go.Proofs.YtboddbheljenhaaGreatDoor
open Go.RowKit
section
variable {P : Program} {N : Nat} {ini : Ini} {Q : Exit → St → Prop} {st : St}
theorem awp_if {c : Operand} {x y : Code} {b : Bool} (hc : st.aop c = .val (.bool b)) (h1 : b = true → Awp P N ini x Q st) (h2 : b = false → Awp P N ini y Q st) : Awp P N ini (.cond c x y) Q st := awp_cond b hc h1 h2
theorem awp_isT {c : Operand} {x y : Code} {b : Bool} (hc : st.aop c = .val (.bool b)) (hb : b = true) (h : Awp P N ini x Q st) : Awp P N ini (.cond c x y) Q st := awp_cond b hc (fun _ => h) (fun e => by rw [hb] at e; cases e)
theorem awp_isF {c : Operand} {x y : Code} {b : Bool} (hc : st.aop c = .val (.bool b)) (hb : b = false) (h : Awp P N ini y Q st) : Awp P N ini (.cond c x y) Q st := awp_cond b hc (fun e => by rw [hb] at e; cases e) (fun _ => h)
end
theorem runk_ung {P : Program} {k : Nat} {ops : Array Oper} {N : Nat} {draw : Bool} {K : St → Prop} {o : Oper} {os : List Oper} {env : List (Nat × AVal)} {objs : Writes} {acc : List Tr} {g t : Nat} {b want : Bool} (hg : o.guard = some (g, want)) (ht : dstOf ops g = some t) (hb : (⟨env, objs⟩ : St).get t = .val (.bool b)) (he : b = want)
    (h : RunK P k ops N draw ({ o with guard := none } :: os) ⟨env, objs⟩ acc K) : RunK P k ops N draw (o :: os) ⟨env, objs⟩ acc K := by
  obtain ⟨tr, h1, h2⟩ := h
  refine ⟨tr, ?_, h2⟩
  rcases h1 with ⟨_, h1⟩ | ⟨_, _, _, _, h3, _⟩
  · exact .inr ⟨g, want, t, .bool b, hg, ht, hb, .inl ⟨by rw [he], h1⟩⟩
  · cases h3
theorem runk_off {P : Program} {k : Nat} {ops : Array Oper} {N : Nat} {draw : Bool} {K : St → Prop} {o : Oper} {os : List Oper} {env : List (Nat × AVal)} {objs : Writes} {acc : List Tr} {d g t : Nat} {b want : Bool} (hg : o.guard = some (g, want)) (ht : dstOf ops g = some t) (hb : (⟨env, objs⟩ : St).get t = .val (.bool b)) (hne : b = !want) (hd : o.dst = some d)
    (h : RunK P k ops N draw os ⟨(d, .val (.tuple #[])) :: env, objs⟩ (⟨.val (.tuple #[]), [], [], []⟩ :: acc) K) : RunK P k ops N draw (o :: os) ⟨env, objs⟩ acc K := ⟨⟨.val undef, [], [], []⟩, .inr ⟨g, want, _, .bool b, hg, ht, hb, .inr ⟨by subst hne; cases want <;> simp, .inr rfl, rfl, rfl⟩⟩, by rw [hd]; exact h⟩
theorem runk_offU {P : Program} {k : Nat} {ops : Array Oper} {N : Nat} {draw : Bool} {K : St → Prop} {o : Oper} {os : List Oper} {env : List (Nat × AVal)} {objs : Writes} {acc : List Tr} {d g t : Nat} {us : Array Value} {want : Bool} (hg : o.guard = some (g, want)) (ht : dstOf ops g = some t) (hb : (⟨env, objs⟩ : St).get t = .val (.tuple us)) (hd : o.dst = some d)
    (h : RunK P k ops N draw os ⟨(d, .val (.tuple #[])) :: env, objs⟩ (⟨.val (.tuple #[]), [], [], []⟩ :: acc) K) : RunK P k ops N draw (o :: os) ⟨env, objs⟩ acc K := ⟨⟨.val undef, [], [], []⟩, .inr ⟨g, want, _, .tuple us, hg, ht, hb, .inr ⟨by simp, .inr rfl, rfl, rfl⟩⟩, by rw [hd]; exact h⟩
theorem runk_offUN {P : Program} {k : Nat} {ops : Array Oper} {N : Nat} {draw : Bool} {K : St → Prop} {o : Oper} {os : List Oper} {env : List (Nat × AVal)} {objs : Writes} {acc : List Tr} {g t : Nat} {us : Array Value} {want : Bool} (hg : o.guard = some (g, want)) (ht : dstOf ops g = some t) (hb : (⟨env, objs⟩ : St).get t = .val (.tuple us)) (hd : o.dst = none)
    (h : RunK P k ops N draw os ⟨env, objs⟩ (⟨.any, [], [], []⟩ :: acc) K) : RunK P k ops N draw (o :: os) ⟨env, objs⟩ acc K := ⟨⟨.any, [], [], []⟩, .inr ⟨g, want, _, .tuple us, hg, ht, hb, .inr ⟨by simp, .inl rfl, rfl, rfl⟩⟩, by rw [hd]; exact h⟩
theorem runk_offN {P : Program} {k : Nat} {ops : Array Oper} {N : Nat} {draw : Bool} {K : St → Prop} {o : Oper} {os : List Oper} {env : List (Nat × AVal)} {objs : Writes} {acc : List Tr} {g t : Nat} {b want : Bool} (hg : o.guard = some (g, want)) (ht : dstOf ops g = some t) (hb : (⟨env, objs⟩ : St).get t = .val (.bool b)) (hne : b = !want) (hd : o.dst = none)
    (h : RunK P k ops N draw os ⟨env, objs⟩ (⟨.any, [], [], []⟩ :: acc) K) : RunK P k ops N draw (o :: os) ⟨env, objs⟩ acc K := ⟨⟨.any, [], [], []⟩, .inr ⟨g, want, _, .bool b, hg, ht, hb, .inr ⟨by subst hne; cases want <;> simp, .inl rfl, rfl, rfl⟩⟩, by rw [hd]; exact h⟩
theorem opok_lenO {P : Program} {k : Nat} {st : St} {o : Oper} {x : Operand} {t : TypeId} {n kk len m : Nat} {e : TypeId} (ho : o.op = .call { callee := .builtin .len, args := #[x], argTypes := #[t] }) (hx : st.aop x = .own n kk len) (ht : P.underlying t = some (.slice e)) (hm : len = m) : OpOk P k st o ⟨.val (.int .i64 m), [], [], []⟩ := by
  subst hm
  exact opok_len_own ho hx ht
theorem runk_setN {P : Program} {k : Nat} {ops : Array Oper} {N : Nat} {draw : Bool} {K : St → Prop} {o : Oper} {os : List Oper} {env : List (Nat × AVal)} {objs : Writes} {acc : List Tr} {t e : TypeId} {p x : Operand} {n kk off m : Nat} {J : IntKind} {xs : List Int} {y : Int} (hg : o.guard = none) (hd : o.dst = none) (ho : o.op = .store t p x) (hp : (⟨env, objs⟩ : St).aop p = .ptr n kk off) (hx : (⟨env, objs⟩ : St).aop x = .val (.int J y)) (hn : (⟨env, objs⟩ : St).obj n = some (kk, .row e 1 (ints J xs))) (hs : sizeIs P t 1) (hm : off = m) (hf : m < xs.length)
    (t : RunK P k ops N draw os ⟨env, (n, some (kk, .row e 1 (ints J (xs.set m y)))) :: objs⟩ (⟨.any, [(n, some (kk, .row e 1 (ints J (xs.set m y))))], [n], []⟩ :: acc) K) : RunK P k ops N draw (o :: os) ⟨env, objs⟩ acc K := by
  subst hm
  exact runk_set hg hd ho hp hx hn hs hf t
theorem ints_takeR (k : IntKind) (xs : List Int) (n : Nat) : (ints k xs).take n = ints k (xs.take n) := by simp [ints, List.map_take]
theorem ints_dropR (k : IntKind) (xs : List Int) (n : Nat) : (ints k xs).drop n = ints k (xs.drop n) := by simp [ints, List.map_drop]
inductive Weak : AVal → AVal → Prop where
  | same (x : AVal) : Weak x x
  | any (x : AVal) : Weak x .any
  | nil : Weak (.val (.slice none 0 0)) (.ro [])
inductive Weaks : List AVal → List AVal → Prop where
  | nil : Weaks [] []
  | cons {x y : AVal} {xs ys : List AVal} (h : Weak x y) (t : Weaks xs ys) : Weaks (x :: xs) (y :: ys)
inductive WeakA : AVal → AVal → Prop where
  | one {x y : AVal} (h : Weak x y) : WeakA x y
  | agg {xs ys : List AVal} (h : Weaks xs ys) : WeakA (.agg xs) (.agg ys)
inductive WeakAs : List AVal → List AVal → Prop where
  | nil : WeakAs [] []
  | cons {x y : AVal} {xs ys : List AVal} (h : WeakA x y) (t : WeakAs xs ys) : WeakAs (x :: xs) (y :: ys)
inductive WeakT : AVal → AVal → Prop where
  | one {x y : AVal} (h : WeakA x y) : WeakT x y
  | tuple {xs ys : List AVal} (h : WeakAs xs ys) : WeakT (.tuple xs) (.tuple ys)
section
variable {ψ : Ghost} {prot : Nat → Prop} {w : World}
theorem Weak.rel {x y : AVal} {v : Value} (h : Weak x y) (hv : VRel ψ prot w x v) : VRel ψ prot w y v := by
  cases h with
  | same => exact hv
  | any => exact .any _
  | nil => rw [hv.val_eq]; exact .roNil none 0 (fun _ => rfl)
theorem Weaks.rel {xs ys : List AVal} (h : Weaks xs ys) : xs.length = ys.length ∧ ∀ (i : Nat) (y : AVal), ys[i]? = some y → ∃ x, xs[i]? = some x ∧ ∀ v, VRel ψ prot w x v → VRel ψ prot w y v := by
  induction h with
  | nil => exact ⟨rfl, fun i y h => by simp at h⟩
  | cons h _ ih =>
    refine ⟨by simp [ih.1], fun i y hy => ?_⟩
    cases i with
    | zero => simp at hy; subst hy; exact ⟨_, rfl, fun v hv => h.rel hv⟩
    | succ i => exact ih.2 i y (by simpa using hy)
theorem WeakA.rel {x y : AVal} {v : Value} (h : WeakA x y) (hv : VRel ψ prot w x v) : VRel ψ prot w y v := by
  cases h with
  | one h => exact h.rel hv
  | agg h =>
    obtain ⟨us, rfl, h1, h2⟩ := hv.aggs
    obtain ⟨e, hr⟩ := h.rel (ψ := ψ) (prot := prot) (w := w)
    refine VRels.agg ⟨h1.trans e, fun i y v hy hvi => ?_⟩
    obtain ⟨x, hx, hxy⟩ := hr i y hy
    exact hxy v (h2 i x v hx hvi)
theorem WeakAs.rel {xs ys : List AVal} (h : WeakAs xs ys) : xs.length = ys.length ∧ ∀ (i : Nat) (y : AVal), ys[i]? = some y → ∃ x, xs[i]? = some x ∧ ∀ v, VRel ψ prot w x v → VRel ψ prot w y v := by
  induction h with
  | nil => exact ⟨rfl, fun i y h => by simp at h⟩
  | cons h _ ih =>
    refine ⟨by simp [ih.1], fun i y hy => ?_⟩
    cases i with
    | zero => simp at hy; subst hy; exact ⟨_, rfl, fun v hv => h.rel hv⟩
    | succ i => exact ih.2 i y (by simpa using hy)
theorem WeakT.rel {x y : AVal} {v : Value} (h : WeakT x y) (hv : VRel ψ prot w x v) : VRel ψ prot w y v := by
  cases h with
  | one h => exact h.rel hv
  | tuple h =>
    cases hv with
    | tuple _ vs hl hv =>
      obtain ⟨e, hr⟩ := h.rel (ψ := ψ) (prot := prot) (w := w)
      refine .tuple _ vs (hl.trans e) fun i y v hy hvi => ?_
      obtain ⟨x, hx, hxy⟩ := hr i y hy
      exact hxy v (hv i x v hx hvi)
end
theorem Spec.weak {P : Program} {f : FuncId} {args : List AVal} {objs objs' : Writes} {v v' : AVal} (h : Spec P f args objs v objs') (hw : WeakT v v') : Spec P f args objs v' objs' := fun ψ prot w cargs hψ hr hs ha => by
  refine Calls.mono (h ψ prot w cargs hψ hr hs ha) ?_
  rintro e w' ⟨cv, ψ', prot', rfl, g1, g2, g3⟩
  exact ⟨cv, ψ', prot', rfl, g1, g2, hw.rel g3⟩
theorem ro_row {ψ : Ghost} {prot : Nat → Prop} {w : World} {t : TypeId} {sz cap : Nat} {bl : Option Nat} {es : List AVal} {xs : List Value} (h : w.ownsRow 0 t sz (.slice (bl.map fun b => ⟨b, 0, none⟩) es.length cap) es.length xs) (g : VRels ψ prot w (es.flatMap AVal.flat) xs) :
    VRel ψ (fun b => prot b ∨ bl = some b) w (.ro es) (.slice (bl.map fun b => ⟨b, 0, none⟩) es.length cap) := by
  rcases h.2 with ⟨q, h0⟩ | ⟨b, c, cur, q, h1, h2, h3, h4, h5, h6⟩
  · obtain rfl : es = [] := List.eq_nil_of_length_eq_zero h0
    injection q with q1 _ q3
    exact .roNil _ _ fun _ => q3
  · injection q with q1 _ q3
    cases bl with
    | none => cases q1
    | some b' =>
      simp only [Option.map_some, Option.some.injEq, Addr.mk.injEq, and_true] at q1
      subst q1; subst q3
      refine .ro es xs b' 0 cap h3 (.inr rfl) g.1 (fun i v hv => ?_) (fun i x v e1 e2 => (g.2 i x v e1 e2).mono (fun _ _ _ h => h) fun b hb => ⟨.inl hb, rfl⟩)
      have := h.cells (g := b') rfl i v hv
      simpa [addr_add0] using this
theorem Spec.frz {P : Program} {f : FuncId} {args : List AVal} {t : TypeId} {sz len : Nat} {es : List AVal} (h : Spec P f args [] (.own 1000 0 len) [(1000, some (0, .row t sz es))]) (hl : len ≤ es.length) (hw : widths sz es = true) (hp : AVal.pures (es.take len) = true) : Spec P f args [] (.ro (es.take len)) [] := by
  intro ψ prot w cargs hgh hrh hsz hargs
  refine Calls.mono (h ψ prot w cargs hgh hrh hsz hargs) ?_
  rintro e w' ⟨cv, ψ', prot', rfl, q1, q2, q3⟩
  obtain ⟨loc, hv, hψ⟩ := q3.own_inv
  obtain ⟨loc', h1, h2⟩ := q2.live 1000 0 (.row t sz es) rfl
  rw [hψ] at h1; injection h1 with h1; subst h1
  have hown : ∀ b, loc.block = some b → ¬ unowned ψ (updW (fun _ => none) []) w b := fun b hb hu => (q1.un b hu).1.2 1000 0 _ loc rfl hψ hb
  have h2' := h2
  obtain ⟨xs, g3, g4⟩ := h2
  obtain ⟨r1, r2⟩ := row_take g3 g4 hw hl
  have el : (es.take len).length = len := by simp [Nat.min_eq_left hl]
  refine ⟨cv, ψ', fun b => prot' b ∨ loc.block = some b, rfl, ⟨q1.os, q1.tape, q1.output, q1.size, q1.gh, fun b hb => .inl (q1.pr b hb), fun b hb => ⟨unowned_nil.2 (q1.un b hb).1.1, (q1.un b hb).2⟩, fun b hb => ?_⟩, rh_nil fun b hb => hb.elim (fun h => (q2.pr b h).1) (fun h => h2'.inside b h), ?_⟩
  · exact hb.elim (fun h => q1.new b h) fun h => .inr (hown b h)
  · rw [hv]
    have e := ro_row (ψ := ψ') (prot := prot') (t := t) (sz := sz) (es := es.take len) (bl := loc.block) (cap := loc.cap) (w := w') (by rw [el]; exact r1) r2
    rw [el] at e
    exact e
theorem Spec.frzI {P : Program} {f : FuncId} {args : List AVal} {t : TypeId} {k : IntKind} {len : Nat} {xs : List Int} (h : Spec P f args [] (.own 1000 0 len) [(1000, some (0, .row t 1 (ints k xs)))]) (hl : len ≤ xs.length) : Spec P f args [] (.ro (ints k (xs.take len))) [] := by
  have e : (ints k xs).take len = ints k (xs.take len) := by simp [ints, List.map_take]
  have := h.frz (by simpa using hl) (widths_ints _ _) (by rw [e]; exact pures_ints _ _)
  rwa [e] at this
theorem Spec.frzW {P : Program} {f : FuncId} {args : List AVal} {t : TypeId} {k : IntKind} {len : Nat} {xs : List Int} (h : Spec P f args [] (.own 1000 0 len) [(1000, some (0, .row t 1 (ints k xs)))]) (hl : len = xs.length) : Spec P f args [] (.ro (ints k xs)) [] := by
  have := h.frzI (by omega)
  rwa [hl, List.take_length] at this
end Go.Proofs.YtboddbheljenhaaGreatDoor

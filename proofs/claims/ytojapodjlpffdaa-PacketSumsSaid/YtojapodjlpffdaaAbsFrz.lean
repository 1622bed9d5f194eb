/-
  Rows that nobody will write any more, wherever they are named. No program is named here.
-/
import Derived.Test.YtojapodjlpffdaaAbsMore
namespace Go.Proofs.Ytojapodjlpffdaa
open Go.RowKit
section
variable {P : Program} {k : Nat} {st : St} {o : Oper}
theorem opok_pure {x : Operand} {xs : Array Operand} {ats : Array TypeId} {f : FuncId} {fn : Func} {c : Code} {caps cargs : List AVal} {v : AVal} (ho : o.op = .call { callee := .value x, args := xs, argTypes := ats }) (hx : st.aop x = .fn f caps) (hf : P.funcs[f]? = some fn) (hn : (fn.name == "runtime.NumGoroutine") = false) (hb : fn.body = some c)
    (hspec : Spec P f cargs [] v []) (hr : Rens [] (xs.toList.map st.aop ++ caps) cargs) (hv : v.pure = true) : OpOk P k st o ⟨v, [], [], []⟩ :=
  opok_call (d := 0) [] none ho hx hf hn hb hr hspec rfl (.one (.pure _ hv)) (fun b h => by cases h) rfl
end
/-- A call that is given two rows, which it uses up. -/
theorem runk_two {P : Program} {k : Nat} {ops : Array Oper} {N : Nat} {draw : Bool} {K : St → Prop} {o : Oper} {os : List Oper} {env : List (Nat × AVal)} {objs : Writes} {acc : List Tr} {d : Nat} {x : Operand} {xs : Array Operand} {ats : Array TypeId} {f : FuncId} {fn : Func} {c : Code} {caps cargs : List AVal} {v : AVal} {r1 r2 : AObj} {n1 k1 n2 k2 : Nat} (hg : o.guard = none) (hd : o.dst = some d)
    (ho : o.op = .call { callee := .value x, args := xs, argTypes := ats }) (hx : (⟨env, objs⟩ : St).aop x = .fn f caps) (hf : P.funcs[f]? = some fn) (hn : (fn.name == "runtime.NumGoroutine") = false) (hb : fn.body = some c)
    (hspec : Spec P f cargs [(0, some (0, r1)), (1, some (0, r2))] v [(0, none), (1, none)]) (hr : Rens [(n1, k1, 0, 0), (n2, k2, 1, 0)] (xs.toList.map (⟨env, objs⟩ : St).aop ++ caps) cargs) (hobj1 : (⟨env, objs⟩ : St).obj n1 = some (k1, r1)) (hobj2 : (⟨env, objs⟩ : St).obj n2 = some (k2, r2)) (hv : v.pure = true) (hp1 : r1.pure = true) (hp2 : r2.pure = true) (hne : (n1 != n2) = true)
    (t : RunK P k ops N draw os ⟨(d, v) :: env, (n1, none) :: (n2, none) :: objs⟩ (⟨v, [(n1, none), (n2, none)], [n1, n2], []⟩ :: acc) K) : RunK P k ops N draw (o :: os) ⟨env, objs⟩ acc K :=
  runk hg hd (opok_call (d := d) [⟨0, n1, k1, r1, none⟩, ⟨1, n2, k2, r2, none⟩] none ho hx hf hn hb hr hspec rfl (.one (.pure _ hv)) (fun b h => by
      simp at h
      rcases h with rfl | rfl
      · exact hobj1
      · exact hobj2) (by simp [bindOk, hp1, hp2]; simpa using hne)) t
inductive Frz1 (n kk : Nat) (es : List AVal) : AVal → AVal → Prop where
  | any (x : AVal) : Frz1 n kk es x .any
  | same (x : AVal) : Frz1 n kk es x x
  | own (len : Nat) (h : len = es.length) : Frz1 n kk es (.own n kk len) (.ro es)
inductive Frzs (n kk : Nat) (es : List AVal) : List AVal → List AVal → Prop where
  | nil : Frzs n kk es [] []
  | cons {x y : AVal} {xs ys : List AVal} (h : Frz1 n kk es x y) (t : Frzs n kk es xs ys) : Frzs n kk es (x :: xs) (y :: ys)
inductive Frz (n kk : Nat) (es : List AVal) : AVal → AVal → Prop where
  | one {x y : AVal} (h : Frz1 n kk es x y) : Frz n kk es x y
  | agg {xs ys : List AVal} (h : Frzs n kk es xs ys) : Frz n kk es (.agg xs) (.agg ys)
  | tuple {xs ys : List AVal} (h : Frzs n kk es xs ys) : Frz n kk es (.tuple xs) (.tuple ys)
inductive FrzO (n kk : Nat) (es : List AVal) : AObj → AObj → Prop where
  | same (o : AObj) : FrzO n kk es o o
  | box {t : TypeId} {xs ys : List AVal} (h : Frzs n kk es xs ys) : FrzO n kk es (.box t xs) (.box t ys)
  | row {t : TypeId} {sz : Nat} {xs ys : List AVal} (h : Frzs n kk es (xs.flatMap AVal.flat) (ys.flatMap AVal.flat)) (hl : xs.length = ys.length) : FrzO n kk es (.row t sz xs) (.row t sz ys)
section
variable {ψ : Ghost} {prot prot' : Nat → Prop} {w : World} {n kk : Nat} {es : List AVal}
theorem Frz1.rel {x y : AVal} {v : Value} (h : Frz1 n kk es x y) (hm : ∀ b, prot b → prot' b) (ho : ∀ u, VRel ψ prot w (.own n kk es.length) u → VRel ψ prot' w (.ro es) u) (hv : VRel ψ prot w x v) : VRel ψ prot' w y v := by
  cases h with
  | any x => exact .any v
  | same x => exact hv.mono (fun _ _ _ h => h) fun b hb => ⟨hm b hb, rfl⟩
  | own len hl => subst hl; exact ho v hv
theorem Frzs.rel (hm : ∀ b, prot b → prot' b) (ho : ∀ u, VRel ψ prot w (.own n kk es.length) u → VRel ψ prot' w (.ro es) u) : ∀ {xs ys : List AVal}, Frzs n kk es xs ys → ∀ vs, VRels ψ prot w xs vs → VRels ψ prot' w ys vs := by
  intro xs ys h
  induction h with
  | nil => intro vs hv; exact ⟨hv.1, fun i x v h => by simp at h⟩
  | cons h _ ih =>
    intro vs hv
    cases vs with
    | nil => have := hv.1; simp at this
    | cons v vs =>
      have h2 := ih vs ⟨by simpa using hv.1, fun i x u h1 h2 => hv.2 (i + 1) x u h1 h2⟩
      refine ⟨by simp [h2.1], fun i x u h1 h3 => ?_⟩
      cases i with
      | zero => simp at h1 h3; subst h1; subst h3; exact h.rel hm ho (hv.2 0 _ _ rfl rfl)
      | succ i => exact h2.2 i x u h1 h3
theorem Frz.rel {x y : AVal} {v : Value} (h : Frz n kk es x y) (hm : ∀ b, prot b → prot' b) (ho : ∀ u, VRel ψ prot w (.own n kk es.length) u → VRel ψ prot' w (.ro es) u) (hv : VRel ψ prot w x v) : VRel ψ prot' w y v := by
  cases h with
  | one h => exact h.rel hm ho hv
  | agg h =>
    obtain ⟨vs, rfl, h2⟩ := hv.aggs
    exact VRels.agg (h.rel hm ho _ h2)
  | tuple h =>
    cases hv with
    | tuple _ vs hl hv =>
      have := h.rel hm ho vs.toList ⟨by simpa using hl, fun i x v h1 h2 => hv i x v h1 (by simpa using h2)⟩
      exact .tuple _ vs (by simpa using this.1) fun i x v h1 h2 => this.2 i x v h1 (by simpa using h2)
theorem FrzO.rel {o o' : AObj} {loc : Loc} (h : FrzO n kk es o o') (hm : ∀ b, prot b → prot' b) (ho : ∀ u, VRel ψ prot w (.own n kk es.length) u → VRel ψ prot' w (.ro es) u) (hv : ORel ψ prot w loc o) : ORel ψ prot' w loc o' := by
  cases h with
  | same => exact hv.mono (fun _ _ _ h => h) (fun b hb => ⟨hm b hb, rfl⟩) fun _ _ => rfl
  | box h => obtain ⟨b, vs, h0, h1, h2⟩ := hv; exact ⟨b, vs, h0, h1, h.rel hm ho _ h2⟩
  | row h hl => obtain ⟨xs, h1, h2⟩ := hv; rw [hl] at h1; exact ⟨xs, h1, h.rel hm ho _ h2⟩
end
inductive EnvFrz (n kk : Nat) (es : List AVal) (st : St) : List (Nat × AVal) → Prop where
  | nil : EnvFrz n kk es st []
  | cons {t : Nat} {v v' : AVal} {env : List (Nat × AVal)} (h : st.get t = v) (f : Frz n kk es v v') (r : EnvFrz n kk es st env) : EnvFrz n kk es st ((t, v') :: env)
inductive ObjsFrz (n kk : Nat) (es : List AVal) (st : St) : Writes → Prop where
  | nil : ObjsFrz n kk es st []
  | cons {m k : Nat} {o o' : AObj} {objs : Writes} (h : st.obj m = some (k, o)) (hm : (m != n) = true) (f : FrzO n kk es o o') (r : ObjsFrz n kk es st objs) : ObjsFrz n kk es st ((m, some (k, o')) :: objs)
theorem EnvFrz.mem {n kk : Nat} {es : List AVal} {st : St} {env : List (Nat × AVal)} (h : EnvFrz n kk es st env) : ∀ p ∈ env, Frz n kk es (st.get p.1) p.2 := by
  induction h with
  | nil => intro p hp; cases hp
  | cons h f _ ih => intro p hp; rcases List.mem_cons.1 hp with rfl | hp; · rw [h]; exact f
                     · exact ih p hp
theorem ObjsFrz.mem {n kk : Nat} {es : List AVal} {st : St} {objs : Writes} (h : ObjsFrz n kk es st objs) : ∀ p ∈ objs, ∃ k o o', p.2 = some (k, o') ∧ st.obj p.1 = some (k, o) ∧ p.1 ≠ n ∧ FrzO n kk es o o' := by
  induction h with
  | nil => intro p hp; cases hp
  | cons h hm f _ ih => intro p hp; rcases List.mem_cons.1 hp with rfl | hp; · exact ⟨_, _, _, rfl, h, by simpa using hm, f⟩
                        · exact ih p hp
theorem awp_frz {P : Program} {N : Nat} {ini : Ini} {Q : Exit → St → Prop} {st : St} {c : Code} (n kk : Nat) {sz : Nat} {t : TypeId} (es : List AVal) (env : List (Nat × AVal)) (objs : Writes) (hn : st.obj n = some (kk, .row t sz es)) (he : EnvFrz n kk es st env) (ho : ObjsFrz n kk es st objs) (h : Awp P N ini c Q ⟨env, objs⟩) : Awp P N ini c Q st := by
  rintro a w ⟨hd, hs, ψ, prot, h1, h2, h3, h4⟩
  obtain ⟨loc, hl, hor⟩ := h2.live n kk _ hn
  have live : ∀ m k o', (⟨env, objs⟩ : St).obj m = some (k, o') → m ≠ n ∧ ∃ o, st.obj m = some (k, o) ∧ FrzO n kk es o o' := fun m k o' h => by
    simp only [St.obj, updW] at h
    cases hlk : objs.lookup m with
    | none => rw [hlk] at h; cases h
    | some y =>
      rw [hlk] at h
      simp only at h
      subst h
      obtain ⟨k', o, o'', q1, q2, q3, q4⟩ := ho.mem _ (lookup_mem hlk)
      simp only [Option.some.injEq, Prod.mk.injEq] at q1
      obtain ⟨rfl, rfl⟩ := q1
      exact ⟨q3, o, q2, q4⟩
  let prot' : Nat → Prop := fun b => prot b ∨ loc.block = some b
  have hun : ∀ b, unowned ψ st.obj w b → unowned ψ (⟨env, objs⟩ : St).obj w b := fun b hb => ⟨hb.1, fun m k o l g1 g2 => by
    obtain ⟨_, o0, q1, _⟩ := live m k o g1
    exact hb.2 m k o0 l q1 g2⟩
  have hpu : ∀ b, prot' b → unowned ψ (⟨env, objs⟩ : St).obj w b := fun b hb => by
    rcases hb with hb | hb
    · exact hun b (h2.pr b hb)
    · refine ⟨hor.inside b hb, fun m k o l g1 g2 g3 => ?_⟩
      obtain ⟨q0, o0, q1, _⟩ := live m k o g1
      exact h2.inj n m kk k _ o0 loc l hn q1 (Ne.symm q0) hl g2 b hb g3
  have hmono : ∀ b, prot b → prot' b := fun b hb => .inl hb
  have hown : ∀ u, VRel ψ prot w (.own n kk es.length) u → VRel ψ prot' w (.ro es) u := fun u hu => by
    obtain ⟨loc', hv, hψ⟩ := hu.own_inv
    rw [hl] at hψ; injection hψ with hψ; subst hψ
    obtain ⟨xs, g3, g4, g5⟩ := loc_of_own hor
    rw [hv]
    cases hb : loc.block with
    | none =>
      obtain ⟨q1, q2⟩ := g5 hb
      obtain rfl : es = [] := List.eq_nil_of_length_eq_zero q1
      rw [q2]; exact .roNil _ _ fun _ => rfl
    | some b =>
      obtain ⟨ys, k1, k2⟩ := hor
      refine .ro es xs b 0 loc.cap ?_ (.inr hb) g3.1 (fun i v hi => ?_) fun i x v hx hi => (g3.2 i x v hx hi).mono (fun _ _ _ h => h) fun b hb => ⟨hmono b hb, rfl⟩
      · rw [hb] at k1
        rcases k1.2 with ⟨h, _⟩ | ⟨g, c, cur, h, _, _, hle, _⟩
        · cases h
        · injection h with _ _ e3; rw [e3]; exact hle
      · obtain ⟨ad, q1, q2⟩ := g4 i v hi
        rw [hb] at q1
        simp only [Option.map_some, Option.some.injEq] at q1
        subst q1
        rwa [addr_add0] at q2
  refine h a w ⟨hd, hs, ψ, prot', ⟨h1.os, h1.tape, h1.output, h1.size, h1.gh, fun b hb => .inl (h1.pr b hb), fun b hb => ⟨hun b (h1.un b hb).1, (h1.un b hb).2⟩, fun b hb => ?_⟩, ⟨fun m k o g => ?_, fun m m' k k' o o' l l' g g' hne => ?_, hpu⟩, h3, fun t' => ?_⟩
  · rcases hb with hb | hb
    · exact h1.new b hb
    · exact .inr fun hu => (h1.un b hu).1.2 n kk _ loc hn hl hb
  · obtain ⟨_, o0, q1, q2⟩ := live m k o g
    obtain ⟨l, g1, g2⟩ := h2.live m k o0 q1
    exact ⟨l, g1, q2.rel hmono hown g2⟩
  · obtain ⟨_, o0, q1, _⟩ := live m k o g
    obtain ⟨_, o1, q1', _⟩ := live m' k' o' g'
    exact h2.inj m m' k k' o0 o1 l l' q1 q1' hne
  · cases hlk : env.lookup t' with
    | none =>
      have : (⟨env, objs⟩ : St).get t' = .any := by simp [St.get, hlk]
      rw [this]; exact .any _
    | some v =>
      have h5 := he.mem _ (lookup_mem hlk)
      have : (⟨env, objs⟩ : St).get t' = v := by simp [St.get, hlk]
      rw [this]
      exact h5.rel hmono hown (h4 t')
end Go.Proofs.Ytojapodjlpffdaa

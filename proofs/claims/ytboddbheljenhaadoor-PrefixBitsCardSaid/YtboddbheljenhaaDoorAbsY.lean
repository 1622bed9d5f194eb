/-
  A box of the call's own that nobody writes any more, by states. No program is named here.
-/
import Derived.Test.YtboddbheljenhaaDoorAbsN
namespace Go.Proofs.YtboddbheljenhaaDoor
open Go.RowKit
inductive FrzB (n kk : Nat) (cs : List AVal) : AVal → AVal → Prop where
  | any (x : AVal) : FrzB n kk cs x .any
  | same (x : AVal) : FrzB n kk cs x x
  | ptr (off : Nat) : FrzB n kk cs (.ptr n kk off) (.rref (cs.drop off))
inductive EnvFrzB (n kk : Nat) (cs : List AVal) (st : St) : List (Nat × AVal) → Prop where
  | nil : EnvFrzB n kk cs st []
  | cons {t : Nat} {v v' : AVal} {env : List (Nat × AVal)} (h : st.get t = v) (f : FrzB n kk cs v v') (r : EnvFrzB n kk cs st env) : EnvFrzB n kk cs st ((t, v') :: env)
inductive ObjsFrzB (n : Nat) (st : St) : Writes → Prop where
  | nil : ObjsFrzB n st []
  | cons {m k : Nat} {o : AObj} {objs : Writes} (h : st.obj m = some (k, o)) (hm : (m != n) = true) (r : ObjsFrzB n st objs) : ObjsFrzB n st ((m, some (k, o)) :: objs)
theorem EnvFrzB.mem {n kk : Nat} {cs : List AVal} {st : St} {env : List (Nat × AVal)} (h : EnvFrzB n kk cs st env) : ∀ p ∈ env, FrzB n kk cs (st.get p.1) p.2 := by
  induction h with
  | nil => intro p hp; cases hp
  | cons h f _ ih =>
    intro p hp
    rcases List.mem_cons.1 hp with rfl | hp
    · rw [h]; exact f
    · exact ih p hp
theorem ObjsFrzB.mem {n : Nat} {st : St} {objs : Writes} (h : ObjsFrzB n st objs) : ∀ p ∈ objs, ∃ k o, p.2 = some (k, o) ∧ st.obj p.1 = some (k, o) ∧ p.1 ≠ n := by
  induction h with
  | nil => intro p hp; cases hp
  | cons h hm _ ih =>
    intro p hp
    rcases List.mem_cons.1 hp with rfl | hp
    · exact ⟨_, _, rfl, h, by simpa using hm⟩
    · exact ih p hp
theorem awp_frzB {P : Program} {N : Nat} {ini : Ini} {Q : Exit → St → Prop} {st : St} {c : Code} (n kk : Nat) {t : TypeId} (cs : List AVal) (env : List (Nat × AVal)) (objs : Writes) (hn : st.obj n = some (kk, .box t cs)) (he : EnvFrzB n kk cs st env) (ho : ObjsFrzB n st objs) (h : Awp P N ini c Q ⟨env, objs⟩) : Awp P N ini c Q st := by
  rintro a w ⟨hd, hs, ψ, prot, h1, h2, h3, h4⟩
  obtain ⟨loc, hl, hor⟩ := h2.live n kk _ hn
  have live : ∀ m k o', (⟨env, objs⟩ : St).obj m = some (k, o') → m ≠ n ∧ st.obj m = some (k, o') := fun m k o' h => by
    simp only [St.obj, updW] at h
    cases hlk : objs.lookup m with
    | none => rw [hlk] at h; cases h
    | some y =>
      rw [hlk] at h
      simp only at h
      subst h
      obtain ⟨k', o, q1, q2, q3⟩ := ho.mem _ (lookup_mem hlk)
      simp only [Option.some.injEq, Prod.mk.injEq] at q1
      obtain ⟨rfl, rfl⟩ := q1
      exact ⟨q3, q2⟩
  let prot' : Nat → Prop := fun b => prot b ∨ loc.block = some b
  have hun : ∀ b, unowned ψ st.obj w b → unowned ψ (⟨env, objs⟩ : St).obj w b := fun b hb => ⟨hb.1, fun m k o l g1 g2 => by
    obtain ⟨_, q1⟩ := live m k o g1
    exact hb.2 m k o l q1 g2⟩
  have hpu : ∀ b, prot' b → unowned ψ (⟨env, objs⟩ : St).obj w b := fun b hb => by
    rcases hb with hb | hb
    · exact hun b (h2.pr b hb)
    · refine ⟨hor.inside b hb, fun m k o l g1 g2 g3 => ?_⟩
      obtain ⟨q0, q1⟩ := live m k o g1
      exact h2.inj n m kk k _ o loc l hn q1 (Ne.symm q0) hl g2 b hb g3
  have hmono : ∀ b, prot b → prot' b := fun b hb => .inl hb
  have hptr : ∀ off u, VRel ψ prot w (.ptr n kk off) u → VRel ψ prot' w (.rref (cs.drop off)) u := fun off u hu => by
    obtain ⟨b, cap, hv, hψ⟩ := hu.ptr_inv
    rw [hl] at hψ; injection hψ with hψ; subst hψ
    obtain ⟨vs, g1, g2⟩ := hor.cell (b := b) rfl
    rw [hv]
    have g11 : vs.length = cs.length := g1.1
    refine .rref _ (vs.drop off) b off (.inr rfl) (by rw [List.length_drop, List.length_drop, g11]) (fun i v hi => ?_) fun i x v hx hi => ?_
    · rw [List.getElem?_drop] at hi
      exact g2 (off + i) v hi
    · rw [List.getElem?_drop] at hx hi
      exact (g1.2 (off + i) x v hx hi).mono (fun _ _ _ h => h) fun b hb => ⟨hmono b hb, rfl⟩
  refine h a w ⟨hd, hs, ψ, prot', ⟨h1.os, h1.tape, h1.output, h1.size, h1.gh, fun b hb => .inl (h1.pr b hb), fun b hb => ⟨hun b (h1.un b hb).1, (h1.un b hb).2⟩, fun b hb => ?_⟩, ⟨fun m k o g => ?_, fun m m' k k' o o' l l' g g' hne => ?_, hpu⟩, h3, fun t' => ?_⟩
  · rcases hb with hb | hb
    · exact h1.new b hb
    · exact .inr fun hu => (h1.un b hu).1.2 n kk _ loc hn hl hb
  · obtain ⟨_, q1⟩ := live m k o g
    obtain ⟨l, g1, g2⟩ := h2.live m k o q1
    exact ⟨l, g1, g2.mono (fun _ _ _ h => h) (fun b hb => ⟨hmono b hb, rfl⟩) fun _ _ => rfl⟩
  · obtain ⟨_, q1⟩ := live m k o g
    obtain ⟨_, q1'⟩ := live m' k' o' g'
    exact h2.inj m m' k k' o o' l l' q1 q1' hne
  · cases hlk : env.lookup t' with
    | none =>
      have : (⟨env, objs⟩ : St).get t' = .any := by simp [St.get, hlk]
      rw [this]; exact .any _
    | some v =>
      have e : (⟨env, objs⟩ : St).get t' = v := by simp [St.get, hlk]
      rw [e]
      have hf : FrzB n kk cs (st.get t') v := he.mem _ (lookup_mem hlk)
      have h5 := h4 t'
      generalize st.get t' = x at hf h5
      cases hf with
      | any => exact .any _
      | same => exact h5.mono (fun _ _ _ h => h) fun b hb => ⟨hmono b hb, rfl⟩
      | ptr off => exact hptr off _ h5
end Go.Proofs.YtboddbheljenhaaDoor

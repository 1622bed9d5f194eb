/-
  A nil slice in a struct that becomes an empty row of its own. No program is named here.
-/
import Derived.Test.YtmbmodeiikhnkaaDoorAbsG
namespace Go.Proofs.YtmbmodeiikhnkaaDoor
open Go.RowKit
theorem awp_adoptB {P : Program} {N : Nat} {ini : Ini} {Q : Exit → St → Prop} {env : List (Nat × AVal)} {objs : Writes} {c : Code} (nb kb j d : Nat) (bt e : TypeId) (sz : Nat) (cs : List AVal) (ho : (⟨env, objs⟩ : St).obj nb = some (kb, .box bt cs)) (hj : cs[j]? = some (.val (.slice none 0 0))) (hnd : nb ≠ d)
    (h : ∀ k, Awp P N ini c Q ⟨env, (nb, some (kb, .box bt (cs.set j (.own d k 0)))) :: (d, some (k, .row e sz [])) :: objs⟩) : Awp P N ini c Q ⟨env, objs⟩ := by
  rintro a w ⟨hd, hs, ψ, prot, h1, h2, ⟨K, hK⟩, h4⟩
  obtain ⟨ψ', g1, g2, g3, g4, g5⟩ := evolve_make (w' := w) h2 [] d K ⟨none, 0⟩ (.row e sz []) (hK d K (Nat.le_refl _)) rfl rfl rfl (Nat.le_refl _) (fun _ _ _ => rfl) (fun b hb => by cases hb) (fun ψ' _ => ⟨[], World.ownsRow_nil _ _ _ _, ⟨rfl, fun i x v h => by simp at h⟩⟩)
  have eo : (⟨env, (d, some (K, .row e sz [])) :: objs⟩ : St).obj = updW (⟨env, objs⟩ : St).obj ((d, some (K, .row e sz [])) :: [].map fun n => (n, none)) := by
    funext n
    simp only [St.obj, updW, List.lookup_cons, List.map_nil]
    cases n == d <;> rfl
  rw [← eo] at g1 g2
  have hmid : (⟨env, (d, some (K, .row e sz [])) :: objs⟩ : St).obj nb = some (kb, .box bt cs) := by
    have : (nb == d) = false := by simpa using hnd
    simp only [St.obj, updW, List.lookup_cons, this]
    exact ho
  have hback : ∀ n k o, (⟨env, (nb, some (kb, .box bt (cs.set j (.own d K 0)))) :: (d, some (K, .row e sz [])) :: objs⟩ : St).obj n = some (k, o) → ∃ o1, (⟨env, (d, some (K, .row e sz [])) :: objs⟩ : St).obj n = some (k, o1) ∧ ((n = nb ∧ k = kb ∧ o = .box bt (cs.set j (.own d K 0)) ∧ o1 = .box bt cs) ∨ o = o1) := fun n k o hn => by
    by_cases hx : n = nb
    · subst hx
      have : (⟨env, (n, some (kb, .box bt (cs.set j (.own d K 0)))) :: (d, some (K, .row e sz [])) :: objs⟩ : St).obj n = some (kb, .box bt (cs.set j (.own d K 0))) := by simp [St.obj, updW, List.lookup_cons]
      rw [this] at hn
      injection hn with hn
      injection hn with e1 e2
      subst e1; subst e2
      exact ⟨_, hmid, .inl ⟨rfl, rfl, rfl, rfl⟩⟩
    · have hx' : (n == nb) = false := by simpa using hx
      have : (⟨env, (nb, some (kb, .box bt (cs.set j (.own d K 0)))) :: (d, some (K, .row e sz [])) :: objs⟩ : St).obj n = (⟨env, (d, some (K, .row e sz [])) :: objs⟩ : St).obj n := by simp only [St.obj, updW, List.lookup_cons, hx']
      rw [this] at hn
      exact ⟨o, hn, .inr rfl⟩
  have hun : ∀ b, unowned ψ' (⟨env, (d, some (K, .row e sz [])) :: objs⟩ : St).obj w b → unowned ψ' (⟨env, (nb, some (kb, .box bt (cs.set j (.own d K 0)))) :: (d, some (K, .row e sz [])) :: objs⟩ : St).obj w b := fun b hb => ⟨hb.1, fun n k o loc q1 q2 => by
    obtain ⟨o1, q3, -⟩ := hback n k o q1
    exact hb.2 n k o1 loc q3 q2⟩
  have h13 := h1.trans g1
  refine h K a w ⟨hd, hs, ψ', prot, ⟨h13.os, h13.tape, h13.output, h13.size, h13.gh, h13.pr, fun b hb => ⟨hun b (h13.un b hb).1, (h13.un b hb).2⟩, h13.new⟩, ⟨fun n k o q => ?_, fun n n' k k' o o' l l' q q' hne => ?_, fun b hb => hun b (g2.pr b hb)⟩, ⟨K + 1, fun n k hk => ?_⟩, fun t => (h4 t).mono g4 fun b hb => ⟨hb, rfl⟩⟩
  · obtain ⟨o1, q1, q2⟩ := hback n k o q
    obtain ⟨l, q3, q4⟩ := g2.live n k o1 q1
    rcases q2 with ⟨rfl, rfl, rfl, rfl⟩ | rfl
    · obtain ⟨b, vs, e1, e2, e3⟩ := q4
      refine ⟨l, q3, b, vs, e1, e2, by rw [e3.1]; simp, fun i x v i1 i2 => ?_⟩
      rw [List.getElem?_set] at i1
      split at i1
      · rename_i hij
        subst hij
        split at i1
        · injection i1 with i1
          subst i1
          have := (e3.2 j (.val (.slice none 0 0)) v hj i2).val_eq
          rw [this]
          exact .own d K 0 ⟨none, 0⟩ g3
        · cases i1
      · exact e3.2 i x v i1 i2
    · exact ⟨l, q3, q4⟩
  · obtain ⟨o1, q1, -⟩ := hback n k o q
    obtain ⟨o1', q1', -⟩ := hback n' k' o' q'
    exact g2.inj n n' k k' o1 o1' l l' q1 q1' hne
  · by_cases hx : ψ' n k = none
    · exact hx
    · rcases g5 n k hx with q | ⟨q, _⟩
      · exact absurd (hK n k (by omega)) q
      · omega
end Go.Proofs.YtmbmodeiikhnkaaDoor

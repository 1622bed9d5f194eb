/-
  Between calls by worlds and functions by states. No program is named here.
-/
import Derived.Test.YtojapodjlpffdaaAbsStep
import Derived.Test.YtojapodjlpffdaaOpen
namespace Go.Proofs.Ytojapodjlpffdaa
open Go.RowKit
theorem updW_nil (n : Nat) : updW (fun _ => none) [] n = none := rfl
theorem unowned_nil {ψ : Ghost} {w : World} {b : Nat} : unowned ψ (updW (fun _ => none) []) w b ↔ b < w.heap.size := ⟨fun h => h.1, fun h => ⟨h, fun n k o loc h1 => by cases h1⟩⟩
theorem rh_nil {ψ : Ghost} {prot : Nat → Prop} {w : World} (h : ∀ b, prot b → b < w.heap.size) : RH ψ prot (updW (fun _ => none) []) w :=
  ⟨fun n k o h => (nomatch h), fun n n1 k k1 o o1 l l1 h => (nomatch h), fun b hb => unowned_nil.2 (h b hb)⟩
theorem vals_of {ψ : Ghost} {prot : Nat → Prop} {w : World} {vs cargs : Array Value} (hsz : cargs.size = (vs.toList.map AVal.val).length) (h : ∀ (i : Nat) (x : AVal) (u : Value), (vs.toList.map AVal.val)[i]? = some x → cargs[i]? = some u → VRel ψ prot w x u) : cargs = vs := by
  apply Array.ext
  · simpa using hsz
  · intro i h1 h2
    have := h i (.val vs[i]) cargs[i] (by simp [h2]) (by simp [h1])
    exact this.val_eq
/-- A function that is given values without memory, and answers so. -/
theorem spec_of_calls {P : Program} {f : FuncId} {vs : Array Value} {u : Value} (h : ∀ w, Calls P f vs w fun e w' => e = .returned u ∧ Below w.heap.size w w') : Spec P f (vs.toList.map .val) [] (.val u) [] := by
  intro ψ prot w cargs _ hrh hsz hargs
  obtain rfl := vals_of hsz hargs
  refine Calls.mono (h w) ?_
  rintro e w' ⟨rfl, hb⟩
  have hk : ∀ b, prot b → b < w.heap.size := fun b hb => (hrh.pr b hb).1
  exact ⟨u, ψ, prot, rfl, ⟨hb.os, hb.tape, hb.output, hb.size, fun _ _ _ h => h, fun _ h => h, fun b hb' => ⟨unowned_nil.2 (Nat.lt_of_lt_of_le (unowned_nil.1 hb') hb.size), hb.block b (unowned_nil.1 hb')⟩, fun _ h => .inl h⟩,
    rh_nil fun b hb' => Nat.lt_of_lt_of_le (hk b hb') hb.size, .val u⟩
/-- What a function says of a call from outside. -/
theorem calls_of_spec {P : Program} {f : FuncId} {args : List AVal} {v : AVal} {w : World} {cargs : Array Value} (h : Spec P f args [] v []) (hsz : cargs.size = args.length) (hargs : ∀ (i : Nat) (x : AVal) (u : Value), args[i]? = some x → cargs[i]? = some u → VRel (fun _ _ => none) (· < w.heap.size) w x u) :
    Calls P f cargs w fun e w' => ∃ cv ψ prot, e = .returned cv ∧ VRel ψ prot w' v cv ∧ Below w.heap.size w w' := by
  refine Calls.mono (h (fun _ _ => none) (· < w.heap.size) w cargs (fun n k h => absurd rfl h) (rh_nil fun b hb => hb) hsz hargs) ?_
  rintro e w' ⟨cv, ψ', prot', rfl, g1, -, g3⟩
  exact ⟨cv, ψ', prot', rfl, g3, ⟨g1.os, g1.tape, g1.output, g1.size, fun b hb => (g1.un b (unowned_nil.2 hb)).2⟩⟩
theorem calls_val {P : Program} {f : FuncId} {args : List AVal} {u : Value} {w : World} {cargs : Array Value} (h : Spec P f args [] (.val u) []) (hsz : cargs.size = args.length) (hargs : ∀ (i : Nat) (x : AVal) (u : Value), args[i]? = some x → cargs[i]? = some u → VRel (fun _ _ => none) (· < w.heap.size) w x u) :
    Calls P f cargs w fun e w' => e = .returned u ∧ Below w.heap.size w w' := by
  refine Calls.mono (calls_of_spec h hsz hargs) ?_
  rintro e w' ⟨cv, ψ, prot, rfl, h1, h2⟩
  exact ⟨by rw [h1.val_eq], h2⟩
theorem vrel_ints {ψ : Ghost} {k : IntKind} {w : World} {A : Option Addr} {n c : Nat} {zs : List Int} (g : Ints k w A n c zs) : VRel ψ (· < w.heap.size) w (.ro (ints k zs)) (.slice A n c) := by
  by_cases hn : n = 0
  · subst hn
    obtain rfl : zs = [] := List.eq_nil_of_length_eq_zero g.len
    exact .roNil A c g.nil
  · have hl : (zs.map (Value.int k)).length = n := by simpa using g.len
    obtain ⟨a, v, h1, h2, h3, h4⟩ := g.lies 0 (by omega)
    subst h1
    have hsp : a.spot = none := by
      have e : a.add 0 = a := by simp [Addr.add]
      rw [e] at h4
      unfold World.cell? at h4
      split at h4
      · split at h4
        · cases h4
        · rename_i hs
          cases hq : a.spot with
          | none => rfl
          | some x => rw [hq] at hs; exact absurd rfl hs
      · cases h4
    obtain ⟨b, o, sp⟩ := a
    simp only at hsp
    subst hsp
    have := VRel.ro (ψ := ψ) (prot := (· < w.heap.size)) (w := w) (ints k zs) (zs.map (Value.int k)) b o c (by simpa [g.len] using g.cap) h2 (by rw [flat_ints]; simp) (fun i u hu => by
      have hi : i < (zs.map (Value.int k)).length := (List.getElem?_eq_some_iff.1 hu).1
      obtain ⟨a', v', q1, _, q3, q4⟩ := g.lies i hi
      injection q1 with q1; subst q1
      rw [q3] at hu; injection hu with hu; subst hu
      rwa [addr_add0] at q4) (fun i x u hx hu => by
      rw [flat_ints, ints_get] at hx
      simp only [List.getElem?_map] at hu
      cases hz : zs[i]? with
      | none => rw [hz] at hx; cases hx
      | some z =>
        rw [hz] at hx hu
        simp only [Option.map_some, Option.some.injEq] at hx hu
        subst hx; subst hu
        exact .val _)
    simpa [g.len] using this
end Go.Proofs.Ytojapodjlpffdaa

/-
  A literal's row that is the bytes of a constant text; contracts on rows, as they are said here. No program is named here.
-/
import Derived.Test.YtlehkllcbedkhaaAbsG
namespace Go.Proofs.Ytlehkllcbedkhaa
open Go.RowKit
theorem run_convK {P : Program} (w : World) (t e : TypeId) (g : Nat) (cur : Array Value) (et : TypeId) (fr : Nat × Nat) (n c : Nat) (ht : P.underlying t = some (.slice e)) (he : P.underlying e = some (.int .u8)) (hg : w.heap[g]? = some (.cells cur et fr)) :
    (convert t t (.slice (some ⟨g, 0, none⟩) n c)).run P w = .ok (.slice (some ⟨g, 0, none⟩) n c) (w.freeze ⟨g, cur.size, none⟩ 1) := by
  have hsh : w.shape? g = some (et, cur.size) := by unfold World.shape?; rw [hg]
  simp [convert, run_underlying ht, run_underlying he, markStringish, hsh]
  try rfl
theorem opok_convK {P : Program} {k : Nat} {st : St} {o : Oper} {t e et : TypeId} {x : Operand} {n kk len : Nat} {xs : List Int} (ho : o.op = .convert t t x) (hx : st.aop x = .own n kk len) (hn : st.obj n = some (kk, .row et 1 (ints .u8 xs))) (hl : len = xs.length) (h0 : 0 < xs.length) (ht : P.underlying t = some (.slice e)) (he : P.underlying e = some (.int .u8)) :
    OpOk P k st o ⟨.ro (ints .u8 xs), [(n, none)], [n], []⟩ := by
  subst hl
  refine ⟨fun a ha => by simpa [Writes.names] using ha, fun ψ prot obj w ρ hob hr r hf => ?_⟩
  have e1 := hx ▸ hr x (by simp [ho, Op.operands])
  obtain ⟨loc, hv, hψ⟩ := e1.own_inv
  have hnn := (hob n (by simp)).trans hn
  obtain ⟨loc', g1, g2⟩ := r.live n kk _ hnn
  rw [hψ] at g1; injection g1 with g1; subst g1
  obtain ⟨vs, g3, g4⟩ := g2
  rw [flat_ints] at g4
  obtain rfl := ints_vals g4
  simp only [length_ints] at g3
  rcases g3.2 with ⟨-, h⟩ | ⟨g, c, cur, h, hb0, hg, hle, hmax, hsz, htake⟩
  · omega
  have hb : loc.block = some g := by
    cases hbb : loc.block with
    | none => rw [hbb] at h; cases h
    | some b => rw [hbb] at h; simp at h; rw [h.1]
  have hc : loc.cap = c := by rw [hb] at h; simp at h; exact h
  rw [hb] at hv
  simp only [Option.map_some] at hv
  have hglt : g < w.heap.size := (Array.getElem?_eq_some_iff.1 hg).1
  have hheap : ∀ j, j ≠ g → (w.freeze ⟨g, cur.size, none⟩ 1).heap[j]? = w.heap[j]? := fun j hj => by
    simp [World.freeze, Array.getElem?_modify, Ne.symm hj]
  have hhg : (w.freeze ⟨g, cur.size, none⟩ 1).heap[g]? = some (.cells cur et (cur.size, cur.size + 1)) := by
    simp [World.freeze, Array.getElem?_modify, hg]
  have hsize : (w.freeze ⟨g, cur.size, none⟩ 1).heap.size = w.heap.size := by simp [World.freeze]
  have hrun : (execOp ρ o).run P w = .ok (.value (.slice (some ⟨g, 0, none⟩) xs.length loc.cap)) (w.freeze ⟨g, cur.size, none⟩ 1) := by
    simp only [execOp, ho, hv, Sem.run_bind, run_convK w t e g cur et (0, 0) _ _ ht he hg, Result.andThen_ok, Sem.run_pure]
  rw [hrun]
  have hos : (w.freeze ⟨g, cur.size, none⟩ 1).os = w.os ∧ (w.freeze ⟨g, cur.size, none⟩ 1).tape = w.tape ∧ (w.freeze ⟨g, cur.size, none⟩ 1).output = w.output := by simp [World.freeze]
  generalize w.freeze ⟨g, cur.size, none⟩ 1 = w' at *
  have hobj' : ∀ m j ob, updW obj [(n, none)] m = some (j, ob) → m ≠ n ∧ obj m = some (j, ob) := fun m j ob h => by
    by_cases hm : m = n
    · subst hm; simp [updW, List.lookup] at h
    · have : (m == n) = false := by simpa using hm
      simp only [updW, List.lookup_cons, this, List.lookup_nil] at h
      exact ⟨hm, h⟩
  have hung : ∀ b, unowned ψ obj w b → b ≠ g := fun b hu e => hu.2 n kk _ loc hnn hψ (by rw [hb, e])
  refine ⟨ψ, fun b => prot b ∨ b = g, ⟨hos.1, hos.2.1, hos.2.2, by omega, fun _ _ _ h => h, fun b hb => .inl hb, fun b hu => ⟨⟨by have := hu.1; omega, fun m j ob l q1 q2 q3 => hu.2 m j ob l (hobj' m j ob q1).2 q2 q3⟩, hheap b (hung b hu)⟩, fun b hb' => ?_⟩, ⟨fun m j ob q => ?_, fun m m' j j' ob ob' l l' q q' hne => r.inj m m' j j' ob ob' l l' (hobj' m j ob q).2 (hobj' m' j' ob' q').2 hne, fun b hb' => ?_⟩, ?_, fun m j hne => .inl hne⟩
  · rcases hb' with hb' | rfl
    · exact .inl hb'
    · exact .inr fun hu => hung _ hu rfl
  · obtain ⟨hm, q1⟩ := hobj' m j ob q
    obtain ⟨l, q2, q3⟩ := r.live m j ob q1
    exact ⟨l, q2, q3.mono (fun _ _ _ h => h) (fun b hb' => ⟨.inl hb', hheap b (hung b (r.pr b hb'))⟩) fun b hb' => hheap b fun e => r.inj m n j kk ob _ l loc q1 hnn hm q2 hψ b hb' (by rw [hb, e])⟩
  · rcases hb' with hb' | rfl
    · have := r.pr b hb'
      exact ⟨by have := this.1; omega, fun m j ob l q1 q2 q3 => this.2 m j ob l (hobj' m j ob q1).2 q2 q3⟩
    · refine ⟨by omega, fun m j ob l q1 q2 q3 => ?_⟩
      obtain ⟨hm, q4⟩ := hobj' m j ob q1
      exact r.inj m n j kk ob _ l loc q4 hnn hm q2 hψ b q3 hb
  · rw [← length_ints .u8 xs]
    refine .ro (ints .u8 xs) (xs.map (Value.int .u8)) g 0 loc.cap (by rw [length_ints, hc]; exact hle) (.inr rfl) (by rw [flat_ints]; simp) (fun i v hi => ?_) fun i x v h1 h2 => ?_
    · simp only [World.cell?, hhg]
      have h2 : (cur.toList.take (xs.length * 1))[i]? = some v := by rw [htake]; exact hi
      have hi2 : i < xs.length := by
        rcases Nat.lt_or_ge i xs.length with h | h
        · exact h
        · rw [List.getElem?_eq_none (by simpa using h)] at hi; cases hi
      rw [List.getElem?_take, if_pos (by omega)] at h2
      simpa using h2
    · rw [flat_ints] at h1
      exact (vrels_zeros .u8 xs).2 i x v h1 h2
theorem runk_convK {P : Program} {k : Nat} {ops : Array Oper} {N : Nat} {draw : Bool} {C : St → Prop} {o : Oper} {os : List Oper} {env : List (Nat × AVal)} {objs : Writes} {acc : List Tr} {d : Nat} {t e et : TypeId} {x : Operand} {n kk len : Nat} {xs : List Int} (hg : o.guard = none) (hd : o.dst = some d) (ho : o.op = .convert t t x) (hx : (⟨env, objs⟩ : St).aop x = .own n kk len) (hn : (⟨env, objs⟩ : St).obj n = some (kk, .row et 1 (ints .u8 xs))) (hl : len = xs.length) (h0 : 0 < xs.length) (ht : P.underlying t = some (.slice e)) (he : P.underlying e = some (.int .u8))
    (r : RunK P k ops N draw os ⟨(d, .ro (ints .u8 xs)) :: env, (n, none) :: objs⟩ (⟨.ro (ints .u8 xs), [(n, none)], [n], []⟩ :: acc) C) : RunK P k ops N draw (o :: os) ⟨env, objs⟩ acc C :=
  runk hg hd (opok_convK ho hx hn hl h0 ht he) r
/-- A contract that answers a value and leaves what was there. -/
theorem spec_below {P : Program} {f : FuncId} {args : List AVal} {u : Value} (h : ∀ (ψ : Ghost) (prot : Nat → Prop) (w : World) (cargs : Array Value), (∀ b, prot b → b < w.heap.size) → cargs.size = args.length → (∀ (i : Nat) (x : AVal) (v : Value), args[i]? = some x → cargs[i]? = some v → VRel ψ prot w x v) →
    Calls P f cargs w fun e w' => e = .returned u ∧ Below w.heap.size w w') : Spec P f args [] (.val u) [] := by
  intro ψ prot w cargs _ hrh hsz hargs
  refine Calls.mono (h ψ prot w cargs (fun b hb => (hrh.pr b hb).1) hsz hargs) ?_
  rintro e w' ⟨rfl, hb⟩
  exact ⟨u, ψ, prot, rfl, ⟨hb.os, hb.tape, hb.output, hb.size, fun _ _ _ h => h, fun _ h => h, fun b hb' => ⟨unowned_nil.2 (Nat.lt_of_lt_of_le (unowned_nil.1 hb') hb.size), hb.block b (unowned_nil.1 hb')⟩, fun b hb' => .inl hb'⟩, rh_nil fun b hb' => Nat.lt_of_lt_of_le (hrh.pr b hb').1 hb.size, .val _⟩
theorem ro_plain {ψ : Ghost} {prot : Nat → Prop} {k : IntKind} {w : World} {xs : List Int} {A : Option Addr} {n c : Nat} (h : VRel ψ prot w (.ro (ints k xs)) (.slice A n c)) (h0 : 0 < n) : ∃ b o, A = some ⟨b, o, none⟩ := by
  rcases h.ro_inv with ⟨-, a0, c0, hv, -⟩ | ⟨vs, b, off, cap, hv, -⟩
  · injection hv with _ e2 _; omega
  · injection hv with e1 _ _; exact ⟨b, off, e1⟩
/-- The cells of a row, by their numbers. -/
theorem lies_cells {k : IntKind} {w : World} {A : Option Addr} {xs : List Int} {n : Nat} (hn : xs.length = n) (hl : Lies w.heap.size A (xs.map (Value.int k)) w) (hp : 0 < n → ∃ b o, A = some ⟨b, o, none⟩) (h0 : 0 < n) : ∃ b o, A = some ⟨b, o, none⟩ ∧ ∀ i, i < n → w.cell? ⟨b, o + i, none⟩ = some (.int k (xs.getD i 0)) := by
  obtain ⟨b, o, rfl⟩ := hp h0
  refine ⟨b, o, rfl, fun i hi => ?_⟩
  obtain ⟨ad, v, h1, -, h3, h4⟩ := hl i (by simp; omega)
  injection h1 with h1
  subst h1
  rw [addr_add0] at h4
  rw [h4]
  have hi2 : i < xs.length := by omega
  rw [List.getElem?_map, List.getElem?_eq_getElem hi2] at h3
  simp only [Option.map_some, Option.some.injEq] at h3
  rw [← h3, List.getD_eq_getElem?_getD, List.getElem?_eq_getElem hi2]; rfl
/-- A contract on two rows of numbers. -/
theorem spec_lies2 {P : Program} {f : FuncId} {k1 k2 : IntKind} {xs ys : List Int} {u : Value}
    (h : ∀ (w : World) (A B : Option Addr) (n c m d : Nat), xs.length = n → ys.length = m → n ≤ c → m ≤ d → (0 < n → ∃ b o, A = some ⟨b, o, none⟩) → (0 < m → ∃ b o, B = some ⟨b, o, none⟩) → Lies w.heap.size A (xs.map (Value.int k1)) w → Lies w.heap.size B (ys.map (Value.int k2)) w → Calls P f #[.slice A n c, .slice B m d] w fun e w' => e = .returned u ∧ Below w.heap.size w w') :
    Spec P f [.ro (ints k1 xs), .ro (ints k2 ys)] [] (.val u) [] :=
  spec_below fun ψ prot w cargs hk hsz hargs => by
    have hs2 : cargs.size = 2 := by simpa using hsz
    obtain ⟨A, n, c, hu, hn, hc, -, hl⟩ := ro_lies hk (hargs 0 _ cargs[0] rfl (by simp [hs2]))
    obtain ⟨B, m, d, hu2, hm, hd, -, hl2⟩ := ro_lies hk (hargs 1 _ cargs[1] rfl (by simp [hs2]))
    obtain rfl : cargs = #[.slice A n c, .slice B m d] := by
      apply Array.ext
      · simpa using hs2
      · intro i h1 h2
        have : i = 0 ∨ i = 1 := by simp at h2; omega
        rcases this with rfl | rfl
        · simpa using hu
        · simpa using hu2
    have k1 := hargs 0 _ _ rfl rfl
    have k2 := hargs 1 _ _ rfl rfl
    exact h w A B n c m d hn hm hc hd (ro_plain k1) (ro_plain k2) hl hl2
/-- A contract that answers a row of its own, and a value. -/
theorem spec_belowT {P : Program} {f : FuncId} {args : List AVal} {u : Value} {t : TypeId} {k : IntKind} {xs : List Int} {n : Nat} (hn : xs.length = n) (h : ∀ (ψ : Ghost) (prot : Nat → Prop) (w : World) (cargs : Array Value), (∀ b, prot b → b < w.heap.size) → cargs.size = args.length → (∀ (i : Nat) (x : AVal) (v : Value), args[i]? = some x → cargs[i]? = some v → VRel ψ prot w x v) →
    Calls P f cargs w fun e w' => ∃ v, e = .returned (.tuple #[v, u]) ∧ w'.ownsRow w.heap.size t 1 v n (xs.map (Value.int k)) ∧ Below w.heap.size w w') : Spec P f args [] (.tuple [.ro (ints k xs), .val u]) [] := by
  intro ψ prot w cargs _ hrh hsz hargs
  have hk : ∀ b, prot b → b < w.heap.size := fun b hb => (hrh.pr b hb).1
  refine Calls.mono (h ψ prot w cargs hk hsz hargs) ?_
  rintro e w' ⟨v, rfl, ho, hb⟩
  have hlt : ∀ b, v.ownBlock = some b → w.heap.size ≤ b ∧ b < w'.heap.size := fun b hb => ho.lt b hb
  refine ⟨.tuple #[v, u], ψ, fun b => prot b ∨ v.ownBlock = some b, rfl, ⟨hb.os, hb.tape, hb.output, hb.size, fun _ _ _ h => h, fun _ h => .inl h, fun b hb' => ⟨unowned_nil.2 (Nat.lt_of_lt_of_le (unowned_nil.1 hb') hb.size), hb.block b (unowned_nil.1 hb')⟩, fun b hb' => ?_⟩, rh_nil fun b hb' => ?_, .tuple _ _ rfl fun i x v' h1 h2 => ?_⟩
  · rcases hb' with hb' | hb'
    · exact .inl hb'
    · exact .inr fun hu => Nat.lt_irrefl _ (Nat.lt_of_lt_of_le (unowned_nil.1 hu) (hlt b hb').1)
  · rcases hb' with hb' | hb'
    · exact Nat.lt_of_lt_of_le (hk b hb') hb.size
    · exact (hlt b hb').2
  · match i with
    | 0 => simp at h1 h2; subst h1; subst h2; exact ro_fresh ho hn
    | 1 => simp at h1 h2; subst h1; subst h2; exact .val _
    | i + 2 => simp at h1
end Go.Proofs.Ytlehkllcbedkhaa

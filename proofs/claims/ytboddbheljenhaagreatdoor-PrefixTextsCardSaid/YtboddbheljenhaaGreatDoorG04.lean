/-
  Rows that are handed out beside another value. No program is named here.
-/
import Derived.Test.YtboddbheljenhaaGreatDoorAbsC
import Derived.Test.YtboddbheljenhaaGreatDoorProg
import Derived.LaidMore
import Derived.LaidLaws
import Derived.HandedShaped
import Derived.Stop.LaidErr
import Derived.Stop.Joined
import Derived.Lib.LaidTab
import Derived.Shelf.Vars
import Derived.Lib.TrailingZeros
import Derived.WalkKit
import Derived.ProofKit
import Derived.OpenShut
import Derived.Below
import Derived.Carry
import Derived.Test.YtboddbheljenhaaGreatDoorG03
import Derived.Laws.IdiomStrings
namespace Go.Proofs.YtboddbheljenhaaGreatDoor
open Go.RowKit
def roundsA (P : Program) (N : Nat) (ini : Ini) (c : Code) (Q : Exit → St → Prop) : Nat → St → Prop
  | 0, _ => False
  | n + 1, st => Awp P N ini c (andThen (roundsA P N ini c Q n) Q) st
theorem awp_rounds {P : Program} {N : Nat} {ini : Ini} {c : Code} {Q : Exit → St → Prop} {st : St} (n : Nat) (h : roundsA P N ini c Q n st) : Awp P N ini (.loop c) Q st := by
  intro a w r b k cs
  have key : ∀ n st, roundsA P N ini c Q n st → ∀ a w, R N ini st a w → ∃ e a' w', (∃ st', R N ini st' a' w' ∧ Q e st') ∧ Arrives P (lone (b.at a (.code c :: .inLoop c :: k)) cs w) b k cs e a' w' := by
    intro n
    induction n with
    | zero => intro st h; exact h.elim
    | succ n ih =>
      intro st h a w r
      obtain ⟨e, a₁, w₁, ⟨st₁, r₁, hq⟩, harr⟩ := h a w r b (.inLoop c :: k) cs
      cases e with
      | normal =>
        obtain ⟨e₂, a₂, w₂, hq₂, harr₂⟩ := ih st₁ hq a₁ w₁ r₁
        exact ⟨e₂, a₂, w₂, hq₂, .of_steps (Steps.trans harr (.one step_inLoop)) harr₂⟩
      | exit id => exact ⟨_, a₁, w₁, ⟨st₁, r₁, hq⟩, .pass (x := .inLoop c) rfl (fun _ _ => .inl (by simp)) harr⟩
      | goto l => exact ⟨_, a₁, w₁, ⟨st₁, r₁, hq⟩, .pass (x := .inLoop c) rfl (fun _ _ => .inl (by simp)) harr⟩
      | ret => exact ⟨_, a₁, w₁, ⟨st₁, r₁, hq⟩, .pass (x := .inLoop c) rfl (fun _ _ => .inl (by simp)) harr⟩
      | panic ch => exact ⟨_, a₁, w₁, ⟨st₁, r₁, hq⟩, .pass (x := .inLoop c) rfl (fun _ _ => .inl (by simp)) harr⟩
      | outgrown => exact ⟨_, a₁, w₁, ⟨st₁, r₁, hq⟩, .pass (x := .inLoop c) rfl (fun _ _ => .inl (by simp)) harr⟩
  obtain ⟨e, a', w', hq, harr⟩ := key n st h a w r
  exact ⟨e, a', w', hq, .of_steps (.one step_loop) harr⟩
theorem Spec.frz2 {P : Program} {f : FuncId} {args : List AVal} {t : TypeId} {k : IntKind} {len : Nat} {xs : List Int} {u : Value} (h : Spec P f args [] (.tuple [.own 1000 0 len, .val u]) [(1000, some (0, .row t 1 (ints k xs)))]) (hl : len = xs.length) : Spec P f args [] (.tuple [.ro (ints k xs), .val u]) [] := by
  subst hl
  intro ψ prot w cargs hgh hrh hsz hargs
  refine Calls.mono (h ψ prot w cargs hgh hrh hsz hargs) ?_
  rintro e w' ⟨cv, ψ', prot', rfl, q1, q2, q3⟩
  obtain ⟨us, rfl, hus, hvs⟩ : ∃ us : Array Value, cv = .tuple us ∧ us.size = 2 ∧ ∀ (i : Nat) (x : AVal) (v : Value), [AVal.own 1000 0 xs.length, .val u][i]? = some x → us[i]? = some v → VRel ψ' prot' w' x v := by
    cases q3 with
    | tuple _ us h1 h2 => exact ⟨us, rfl, h1, h2⟩
  have h0 := hvs 0 _ us[0] rfl (Array.getElem?_eq_getElem (by omega))
  have h1 := hvs 1 _ us[1] rfl (Array.getElem?_eq_getElem (by omega))
  obtain ⟨loc, hv, hψ⟩ := h0.own_inv
  obtain ⟨loc', g1, g2⟩ := q2.live 1000 0 (.row t 1 (ints k xs)) rfl
  rw [hψ] at g1; injection g1 with g1; subst g1
  have hown : ∀ b, loc.block = some b → ¬ unowned ψ (updW (fun _ => none) []) w b := fun b hb hu => (q1.un b hu).1.2 1000 0 _ loc rfl hψ hb
  have g2' := g2
  obtain ⟨ys, g3, g4⟩ := g2
  refine ⟨.tuple us, ψ', fun b => prot' b ∨ loc.block = some b, rfl, ⟨q1.os, q1.tape, q1.output, q1.size, q1.gh, fun b hb => .inl (q1.pr b hb), fun b hb => ⟨unowned_nil.2 (q1.un b hb).1.1, (q1.un b hb).2⟩, fun b hb => ?_⟩, rh_nil fun b hb => hb.elim (fun h => (q2.pr b h).1) (fun h => g2'.inside b h), ?_⟩
  · exact hb.elim (fun h => q1.new b h) fun h => .inr (hown b h)
  · refine .tuple _ us hus fun i x v e1 e2 => ?_
    match i, e1, e2 with
    | 0, e1, e2 =>
      cases e1
      rw [Array.getElem?_eq_getElem (by omega)] at e2
      injection e2 with e2; subst e2
      rw [hv]
      have e := ro_row (ψ := ψ') (prot := prot') (t := t) (sz := 1) (es := ints k xs) (bl := loc.block) (cap := loc.cap) (w := w') g3 g4
      rw [length_ints] at e
      exact e
    | 1, e1, e2 =>
      cases e1
      rw [Array.getElem?_eq_getElem (by omega)] at e2
      injection e2 with e2; subst e2
      exact h1.mono (fun _ _ _ h => h) fun b hb => ⟨.inl hb, rfl⟩
    | _ + 2, e1, e2 => cases e1
end Go.Proofs.YtboddbheljenhaaGreatDoor
namespace Go.Proofs.YtboddbheljenhaaGreatDoor
open Go.RowKit
section
variable {P : Program} {k : Nat} {st : St} {o : Oper}
theorem opok_newro {v : AVal} (h : ∀ (ψ : Ghost) (prot : Nat → Prop) (w : World) (ρ : Operand → Value), (∀ x ∈ o.op.operands, VRel ψ prot w (st.aop x) (ρ x)) → (∀ b, prot b → b < w.heap.size) → ∃ cv ob', (execOp ρ o).run P w = .ok (.value cv) (w.alloc ob') ∧
      VRel ψ (fun b => prot b ∨ b = w.heap.size) (w.alloc ob') v cv) : OpOk P k st o ⟨v, [], [], []⟩ := by
  refine ⟨fun n hn => by simp [Writes.names] at hn, fun ψ prot obj w ρ _ hx r _ => ?_⟩
  obtain ⟨cv, ob', h1, h2⟩ := h ψ prot w ρ hx fun b hb => (r.pr b hb).1
  rw [h1]
  have hheap : ∀ b, b < w.heap.size → (w.alloc ob').heap[b]? = w.heap[b]? := fun b hb => Below.heap_alloc w ob' b hb
  have hsz : (w.alloc ob').heap.size = w.heap.size + 1 := by simp
  have hobj : updW obj ([] : Writes) = obj := by funext n; rfl
  have hkeep : ∀ b, prot b → (prot b ∨ b = w.heap.size) ∧ (w.alloc ob').heap[b]? = w.heap[b]? := fun b hb => ⟨.inl hb, hheap b (r.pr b hb).1⟩
  refine ⟨ψ, fun b => prot b ∨ b = w.heap.size, ?_, ?_, h2, fun n j hne => .inl hne⟩
  · show Evolve ψ prot obj w ψ _ (updW obj ([] : Writes)) (w.alloc ob')
    rw [hobj]
    exact ⟨rfl, rfl, rfl, by omega, fun _ _ _ h => h, fun b hb => .inl hb, fun b hb => ⟨⟨by have := hb.1; omega, hb.2⟩, hheap b hb.1⟩, fun b hb => hb.elim .inl fun h => .inr fun hu => by have := hu.1; omega⟩
  · show RH ψ _ (updW obj ([] : Writes)) (w.alloc ob')
    rw [hobj]
    refine ⟨fun n j ob h => ?_, r.inj, fun b hb => ?_⟩
    · obtain ⟨loc, q1, q2⟩ := r.live n j ob h
      exact ⟨loc, q1, q2.mono (fun _ _ _ h => h) hkeep fun b hb => hheap b (q2.inside b hb)⟩
    · rcases hb with hb | hb
      · exact ⟨by have := (r.pr b hb).1; omega, (r.pr b hb).2⟩
      · refine ⟨by omega, fun n j ob loc q1 q2 q3 => ?_⟩
        obtain ⟨loc', q4, q5⟩ := r.live n j ob q1
        rw [q2] at q4; injection q4 with q4; subst q4
        have := q5.inside b q3
        omega
theorem opok_box_ro {t : TypeId} {x : Operand} {v : AVal} {cs : List AVal} (ho : o.op = .box t x) (hx : st.aop x = v) (hk : v.known = true) (hcs : v.flat = cs) : OpOk P k st o ⟨.rref cs, [], [], []⟩ :=
  opok_newro fun ψ prot w ρ hr hlt => by
    have h1 := hx ▸ hr x (by simp [ho, Op.operands])
    have h2 := h1.flat hk
    rw [hcs] at h2
    have hnew := heap_alloc_new w (.cells (ρ x).cells t (0, 0))
    refine ⟨.pointer (some ⟨w.heap.size, 0, none⟩), .cells (ρ x).cells t (0, 0), by simp only [execOp, ho, Instr.box, newVar, newRow, Sem.run_bind, Sem.run_pure, Result.andThen_ok, run_newObj_], ?_⟩
    refine .rref cs (ρ x).cells.toList w.heap.size 0 (.inr rfl) h2.1 (fun i u hu => ?_) fun i y u e1 e2 => (h2.2 i y u e1 e2).mono (fun _ _ _ h => h) fun b hb => ⟨.inl hb, Below.heap_alloc w _ b (hlt b hb)⟩
    rw [Nat.zero_add, cell_of_row _ _ i (ρ x).cells t (0, 0) (by simpa using hnew)]
    simpa using hu
theorem opok_loadRA2 {t : TypeId} {p : Operand} {cs : List AVal} {m : Nat} (ho : o.op = .load t p) (hp : st.aop p = .rref cs) (ht : aggType P t = true) (hs : sizeIs P t m) (hm : cs.length = m) : OpOk P k st o ⟨.agg cs, [], [], []⟩ := by
  subst hm
  exact opok_loadRA ho hp ht hs
theorem opok_arrRo {t e : TypeId} {n : Nat} {x : Operand} {cs : List AVal} (ho : o.op = .slice t x none none none) (hx : st.aop x = .rref cs) (hu : P.underlying t = some (.array n e)) (hs : sizeIs P e 1) (hn : cs.length = n) (hf : cs.flatMap AVal.flat = cs) : OpOk P k st o ⟨.ro cs, [], [], []⟩ :=
  opok_quiet fun ψ prot obj w ρ _ hr _ => by
    have e1 := hx ▸ hr x (by simp [ho, Op.operands])
    obtain ⟨vs, b, off, hpv, hpr, ⟨hl, hv⟩, hcc⟩ := e1.rref_inv
    subst hn
    refine ⟨.slice (some ⟨b, off, none⟩) cs.length cs.length, ?_, .ro cs vs b off cs.length (Nat.le_refl _) hpr (by rw [hf]; exact hl) hcc (by rw [hf]; exact hv)⟩
    have ea : (⟨b, off, none⟩ : Addr).add 0 = ⟨b, off, none⟩ := by rw [addr_add0]; rfl
    simp [execOp, ho, hpv, Instr.sliceAt, Instr.sliceBounds, Instr.sureAddr, run_underlying hu, run_sizeIs hs, ea, go_sem]
end
end Go.Proofs.YtboddbheljenhaaGreatDoor
namespace Go.Proofs.YtboddbheljenhaaGreatDoor
open Go.RowKit
theorem laidVars_mem {P : Program} {w : World} {n : String} {d : DataW Unit} : ∀ {l : List (String × DataW Unit)} {ps : List MemPlace}, DataW.LaidVars P w l ps → (n, d) ∈ l →
    ∃ g t cs fuel p, P.globalNamed n = some g ∧ (P.globals[g]?).map (·.type) = some t ∧ w.var? P n = some cs ∧ DataW.trod (fun _ => ()) P w 0 (fun _ => true) false fuel t cs.toList = some (d, p) ∧ List.Sublist (MemPlace.row ⟨g, 0, none⟩ cs.size ++ p) ps
  | [], _, _, hm => by cases hm
  | (n', d') :: r, ps, h, hm => by
    obtain ⟨g, t, cs, fuel, p, q, h1, h2, h3, h4, h5, h6⟩ := h
    rcases List.mem_cons.1 hm with e | hm
    · injection e with e1 e2
      subst e1; subst e2; subst h6
      exact ⟨g, t, cs, fuel, p, h1, h2, h3, h4, List.sublist_append_left _ _⟩
    · obtain ⟨g', t', cs', fuel', p', k1, k2, k3, k4, k5⟩ := laidVars_mem h5 hm
      subst h6
      exact ⟨g', t', cs', fuel', p', k1, k2, k3, k4, k5.trans (List.sublist_append_right _ _)⟩
theorem laidMet_one {P : Program} {w : World} {n : String} {d : DataW Unit} {l : List (String × DataW Unit)} (h : laidMet P l w) (hm : (n, d) ∈ l) : laidMet P [(n, d)] w := by
  obtain ⟨ps, hv, hnd, hrows⟩ := h
  obtain ⟨g, t, cs, fuel, p, k1, k2, k3, k4, k5⟩ := laidVars_mem hv hm
  refine ⟨MemPlace.row ⟨g, 0, none⟩ cs.size ++ p ++ [], ⟨g, t, cs, fuel, p, [], k1, k2, k3, k4, rfl, rfl⟩, ?_, fun b off hb => hrows b off (k5.subset (by simpa using hb))⟩
  rw [List.append_nil]
  exact List.Nodup.sublist k5 hnd
theorem returnsInHanded_of_laid {H : Type} {enc : TypeId × Value → H} {a : Assume} {C : Checked} {os : Os} {f : FuncId} {fn : Func} {s : ChangeSpec} {conds : List PathCond} {apart fresh handsOn again : Bool} {X : World → Array Value → Prop}
    (hX : ∀ (w w' : World) (args : Array Value), w.heap = w'.heap → X w args → X w' args)
    (own : ownKnob C.prog.godebug = none) (started : os.Started) (noInit : C.prog.inits.idxOf? f = none) (hfn : C.prog.funcs[f]? = some fn)
    (witness : ∃ (w : World) (tape : Tape) (i : Input), w.os = os ∧ (w.forCall tape i).Shaped C.prog ∧ i.vars = [] ∧ Input.okWide C.prog (w.forCall tape i) .any w.heap.size f i ∧
      ((s.pre enc C.prog fn conds apart (w.forCall tape i).memory i.args ∧ X (w.forCall tape i).memory i.args) ∧ sizedMet enc C.prog fn (OpenSpec.ofChange s) apart (w.forCall tape i).memory i.args) ∧ a.holds C.prog (lone (Frame.enter C.prog f i.args .normal) [] (w.forCall tape i)))
    (contract : ∀ (W : World) (base : Nat) (args : Array Value) (ds gs : List (DataW H)) (before : List MemPlace),
      (∀ (j : Nat) t v, fn.params[j]? = some t → args[j]? = some v → Value.okWide C.prog W .any base t v) →
      DataW.Whole enc C.prog fn.params.toList s.vars apart W args.toList ds gs before →
      X W args → W.ShapedOpen C.prog →
      Calls C.prog f args W fun e W' => ∃ v, e = .returned v ∧ s.post enc C.prog fn apart fresh handsOn again W args v W') :
    ReturnsInHanded a C os f .any (fun w args => (s.pre enc C.prog fn conds apart w args ∧ X w args) ∧ sizedMet enc C.prog fn (OpenSpec.ofChange s) apart w args) (s.post enc C.prog fn apart fresh handsOn again) := by
  refine returnsInHanded_of_calls own started noInit witness ?_
  intro w tape i _ hsh _ hok hpre hholds
  obtain ⟨_, _, _, fn', hfn', _, _, _, _, hval⟩ := hok
  have e : fn' = fn := Option.some.inj (hfn'.symm.trans hfn)
  subst e
  obtain ⟨⟨⟨ds, gs, before, hw, hc⟩, hx⟩, hz⟩ := hpre
  have hw' := DataW.Whole.of_heap (w' := w.forCall tape i) (by rfl) hw
  refine (contract (w.forCall tape i) w.heap.size i.args ds gs before hval hw' (hX _ _ _ (by rfl) hx) hsh).mono fun e W' ⟨v, he, hp⟩ => ?_
  subst he
  exact ChangeSpec.post_blind hp
theorem var_cells {P : Program} {w : World} {n : String} {g : Nat} {cs : Array Value} (hg : P.globalNamed n = some g) (hv : w.var? P n = some cs) : ∃ t fr, w.heap[g]? = some (.cells cs t fr) := by
  unfold World.var? at hv
  rw [hg] at hv
  simp only [Option.bind_some] at hv
  split at hv
  · rename_i c t fr e
    injection hv with hv
    subst hv
    exact ⟨t, fr, e⟩
  · cases hv
theorem star_err : "*" ++ "errors.errorString" = "*errors.errorString" := by decide
theorem row_err (u : TypeId) (h : Tryz.prog.typeName? 3 u = some "*errors.errorString") : u = 155 :=
  typeName_ptr_named (nm := "errors.errorString") (by rw [star_err]; kernel_rfl) (by kernel_rfl) (by decide) u (by rw [star_err]; exact h)
theorem varsOk_of {l : List (String × DataW Unit)} {W : World} (hL : laidMet Tryz.prog l W) (hS : W.ShapedOpen Tryz.prog)
  (hp : ("internal/strconv.uint64pow10", Lib.tabData .u64 Lib.pow10Tab) ∈ l)
  (hs : ("strconv.ErrSyntax", DataW.iface "*errors.errorString" (.ptr (.agg [.lit (.string [105, 110, 118, 97, 108, 105, 100, 32, 115, 121, 110, 116, 97, 120])]))) ∈ l)
  (hr : ("strconv.ErrRange", DataW.iface "*errors.errorString" (.ptr (.agg [.lit (.string [118, 97, 108, 117, 101, 32, 111, 117, 116, 32, 111, 102, 32, 114, 97, 110, 103, 101])]))) ∈ l)
  (hd : ("math/bits.deBruijn64tab", Lib.tabData .u8 (Lib.deBruijn64tab.map fun n : Nat => (n : Int))) ∈ l)
  : VarsOk (· < W.heap.size) W := by
  intro x hx
  have inside : ∀ {g : Nat} {o : Obj}, W.heap[g]? = some o → g < W.heap.size := fun h => (Array.getElem?_eq_some_iff.1 h).1
  have hm : x ∈ varWants := hx
  simp only [varWants, List.nil_append, List.append_assoc, List.cons_append, List.mem_cons, List.not_mem_nil, or_false] at hm
  rcases hm with hm | hm
  · have hg : Tryz.prog.globalNamed "internal/strconv.uint64pow10" = some 1 := by kernel_rfl
    have ht := Lib.tabIs_of_head (g := 1) (t := 140) (e := 22) (n := 20) hg (by kernel_rfl) (by kernel_rfl) (by kernel_rfl) (by kernel_rfl) (by kernel_rfl) (laidMet_one hL hp)
    obtain ⟨t, fr, hh⟩ := var_cells hg ht
    subst hm
    exact ⟨inside hh, _, t, fr, hh, rfl⟩
  rcases hm with hm | hm
  · have hg : Tryz.prog.globalNamed "strconv.ErrSyntax" = some 2 := by kernel_rfl
    obtain ⟨a, s, hv, -, -, -⟩ := laid_sentinel (laidMet_one hL hs) hg (ti := 85) (by kernel_rfl) (ms := Tryz.prog.methodsAt 85) (by kernel_rfl) (tp := 155) row_err (te := 157) (by kernel_rfl) Tryz.underlying157 rfl rfl Tryz.underlying9 (by kernel_rfl) (by kernel_rfl)
    obtain ⟨t, fr, hh⟩ := var_cells hg hv
    subst hm
    exact ⟨inside hh, _, t, fr, hh, _, _, rfl⟩
  rcases hm with hm | hm
  · have hg : Tryz.prog.globalNamed "strconv.ErrRange" = some 3 := by kernel_rfl
    obtain ⟨a, s, hv, -, -, -⟩ := laid_sentinel (laidMet_one hL hr) hg (ti := 85) (by kernel_rfl) (ms := Tryz.prog.methodsAt 85) (by kernel_rfl) (tp := 155) row_err (te := 157) (by kernel_rfl) Tryz.underlying157 rfl rfl Tryz.underlying9 (by kernel_rfl) (by kernel_rfl)
    obtain ⟨t, fr, hh⟩ := var_cells hg hv
    subst hm
    exact ⟨inside hh, _, t, fr, hh, _, _, rfl⟩
  rcases hm with hm | hm
  · have hg : Tryz.prog.globalNamed "math/bits.deBruijn64tab" = some 5 := by kernel_rfl
    have ht := Lib.tabIs_of_head (g := 5) (t := 162) (e := 5) (n := 64) hg (by kernel_rfl) (by kernel_rfl) (by kernel_rfl) (by kernel_rfl) (by kernel_rfl) (laidMet_one hL hd)
    obtain ⟨t, fr, hh⟩ := var_cells hg ht
    subst hm
    exact ⟨inside hh, _, t, fr, hh, rfl⟩
  · obtain ⟨cs, hh, hsz, -⟩ := hS.1 0 #[.int .i64 0] 3 (by decide +kernel) (by kernel_rfl)
    obtain ⟨m, hc⟩ := cell_of_shapedOpen_int (zero := #[.int .i64 0]) (t := 3) (k := .i64) hS (by decide +kernel) (show ((begin Tryz.prog (fun _ _ => 0) default).world.heap[0]?).bind Obj.row? = some (#[.int .i64 0], 3) by kernel_rfl) rfl (by kernel_rfl) (by kernel_rfl) (by kernel_rfl)
    subst hm
    refine ⟨inside hh, cs, _, _, hh, m, ?_⟩
    have h1 : cs.size = 1 := hsz
    have h2 : cs[0]? = some (.int .i64 m) := by have := hc; simp only [World.cell?, hh] at this; exact this
    apply Array.ext
    · simpa using h1
    · intro i q1 q2
      have hi : i = 0 := by omega
      subst hi
      rw [Array.getElem?_eq_getElem q1] at h2
      injection h2
end Go.Proofs.YtboddbheljenhaaGreatDoor
namespace Go.Proofs.YtboddbheljenhaaGreatDoor
open Go.ChangeShapes Go.WideShapes Go.ChangeAt Go.RowKit

section
variable {H : Type} {enc : TypeId × Value → H} {P : Program}

theorem args_same (hl : laidOutB P = true) {W W' : World} (hb : Below W.heap.size W W') :
    ∀ {ts : List TypeId} {vs : List Value} {ds : List (DataW H)} {ps : List MemPlace}, ts.all (fun t => P.readableRec t && decide (t < P.types.size)) = true →
      DataW.TrodAll enc P W 0 (fun _ => true) true ts vs ds ps → (∀ x ∈ ps, x.block < W.heap.size) → DataW.TrodAll enc P W' 0 (fun b => decide (b < W.heap.size)) true ts vs ds ps
  | [], [], [], _, _, h, _ => h
  | t :: ts, v :: vs, d :: ds, ps, hr, h, hlt => by
    obtain ⟨p, q, h1, h2, rfl⟩ := h
    simp only [List.all_cons, Bool.and_eq_true, decide_eq_true_eq] at hr
    exact ⟨p, q, Below.trod hl hr.1.1 hr.1.2 h1 hb (fun x hx => hlt x (by simp [hx])), args_same hl hb hr.2 h2 (fun x hx => hlt x (by simp [hx])), rfl⟩
  | [], _ :: _, _, _, _, h, _ => h.elim
  | [], [], _ :: _, _, _, h, _ => h.elim
  | _ :: _, [], _, _, _, h, _ => h.elim
  | _ :: _, _ :: _, [], _, _, h, _ => h.elim

theorem law_post {f : Func} {s : ChangeSpec} {apart : Bool} {W W' : World} {args : Array Value} {ds : List (DataW H)} {before p : List MemPlace} {tb : TypeId}
    (hW : DataW.Whole enc P f.params.toList s.vars apart W args.toList ds [] before)
    (hA : DataW.TrodAll enc P W 0 (fun _ => true) true f.params.toList args.toList ds p) (hbf : before = p) (hv : s.vars = [])
    (hs : s.fn H (ds ++ []) = { results := [.lit (.bool true)], args := ds }) (hr : f.resultTypes = #[tb]) (htb : P.underlying tb = some .bool)
    (hl : laidOutB P = true) (hrow : f.params.toList.all (fun t => P.readableRec t && decide (t < P.types.size)) = true)
    (hb : Below W.heap.size W W') : s.post enc P f apart true false false W args (.bool true) W' := by
  have hlt : ∀ x ∈ before, x.block < W.heap.size := fun x hx => hW.lt x hx
  refine ⟨ds, [], before, [], p, [], hW, ?_, ?_, ?_, World.keptBut_mono (fun x hx => ⟨hx, .inr (.inl (hbf ▸ hx))⟩) (hb.frame (· ∈ before)), fun h => by cases h⟩
  · rw [hs, hr]
    exact trodAll_cons_mk (p := []) (p' := []) (shut_bool htb _) trodAll_mk0
  · rw [hs]
    exact args_same hl hb hrow hA (fun x hx => hlt x (hbf ▸ hx))
  · rw [hs, hv]; rfl
end
end Go.Proofs.YtboddbheljenhaaGreatDoor
namespace Go.Proofs.YtboddbheljenhaaGreatDoor
open Go.RowKit
end Go.Proofs.YtboddbheljenhaaGreatDoor
namespace Go.Proofs.YtboddbheljenhaaGreatDoor
open Go.RowKit
section
variable {P : Program} {k : Nat} {st : St} {o : Oper}
theorem opok_indexP {t e : TypeId} {x ix : Operand} {n kk off N sz : Nat} {kd : IntKind} {i : Int} (ho : o.op = .indexAddr t x ix) (hx : st.aop x = .ptr n kk off) (hi : st.aop ix = .val (.int kd i)) (ht : P.underlying t = some (.array N e)) (hs : sizeIs P e sz) (h0 : 0 ≤ i) (h1 : i < N) : OpOk P k st o ⟨.ptr n kk (off + i.toNat * sz), [], [], []⟩ :=
  opok_quiet fun ψ prot obj w ρ _ hr _ => by
    have e1 := hx ▸ hr x (by simp [ho, Op.operands])
    have e2 := (hi ▸ hr ix (by simp [ho, Op.operands]) : VRel ψ prot w (.val (.int kd i)) (ρ ix)).val_eq
    obtain ⟨b, cap, hpv, h⟩ := e1.ptr_inv
    refine ⟨.pointer (some ⟨b, off + i.toNat * sz, none⟩), ?_, .ptr n kk _ b cap h⟩
    simp [execOp, ho, hpv, e2, Instr.indexAt, asIntOf, run_underlying ht, Instr.sureAddr, run_sizeIs hs, h0, h1, addr_add0, go_sem]
theorem opok_ixv {t : TypeId} {x ix : Operand} {u v cv : Value} (ho : o.op = .index t x ix) (hx : st.aop x = .val u) (hi : st.aop ix = .val v) (h : ∀ w, (Instr.index t u v).run P w = .ok cv w) : OpOk P k st o ⟨.val cv, [], [], []⟩ :=
  opok_quiet fun ψ prot obj w ρ _ hr _ => by
    have e1 := (hx ▸ hr x (by simp [ho, Op.operands]) : VRel ψ prot w (.val u) (ρ x)).val_eq
    have e2 := (hi ▸ hr ix (by simp [ho, Op.operands]) : VRel ψ prot w (.val v) (ρ ix)).val_eq
    refine ⟨cv, ?_, .val _⟩
    simp only [execOp, ho, e1, e2, Sem.run_bind, h w, Result.andThen_ok, Sem.run_pure]
theorem opok_lenS {x : Operand} {t : TypeId} {u : ByteArray} (ho : o.op = .call { callee := .builtin .len, args := #[x], argTypes := #[t] }) (hx : st.aop x = .val (.string u)) (ht : P.underlying t = some .string) : OpOk P k st o ⟨.val (.int .i64 u.size), [], [], []⟩ :=
  opok_quiet fun ψ prot obj w ρ _ hr _ => by
    have h1 := (hx ▸ hr x (by simp [ho, Op.operands, Call.operands]) : VRel ψ prot w (.val (.string u)) (ρ x)).val_eq
    exact ⟨.int .i64 u.size, by simp [execOp, ho, resolve, invoke, builtin, h1, Builtin.len_, run_underlying ht, goInt, Result.andThen], .val _⟩
theorem setCells_one {cs : List AVal} {off : Nat} {v : AVal} (h : off < cs.length) : setCells cs off [v] = cs.set off v := by
  rw [List.set_eq_take_append_cons_drop, if_pos h]
  simp [setCells]
variable {ops : Array Oper} {N : Nat} {draw : Bool} {K : St → Prop} {os : List Oper} {env : List (Nat × AVal)} {objs : Writes} {acc : List Tr}
theorem runk_storeI {t bt : TypeId} {p x : Operand} {n kk off : Nat} {cs cs' : List AVal} {u : Value} (hg : o.guard = none) (hd : o.dst = none) (ho : o.op = .store t p x) (hp : (⟨env, objs⟩ : St).aop p = .ptr n kk off) (hn : (⟨env, objs⟩ : St).obj n = some (kk, .box bt cs)) (hx : (⟨env, objs⟩ : St).aop x = .val u)
    (hfs : (AVal.val u).flat = [.val u]) (h1 : ([AVal.val u].all AVal.one) = true) (hs : sizeIs P t 1) (hf : off < cs.length) (hcs : cs.set off (.val u) = cs')
    (r : RunK P k ops N draw os ⟨env, (n, some (kk, .box bt cs')) :: objs⟩ (⟨.any, [(n, some (kk, .box bt cs'))], [n], []⟩ :: acc) K) : RunK P k ops N draw (o :: os) ⟨env, objs⟩ acc K :=
  runkN hg hd (opok_store ho hp hn hx rfl hfs h1 hs (by simp; omega) ((setCells_one hf).trans hcs)) r
end
end Go.Proofs.YtboddbheljenhaaGreatDoor
namespace Go.Proofs.YtboddbheljenhaaGreatDoor
open Go.RowKit
section
variable {P : Program} {k : Nat} {st : St} {o : Oper}
theorem opok_newroD {v : AVal} (h : ∀ (ψ : Ghost) (prot : Nat → Prop) (w : World) (ρ : Operand → Value), (∀ x ∈ o.op.operands, VRel ψ prot w (st.aop x) (ρ x)) → (∀ b, prot b → b < w.heap.size) → ∃ cv ob', (execOp ρ o).run P w = .ok (.value cv) (w.drew.alloc ob') ∧
      VRel ψ (fun b => prot b ∨ b = w.heap.size) (w.drew.alloc ob') v cv) : OpOk P k st o ⟨v, [], [], []⟩ := by
  refine ⟨fun n hn => by simp [Writes.names] at hn, fun ψ prot obj w ρ _ hx r _ => ?_⟩
  obtain ⟨cv, ob', h1, h2⟩ := h ψ prot w ρ hx fun b hb => (r.pr b hb).1
  rw [h1]
  have hheap : ∀ b, b < w.heap.size → (w.drew.alloc ob').heap[b]? = w.heap[b]? := fun b hb => Below.heap_alloc w.drew ob' b hb
  have hsz : (w.drew.alloc ob').heap.size = w.heap.size + 1 := by show (w.heap.push ob').size = _; simp
  have hobj : updW obj ([] : Writes) = obj := by funext n; rfl
  have hkeep : ∀ b, prot b → (prot b ∨ b = w.heap.size) ∧ (w.drew.alloc ob').heap[b]? = w.heap[b]? := fun b hb => ⟨.inl hb, hheap b (r.pr b hb).1⟩
  refine ⟨ψ, fun b => prot b ∨ b = w.heap.size, ?_, ?_, h2, fun n j hne => .inl hne⟩
  · show Evolve ψ prot obj w ψ _ (updW obj ([] : Writes)) (w.drew.alloc ob')
    rw [hobj]
    exact ⟨rfl, rfl, rfl, by omega, fun _ _ _ h => h, fun b hb => .inl hb, fun b hb => ⟨⟨by have := hb.1; omega, hb.2⟩, hheap b hb.1⟩, fun b hb => hb.elim .inl fun h => .inr fun hu => by have := hu.1; omega⟩
  · show RH ψ _ (updW obj ([] : Writes)) (w.drew.alloc ob')
    rw [hobj]
    refine ⟨fun n j ob h => ?_, r.inj, fun b hb => ?_⟩
    · obtain ⟨loc, q1, q2⟩ := r.live n j ob h
      exact ⟨loc, q1, q2.mono (fun _ _ _ h => h) hkeep fun b hb => hheap b (q2.inside b hb)⟩
    · rcases hb with hb | hb
      · exact ⟨by have := (r.pr b hb).1; omega, (r.pr b hb).2⟩
      · refine ⟨by omega, fun n j ob loc q1 q2 q3 => ?_⟩
        obtain ⟨loc', q4, q5⟩ := r.live n j ob q1
        rw [q2] at q4; injection q4 with q4; subst q4
        have := q5.inside b q3
        omega
theorem opok_convB {s t e : TypeId} {x : Operand} {zs : List Int} (ho : o.op = .convert s t x) (hx : st.aop x = .val (.string (strOfNums zs))) (hs : P.underlying s = some .string) (ht : P.underlying t = some (.slice e)) (he : P.underlying e = some (.int .u8)) (hz : ∀ z ∈ zs, 0 ≤ z ∧ z < 256) : OpOk P k st o ⟨.ro (ints .u8 zs), [], [], []⟩ :=
  opok_newroD fun ψ prot w ρ hr hlt => by
    have e1 := (hx ▸ hr x (by simp [ho, Op.operands]) : VRel ψ prot w (.val (.string (strOfNums zs))) (ρ x)).val_eq
    have hrun := run_bytes_of_string w s t e (strOfNums zs) hs ht he
    have hsz := strOfNums_size zs
    have hcap : zs.length ≤ grownCap w (strOfNums zs).size 0 e := by
      rw [← hsz]
      exact grownCap_ge w _ 0 e
    generalize grownCap w (strOfNums zs).size 0 e = cap at hrun hcap
    refine ⟨.slice (some ⟨w.heap.size, 0, none⟩) (strOfNums zs).size cap, .cells (bytesRow (strOfNums zs) cap) e ((bytesRow (strOfNums zs) cap).size, (bytesRow (strOfNums zs) cap).size + 1), by simp only [execOp, ho, e1, Sem.run_bind, hrun, Result.andThen_ok, Sem.run_pure], ?_⟩
    have hlen : (ints IntKind.u8 zs).length = (strOfNums zs).size := by rw [length_ints, hsz]
    rw [← hlen]
    refine VRel.ro (ints .u8 zs) (zs.map (Value.int .u8)) w.heap.size 0 cap (by rw [length_ints]; exact hcap) (.inr rfl) (by rw [flat_ints]; simp) (fun i v hi => ?_) fun i x v h1 h2 => ?_
    · have hi2 : i < zs.length := by
        rcases Nat.lt_or_ge i zs.length with h | h
        · exact h
        · rw [List.getElem?_eq_none (by simpa using h)] at hi; cases hi
      have hb := hz zs[i] (List.getElem_mem hi2)
      have hv : (bytesRow (strOfNums zs) cap)[0 + i]? = some v := by
        rw [Nat.zero_add]
        have hd : (strOfNums zs).data.size = zs.length := hsz
        unfold bytesRow
        rw [Array.getElem?_append_left (by simp; omega), Array.getElem?_map, Array.getElem?_eq_getElem (by omega)]
        rw [List.getElem?_eq_getElem (by simpa using hi2)] at hi
        simp only [List.getElem_map, Option.some.injEq] at hi
        subst hi
        simp only [Option.map_some, Option.some.injEq, strOfNums, List.getElem_toArray, List.getElem_map]
        congr 1
        simp
        omega
      have hh : (w.drew.alloc (.cells (bytesRow (strOfNums zs) cap) e ((bytesRow (strOfNums zs) cap).size, (bytesRow (strOfNums zs) cap).size + 1))).heap[w.heap.size]? = some (.cells (bytesRow (strOfNums zs) cap) e ((bytesRow (strOfNums zs) cap).size, (bytesRow (strOfNums zs) cap).size + 1)) := by
        show (w.heap.push _)[w.heap.size]? = _
        simp
      simp only [World.cell?, hh]
      exact hv
    · rw [flat_ints] at h1
      exact (vrels_zeros .u8 zs).2 i x v h1 h2
end
end Go.Proofs.YtboddbheljenhaaGreatDoor

/-
  Operations that write, slices, literals, by states. No program is named here.
-/
import Derived.Test.YtojapodjlpffdaaAbsMem
namespace Go.Proofs.Ytojapodjlpffdaa
open Go.RowKit

def setCells (cs : List AVal) (off : Nat) (fs : List AVal) : List AVal := cs.take off ++ fs ++ cs.drop (off + fs.length)
theorem run_storeVar_at {P : Program} {t t' : TypeId} {w : World} {b off : Nat} {vs : List Value} {v : Value} (hb : w.heap[b]? = some (.cells vs.toArray t' (0, 0))) (hs : sizeIs P t v.cells.size) (hf : off + v.cells.size ≤ vs.length) (h1 : ∀ u ∈ v.cells.toList, u.oneCell' = true) :
    (storeVar t ⟨b, off, none⟩ v).run P w = .ok () (w.setRow b (vs.take off ++ v.cells.toList ++ vs.drop (off + v.cells.size)).toArray) := by
  have h := run_storeCells_at (P := P) b off t' v.cells.toList 0 vs.toArray w hb (by simpa using hf) h1
  simp only [Nat.add_zero] at h
  have e : ∀ i, storeCells ⟨b, off, none⟩ v.cells.toList i = storeCells ⟨b, off, none⟩ v.cells.toList i := fun _ => rfl
  simp only [storeVar, run_sizeIs hs, Sem.run_bind, Result.andThen_ok, ne_eq, not_true_eq_false, if_false]
  rw [h]
  simp
section
variable {P : Program} {k : Nat} {st : St} {o : Oper}
theorem opok_store {t bt : TypeId} {p x : Operand} {n kk off : Nat} {cs fs cs' : List AVal} {v : AVal} (ho : o.op = .store t p x) (hp : st.aop p = .ptr n kk off) (hn : st.obj n = some (kk, .box bt cs)) (hx : st.aop x = v) (hk : v.known = true) (hfs : v.flat = fs)
    (h1 : fs.all AVal.one = true) (hs : sizeIs P t fs.length) (hf : off + fs.length ≤ cs.length) (hcs : setCells cs off fs = cs') : OpOk P k st o ⟨.any, [(n, some (kk, .box bt cs'))], [n], []⟩ := by
  subst hcs
  refine ⟨fun m hm => by simpa [Writes.names] using hm, fun ψ prot obj w ρ hob hr r _ => ?_⟩
  have e1 := hp ▸ hr p (by simp [ho, Op.operands])
  have e2 := (hx ▸ hr x (by simp [ho, Op.operands]) : VRel ψ prot w v (ρ x)).flat hk
  rw [hfs] at e2
  have hnn := (hob n (by simp)).trans hn
  obtain ⟨loc, h2, h3⟩ := r.live n kk _ hnn
  obtain ⟨b, cap, hpv, h⟩ := e1.ptr_inv
  rw [h2] at h; injection h with h; subst h
  obtain ⟨b', vs, h4, h5, h6⟩ := h3
  injection h4 with h4; subst h4
  have hl : (ρ x).cells.size = fs.length := by simpa using e2.1
  have hrun := run_storeVar_at (P := P) (t := t) (off := off) (v := ρ x) h5 (by rw [hl]; exact hs) (by rw [hl, h6.1]; exact hf) (e2.one (by simpa using h1))
  have hr' : (execOp ρ o).run P w = .ok .skip (w.setRow b (vs.take off ++ (ρ x).cells.toList ++ vs.drop (off + (ρ x).cells.size)).toArray) := by
    simp only [execOp, ho, hpv, Instr.storeAt, Instr.sureAddr, Sem.run_bind, Sem.run_pure, Result.andThen_ok, hrun]
  rw [hr']
  have hoth : ∀ c, c < w.heap.size → (some b : Option Nat) ≠ some c → (w.setRow b (vs.take off ++ (ρ x).cells.toList ++ vs.drop (off + (ρ x).cells.size)).toArray).heap[c]? = w.heap[c]? := fun c _ hc => setRow_other w b c _ (fun e => hc (by rw [e]))
  have hbn : ¬ prot b := fun hpb => (r.pr b hpb).2 n kk _ _ hnn h2 rfl
  have hkeep : ∀ c, prot c → prot c ∧ (w.setRow b (vs.take off ++ (ρ x).cells.toList ++ vs.drop (off + (ρ x).cells.size)).toArray).heap[c]? = w.heap[c]? := fun c hc => ⟨hc, setRow_other w b c _ (fun e => hbn (e ▸ hc))⟩
  obtain ⟨g1, g2⟩ := evolve_store (w' := w.setRow b (vs.take off ++ (ρ x).cells.toList ++ vs.drop (off + (ρ x).cells.size)).toArray) r n kk _ (.box bt (setCells cs off fs)) _ hnn h2 rfl rfl rfl (by simp [World.setRow]) hoth
    ⟨b, _, rfl, setRow_heap w b _ _ _ _ h5, VRels.mono (by rw [hl]; exact ((h6.take off).append e2).append (h6.drop (off + fs.length))) (fun _ _ _ h => h) hkeep⟩
  exact ⟨ψ, prot, g1, g2, .any _, fun m j hne => .inl hne⟩

/-! ### Slices -/
theorem opok_len_own {x : Operand} {t : TypeId} {n kk len : Nat} {e : TypeId} (ho : o.op = .call { callee := .builtin .len, args := #[x], argTypes := #[t] }) (hx : st.aop x = .own n kk len) (ht : P.underlying t = some (.slice e)) : OpOk P k st o ⟨.val (.int .i64 len), [], [], []⟩ :=
  opok_quiet fun ψ prot obj w ρ _ hr _ => by
    have h1 := hx ▸ hr x (by simp [ho, Op.operands, Call.operands])
    obtain ⟨loc, hv, _⟩ := h1.own_inv
    exact ⟨.int .i64 len, by simp [execOp, ho, resolve, invoke, builtin, hv, Builtin.len_, run_underlying ht, goInt, Result.andThen], .val _⟩
theorem opok_len_ro {x : Operand} {t : TypeId} {es : List AVal} {e : TypeId} (ho : o.op = .call { callee := .builtin .len, args := #[x], argTypes := #[t] }) (hx : st.aop x = .ro es) (ht : P.underlying t = some (.slice e)) : OpOk P k st o ⟨.val (.int .i64 es.length), [], [], []⟩ :=
  opok_quiet fun ψ prot obj w ρ _ hr _ => by
    have h1 := hx ▸ hr x (by simp [ho, Op.operands, Call.operands])
    rcases h1.ro_inv with ⟨rfl, a0, c0, hv, _⟩ | ⟨vs, b, off, cap, hv, _⟩
    · exact ⟨.int .i64 0, by simp [execOp, ho, resolve, invoke, builtin, hv, Builtin.len_, run_underlying ht, goInt, Result.andThen], .val _⟩
    · exact ⟨.int .i64 es.length, by simp [execOp, ho, resolve, invoke, builtin, hv, Builtin.len_, run_underlying ht, goInt, Result.andThen], .val _⟩

/-- Where the i-th element's cells are. -/
theorem flat_at {sz : Nat} : ∀ {es : List AVal}, (∀ e ∈ es, e.flat.length = sz) → ∀ (i : Nat) (x : AVal), es[i]? = some x → ((es.flatMap AVal.flat).drop (i * sz)).take sz = x.flat ∧ i * sz + sz ≤ (es.flatMap AVal.flat).length
  | [], _, i, x, h => by simp at h
  | e :: es, hs, i, x, h => by
    have he := hs e List.mem_cons_self
    cases i with
    | zero =>
      simp only [List.getElem?_cons_zero, Option.some.injEq] at h
      subst h
      simp only [List.flatMap_cons, Nat.zero_mul, List.drop_zero, List.length_append, he, Nat.zero_add]
      exact ⟨by rw [← he, List.take_left], by omega⟩
    | succ i =>
      simp only [List.getElem?_cons_succ] at h
      obtain ⟨h1, h2⟩ := flat_at (fun e he => hs e (List.mem_cons_of_mem _ he)) i x h
      have e2 : (i + 1) * sz = e.flat.length + i * sz := by rw [he, Nat.add_mul]; omega
      simp only [List.flatMap_cons, List.length_append, he]
      constructor
      · rw [e2, List.drop_append, Nat.add_sub_cancel_left, List.drop_of_length_le (by omega), List.nil_append]
        exact h1
      · rw [Nat.add_mul]; omega
def widths (sz : Nat) (es : List AVal) : Bool := es.all fun e => e.flat.length == sz
theorem widths_spec {sz : Nat} {es : List AVal} (h : widths sz es = true) : ∀ e ∈ es, e.flat.length = sz := fun e he => by
  have := (List.all_eq_true.1 h) e he
  simpa using this
theorem run_index {P : Program} {t e : TypeId} {kd : IntKind} {i : Int} {b off len cap sz : Nat} (w : World) (ht : P.underlying t = some (.slice e)) (hs : sizeIs P e sz) (h0 : 0 ≤ i) (h1 : i < len) :
    (Instr.indexAt t (.slice (some ⟨b, off, none⟩) len cap) (.int kd i)).run P w = .ok (.pointer (some ⟨b, off + i.toNat * sz, none⟩)) w := by
  simp [Instr.indexAt, asIntOf, run_underlying ht, h0, h1, run_sizeIs hs, addr_add0, go_sem]
theorem opok_index_ro {t e : TypeId} {x ix : Operand} {es : List AVal} {kd : IntKind} {i : Int} {sz : Nat} {y : AVal} (ho : o.op = .indexAddr t x ix) (hx : st.aop x = .ro es) (hi : st.aop ix = .val (.int kd i)) (ht : P.underlying t = some (.slice e)) (hs : sizeIs P e sz)
    (hw : widths sz es = true) (h0 : 0 ≤ i) (hy : es[i.toNat]? = some y) : OpOk P k st o ⟨.rref y.flat, [], [], []⟩ :=
  opok_quiet fun ψ prot obj w ρ _ hr _ => by
    have e1 := hx ▸ hr x (by simp [ho, Op.operands])
    have e2 := (hi ▸ hr ix (by simp [ho, Op.operands]) : VRel ψ prot w (.val (.int kd i)) (ρ ix)).val_eq
    have hlt : i.toNat < es.length := (List.getElem?_eq_some_iff.1 hy).1
    rcases e1.ro_inv with ⟨rfl, _⟩ | ⟨vs, b, off, cap, hv, hp, h4, h5, hcp⟩
    · simp at hlt
    · obtain ⟨f1, f2⟩ := flat_at (widths_spec hw) _ _ hy
      have h6 := (h4.drop (i.toNat * sz)).take sz
      rw [f1] at h6
      refine ⟨.pointer (some ⟨b, off + i.toNat * sz, none⟩), ?_, .rref _ _ b _ hp h6.1 (fun j u hj => ?_) h6.2⟩
      · simp only [execOp, ho, hv, e2, run_index w ht hs h0 (show i < es.length by omega), Sem.run_bind, Sem.run_pure, Result.andThen_ok]
      · rw [List.getElem?_take] at hj
        split at hj
        · rw [List.getElem?_drop] at hj
          rw [Nat.add_assoc]; exact h5 _ u hj
        · cases hj
theorem opok_index_own {t e : TypeId} {x ix : Operand} {n kk len : Nat} {t' : TypeId} {sz' : Nat} {es : List AVal} {kd : IntKind} {i : Int} {sz : Nat} (ho : o.op = .indexAddr t x ix) (hx : st.aop x = .own n kk len) (hn : st.obj n = some (kk, .row t' sz' es)) (hi : st.aop ix = .val (.int kd i)) (ht : P.underlying t = some (.slice e)) (hs : sizeIs P e sz)
    (h0 : 0 ≤ i) (h1 : i < len) (hl : len = es.length) : OpOk P k st o ⟨.ptr n kk (i.toNat * sz), [], [n], []⟩ :=
  opok_quiet fun ψ prot obj w ρ hob hr r => by
    have e1 := hx ▸ hr x (by simp [ho, Op.operands])
    have e2 := (hi ▸ hr ix (by simp [ho, Op.operands]) : VRel ψ prot w (.val (.int kd i)) (ρ ix)).val_eq
    obtain ⟨loc, hv, hψ⟩ := e1.own_inv
    obtain ⟨loc', g1, g2⟩ := r.live n kk _ ((hob n (by simp)).trans hn)
    rw [hψ] at g1; injection g1 with g1; subst g1
    obtain ⟨xs, g3, _⟩ := g2
    cases hb : loc.block with
    | none =>
      rw [hb] at g3
      rcases g3.2 with ⟨_, h⟩ | ⟨g, c, cur, h, _⟩
      · omega
      · cases h
    | some b =>
      refine ⟨.pointer (some ⟨b, i.toNat * sz, none⟩), ?_, .ptr n kk _ b loc.cap (by rw [hψ]; cases loc; simp_all)⟩
      have := run_index (P := P) (kd := kd) (b := b) (off := 0) (cap := loc.cap) w ht hs h0 h1
      rw [Nat.zero_add] at this
      simp only [execOp, ho, hv, hb, e2, Option.map_some, this, Sem.run_bind, Sem.run_pure, Result.andThen_ok]

theorem opok_extract {x : Operand} {ix : Nat} {vs : List AVal} {y : AVal} (ho : o.op = .extract x ix) (hx : st.aop x = .tuple vs) (hy : vs[ix]? = some y) : OpOk P k st o ⟨y, [], [], []⟩ :=
  opok_quiet fun ψ prot obj w ρ _ hr _ => by
    have e1 := hx ▸ hr x (by simp [ho, Op.operands])
    cases hxv : ρ x <;> rw [hxv] at e1 <;> cases e1
    rename_i us hl hv
    have hlt : ix < us.size := by rw [hl]; exact (List.getElem?_eq_some_iff.1 hy).1
    have hu : us[ix]? = some us[ix] := Array.getElem?_eq_getElem hlt
    exact ⟨us[ix], by simp only [execOp, ho, hxv, Instr.extract, hu, Sem.run_bind, Sem.run_pure, Result.andThen_ok], hv ix y _ hy hu⟩
/-- A part of a struct. -/
theorem opok_field {s : TypeId} {x : Operand} {f : Nat} {cs : List AVal} {fs : Array Field} {fd : Field} {y : AVal} (ho : o.op = .field s x f) (hx : st.aop x = .agg cs) (hu : P.underlying s = some (.struct fs)) (hf : fs[f]? = some fd) (ht : plainType P fd.type = true) (hy : cs[fd.offset]? = some y) :
    OpOk P k st o ⟨y, [], [], []⟩ :=
  opok_quiet fun ψ prot obj w ρ _ hr _ => by
    have e1 := hx ▸ hr x (by simp [ho, Op.operands])
    obtain ⟨us, hxv, hl, hv⟩ := e1.aggs
    have hlt : fd.offset < us.size := by rw [← Array.length_toList, hl]; exact (List.getElem?_eq_some_iff.1 hy).1
    have hu' : us[fd.offset]? = some us[fd.offset] := Array.getElem?_eq_getElem hlt
    refine ⟨us[fd.offset], ?_, hv _ y _ hy (by simp)⟩
    simp only [execOp, ho, hxv, Instr.field, run_underlying hu, hf, asAgg, part, (run_isAgg (P := P) w).1 ht, hu', Sem.run_bind, Sem.run_pure, Result.andThen_ok, if_false, Bool.false_eq_true]
theorem opok_fieldA {s : TypeId} {x : Operand} {f m : Nat} {cs xs : List AVal} {fs : Array Field} {fd : Field} (ho : o.op = .field s x f) (hx : st.aop x = .agg cs) (hu : P.underlying s = some (.struct fs)) (hf : fs[f]? = some fd) (ht : aggType P fd.type = true) (hs : sizeIs P fd.type m)
    (hy : (cs.drop fd.offset).take m = xs) : OpOk P k st o ⟨.agg xs, [], [], []⟩ :=
  opok_quiet fun ψ prot obj w ρ _ hr _ => by
    have e1 := hx ▸ hr x (by simp [ho, Op.operands])
    obtain ⟨us, hxv, h2⟩ := e1.aggs
    have h6 := (h2.drop fd.offset).take m
    rw [hy] at h6
    refine ⟨.agg (us.extract fd.offset (fd.offset + m)), ?_, VRels.agg (by simpa [List.extract_eq_take_drop] using h6)⟩
    simp only [execOp, ho, hxv, Instr.field, run_underlying hu, hf, asAgg, part, (run_isAgg (P := P) w).2 ht, run_sizeIs hs, Sem.run_bind, Sem.run_pure, Result.andThen_ok, if_true]
/-- A part of a slice that nobody writes. -/
theorem run_bound {P : Program} (w : World) (kd : IntKind) (n y : Nat) (c : BoundsCode) (h : n ≤ y) : (Instr.sliceBound (.int kd n) y c).run P w = .ok n w := by
  simp [Instr.sliceBound, asIntOf, h, go_sem]
def boundIs (st : St) (x : Option Operand) (dflt n : Nat) : Prop := (x = none ∧ n = dflt) ∨ ∃ y kd, x = some y ∧ st.aop y = .val (.int kd n)
theorem run_slice {P : Program} {t e : TypeId} {a : Option Addr} {len cap sz lo hi : Nat} {lo' hi' : Option Value} (w : World) (ht : P.underlying t = some (.slice e)) (hs : sizeIs P e sz) (hlo : lo' = none ∧ lo = 0 ∨ ∃ kd, lo' = some (.int kd lo)) (hhi : hi' = none ∧ hi = len ∨ ∃ kd, hi' = some (.int kd hi)) (h1 : lo ≤ hi) (h2 : hi ≤ cap) :
    (Instr.sliceAt t (.slice a len cap) lo' hi' none).run P w = .ok (.slice (if cap = lo then a else a.map (·.add (lo * sz))) (hi - lo) (cap - lo)) w := by
  rcases hlo with ⟨rfl, rfl⟩ | ⟨kd, rfl⟩ <;> rcases hhi with ⟨rfl, rfl⟩ | ⟨kd', rfl⟩ <;>
    simp [Instr.sliceAt, Instr.slice, Instr.sliceBounds, run_underlying ht, run_sizeIs hs, run_bound, h1, h2, go_sem]
theorem mid_flat {sz : Nat} {es : List AVal} (hw : ∀ e ∈ es, e.flat.length = sz) (lo m : Nat) : ((es.drop lo).take m).flatMap AVal.flat = ((es.flatMap AVal.flat).drop (lo * sz)).take (m * sz) := by
  have hd : ∀ (es : List AVal), (∀ e ∈ es, e.flat.length = sz) → ∀ lo, (es.drop lo).flatMap AVal.flat = (es.flatMap AVal.flat).drop (lo * sz) := by
    intro es
    induction es with
    | nil => intro _ lo; simp
    | cons e es ih =>
      intro hw lo
      have he := hw e List.mem_cons_self
      cases lo with
      | zero => simp
      | succ lo =>
        have e2 : (lo + 1) * sz = e.flat.length + lo * sz := by rw [he, Nat.add_mul]; omega
        simp only [List.drop_succ_cons, List.flatMap_cons, e2, List.drop_append, Nat.add_sub_cancel_left]
        rw [List.drop_eq_nil_of_le (Nat.le_add_right e.flat.length (lo * sz)), List.nil_append]
        exact ih (fun e he => hw e (List.mem_cons_of_mem _ he)) lo
  have htk : ∀ (es : List AVal), (∀ e ∈ es, e.flat.length = sz) → ∀ m, (es.take m).flatMap AVal.flat = (es.flatMap AVal.flat).take (m * sz) := by
    intro es
    induction es with
    | nil => intro _ lo; simp
    | cons e es ih =>
      intro hw m
      have he := hw e List.mem_cons_self
      cases m with
      | zero => simp
      | succ m =>
        have e2 : (m + 1) * sz = e.flat.length + m * sz := by rw [he, Nat.add_mul]; omega
        simp only [List.take_succ_cons, List.flatMap_cons, e2, List.take_append, Nat.add_sub_cancel_left]
        rw [List.take_of_length_le (Nat.le_add_right e.flat.length (m * sz)), ih (fun e he => hw e (List.mem_cons_of_mem _ he)) m]
  rw [htk _ (fun e he => hw e (List.mem_of_mem_drop he)), hd es hw]
theorem opok_slice_ro {t e : TypeId} {x : Operand} {lo' hi' : Option Operand} {es es' : List AVal} (lo hi : Nat) {sz : Nat} (ho : o.op = .slice t x lo' hi' none) (hx : st.aop x = .ro es) (ht : P.underlying t = some (.slice e)) (hs : sizeIs P e sz)
    (hw : widths sz es = true) (hlo : boundIs st lo' 0 lo) (hhi : boundIs st hi' es.length hi) (h1 : lo ≤ hi) (h2 : hi ≤ es.length) (he : (es.drop lo).take (hi - lo) = es') : OpOk P k st o ⟨.ro es', [], [], []⟩ :=
  opok_quiet fun ψ prot obj w ρ _ hr r => by
    subst he
    have e1 := hx ▸ hr x (by simp [ho, Op.operands])
    have b1 : lo'.map ρ = none ∧ lo = 0 ∨ ∃ kd, lo'.map ρ = some (.int kd lo) := by
      rcases hlo with ⟨rfl, rfl⟩ | ⟨y, kd, rfl, hy⟩
      · exact .inl ⟨rfl, rfl⟩
      · refine .inr ⟨kd, ?_⟩
        have := (hy ▸ hr y (by simp [ho, Op.operands]) : VRel ψ prot w (.val (.int kd lo)) (ρ y)).val_eq
        simp [this]
    have b2 : ∀ len, len = es.length → (hi'.map ρ = none ∧ hi = len ∨ ∃ kd, hi'.map ρ = some (.int kd hi)) := fun len hlen => by
      subst hlen
      rcases hhi with ⟨rfl, rfl⟩ | ⟨y, kd, rfl, hy⟩
      · exact .inl ⟨rfl, rfl⟩
      · refine .inr ⟨kd, ?_⟩
        have := (hy ▸ hr y (by simp [ho, Op.operands]) : VRel ψ prot w (.val (.int kd hi)) (ρ y)).val_eq
        simp [this]
    rcases e1.ro_inv with ⟨rfl, a0, c0, hv, hnil⟩ | ⟨vs, b, off, cap, hv, hp, h4, h5, hcp⟩
    · obtain rfl : hi = 0 := by simpa using h2
      obtain rfl : lo = 0 := by omega
      have := run_slice (P := P) (a := a0) (len := 0) (cap := c0) w ht hs b1 (b2 0 rfl) (Nat.le_refl _) (Nat.zero_le _)
      refine ⟨_, by simp only [execOp, ho, hv, this, Sem.run_bind, Sem.run_pure, Result.andThen_ok, Option.map_none]; rfl, ?_⟩
      have hx := VRel.roNil (ψ := ψ) (prot := prot) (w := w) (if c0 = 0 then a0 else a0.map (·.add (0 * sz))) c0 (fun h => by
        split at h
        · exact hnil h
        · cases a0 with | none => exact hnil rfl | some a => cases h)
      simpa using hx
    · have hcap : hi ≤ cap := Nat.le_trans h2 hcp
      have := run_slice (P := P) (a := some ⟨b, off, none⟩) (len := es.length) (cap := cap) w ht hs b1 (b2 _ rfl) h1 hcap
      refine ⟨_, by simp only [execOp, ho, hv, this, Sem.run_bind, Sem.run_pure, Result.andThen_ok, Option.map_none]; rfl, ?_⟩
      have hlen : ((es.drop lo).take (hi - lo)).length = hi - lo := by simp; omega
      have h6 := (h4.drop (lo * sz)).take ((hi - lo) * sz)
      rw [← mid_flat (widths_spec hw)] at h6
      have hc : ∀ (i : Nat) (u : Value), ((vs.drop (lo * sz)).take ((hi - lo) * sz))[i]? = some u → w.cell? ⟨b, off + lo * sz + i, none⟩ = some u := fun i u hi => by
        rw [List.getElem?_take] at hi
        split at hi
        · rw [List.getElem?_drop] at hi
          rw [Nat.add_assoc]; exact h5 _ u hi
        · cases hi
      by_cases hcl : cap = lo
      · have h0 : hi - lo = 0 := by omega
        rw [if_pos hcl, h0]
        have := VRel.ro (ψ := ψ) (prot := prot) (w := w) [] [] b off (cap - lo) (by simp) hp rfl (fun i v h => by simp at h) (fun i x v h => by simp at h)
        simpa [h0] using this
      · rw [if_neg hcl]
        have := VRel.ro (ψ := ψ) (prot := prot) (w := w) ((es.drop lo).take (hi - lo)) _ b (off + lo * sz) (cap - lo) (by rw [hlen]; omega) hp h6.1 hc h6.2
        rw [hlen] at this
        simpa [addr_add0] using this
end
end Go.Proofs.Ytojapodjlpffdaa

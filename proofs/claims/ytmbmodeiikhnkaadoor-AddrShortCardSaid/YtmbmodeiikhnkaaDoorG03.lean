/-
  A law's last step, once for all laws: a call that returns true and turns nothing below the heap's old size gives the row's post, whatever the arguments' types. No program is named here.
-/
import Derived.WalkKit
import Derived.ProofKit
import Derived.OpenShut
import Derived.Below
import Derived.Carry
import Derived.Test.YtmbmodeiikhnkaaDoorAbsE
import Derived.Test.YtmbmodeiikhnkaaDoorG02
import Derived.Laws.IdiomStrings
namespace Go.Proofs.YtmbmodeiikhnkaaDoor
open Go.ChangeShapes Go.WideShapes Go.ChangeAt Go.RowKit

section
variable {H : Type} {enc : TypeId × Value → H} {P : Program}

/-- All arguments read as they did. -/
theorem args_same (hl : laidOutB P = true) {W W' : World} (hb : Below W.heap.size W W') :
    ∀ {ts : List TypeId} {vs : List Value} {ds : List (DataW H)} {ps : List MemPlace}, ts.all (fun t => P.readableRec t && decide (t < P.types.size)) = true →
      DataW.TrodAll enc P W 0 (fun _ => true) true ts vs ds ps → (∀ x ∈ ps, x.block < W.heap.size) → DataW.TrodAll enc P W' 0 (fun b => decide (b < W.heap.size)) true ts vs ds ps
  | [], [], [], _, _, h, _ => h
  | t :: ts, v :: vs, d :: ds, ps, hr, h, hlt => by
    obtain ⟨p, q, h1, h2, rfl⟩ := h
    simp only [List.all_cons, Bool.and_eq_true, decide_eq_true_eq] at hr
    exact ⟨p, q, Below.trod hl hr.1.1 hr.1.2 h1 hb (fun x hx => hlt x (by simp [hx])), args_same hl hb hr.2 h2 (fun x hx => hlt x (by simp [hx])), rfl⟩
  | [], _ :: _, _, _, _, h, _ => h.elim
  | [], [], _ :: _, _, _, h, _ => h.elim
  | _ :: _, [], _, _, _, h, _ => h.elim
  | _ :: _, _ :: _, [], _, _, h, _ => h.elim

theorem law_post {f : Func} {s : ChangeSpec} {apart : Bool} {W W' : World} {args : Array Value} {ds : List (DataW H)} {before p : List MemPlace} {tb : TypeId}
    (hW : DataW.Whole enc P f.params.toList s.vars apart W args.toList ds [] before)
    (hA : DataW.TrodAll enc P W 0 (fun _ => true) true f.params.toList args.toList ds p) (hbf : before = p) (hv : s.vars = [])
    (hs : s.fn H (ds ++ []) = { results := [.lit (.bool true)], args := ds }) (hr : f.resultTypes = #[tb]) (htb : P.underlying tb = some .bool)
    (hl : laidOutB P = true) (hrow : f.params.toList.all (fun t => P.readableRec t && decide (t < P.types.size)) = true)
    (hb : Below W.heap.size W W') : s.post enc P f apart true false false W args (.bool true) W' := by
  have hlt : ∀ x ∈ before, x.block < W.heap.size := fun x hx => hW.lt x hx
  refine ⟨ds, [], before, [], p, [], hW, ?_, ?_, ?_, World.keptBut_mono (fun x hx => ⟨hx, .inr (.inl (hbf ▸ hx))⟩) (hb.frame (· ∈ before)), fun h => by cases h⟩
  · rw [hs, hr]
    exact trodAll_cons_mk (p := []) (p' := []) (shut_bool htb _) trodAll_mk0
  · rw [hs]
    exact args_same hl hb hrow hA (fun x hx => hlt x (hbf ▸ hx))
  · rw [hs, hv]; rfl
end
end Go.Proofs.YtmbmodeiikhnkaaDoor
namespace Go.Proofs.YtmbmodeiikhnkaaDoor
open Go.RowKit
theorem opok_make_ro {P : Program} {k : Nat} {st : St} {o : Oper} {t e : TypeId} {l c : Operand} {K : IntKind} {m : Int} (ho : o.op = .makeSlice t l c) (hl : st.aop l = .val (.int .i64 m)) (hc : st.aop c = .val (.int .i64 m)) (ht : P.underlying t = some (.slice e))
    (hi : (P.info? e).map (fun i => (i.zero, i.size, i.bytes)) = some (some (.int K 0), 1, 1)) (h0 : 0 ≤ m) (h1 : m ≤ 16777216) :
    OpOk P k st o ⟨.ro (ints K (List.replicate m.toNat 0)), [], [], []⟩ :=
  opok_newro fun ψ prot w ρ hr hlt => by
    obtain ⟨i, hi0, hz0, hs0, hb0⟩ := info_parts hi
    have e1 := (hl ▸ hr l (by simp [ho, Op.operands])).val_eq
    have e2 := (hc ▸ hr c (by simp [ho, Op.operands])).val_eq
    have hrun := run_make (P := P) w t e i (.int K 0) ht hi0 hz0 .i64 .i64 m m h0 (Int.le_refl _) (by rw [hb0]; omega) (by omega)
    rw [hs0, Nat.mul_one] at hrun
    have ho1 := World.ownsRow_lit (base := 0) (size := 1) (e := e) w (madeCells (Value.cells (.int K 0)) m.toNat) m.toNat (Nat.zero_le _) (by unfold maxLen; omega) (by simp [size_madeCells])
    rw [made_zeros] at ho1
    refine ⟨.slice (some ⟨w.heap.size, 0, none⟩) m.toNat m.toNat, .cells (madeCells (Value.cells (.int K 0)) m.toNat) e (0, 0), by unfold execOp; simp only [ho, e1, e2, Sem.run_bind, hrun, Result.andThen_ok, Sem.run_pure], ?_⟩
    have el : (ints K (List.replicate m.toNat 0)).length = m.toNat := by simp
    have := ro_row (ψ := ψ) (prot := prot) (w := w.alloc (.cells (madeCells (Value.cells (.int K 0)) m.toNat) e (0, 0))) (t := e) (sz := 1) (cap := m.toNat) (bl := some w.heap.size) (es := ints K (List.replicate m.toNat 0)) (xs := (List.replicate m.toNat (0 : Int)).map (Value.int K)) (by rw [el]; exact ho1) (by rw [flat_ints]; exact vrels_zeros K _)
    rw [el] at this
    exact this.mono (fun _ _ _ h => h) fun b hb => ⟨hb.imp id fun h => by injection h with h; exact h.symm, rfl⟩
theorem runk_makeR {P : Program} {k : Nat} {ops : Array Oper} {N : Nat} {draw : Bool} {K : St → Prop} {o : Oper} {os : List Oper} {env : List (Nat × AVal)} {objs : Writes} {acc : List Tr} {d : Nat} {t e : TypeId} {l c : Operand} {J : IntKind} {m : Int} (hg : o.guard = none) (hd : o.dst = some d) (ho : o.op = .makeSlice t l c) (hl : (⟨env, objs⟩ : St).aop l = .val (.int .i64 m)) (hc : (⟨env, objs⟩ : St).aop c = .val (.int .i64 m)) (ht : P.underlying t = some (.slice e))
    (hs : sizeIs P e 1) (hz : (P.info? e).bind (·.zero) = some (.int J 0)) (hb : (P.info? e).map (·.bytes) = some 1) (h0 : 0 ≤ m) (h1 : m ≤ 16777216)
    (t : RunK P k ops N draw os ⟨(d, .ro (ints J (List.replicate m.toNat 0))) :: env, objs⟩ (⟨.ro (ints J (List.replicate m.toNat 0)), [], [], []⟩ :: acc) K) : RunK P k ops N draw (o :: os) ⟨env, objs⟩ acc K := by
  cases hi : P.info? e with
  | none => rw [hi] at hz; cases hz
  | some i =>
    unfold sizeIs at hs
    rw [hi] at hs hz hb
    have hz' : i.zero = some (.int J 0) := hz
    simp only [Option.map_some, Option.some.injEq] at hs hb
    exact runk0 hg hd (opok_make_ro (K := J) ho hl hc ht (by rw [hi]; simp [hs, hz', hb]) h0 h1) t
end Go.Proofs.YtmbmodeiikhnkaaDoor
namespace Go.Proofs.YtmbmodeiikhnkaaDoor
open Go.RowKit
section
variable {P : Program} {k : Nat} {st : St} {o : Oper}
theorem opok_indexP {t e : TypeId} {x ix : Operand} {n kk off N sz : Nat} {kd : IntKind} {i : Int} (ho : o.op = .indexAddr t x ix) (hx : st.aop x = .ptr n kk off) (hi : st.aop ix = .val (.int kd i)) (ht : P.underlying t = some (.array N e)) (hs : sizeIs P e sz) (h0 : 0 ≤ i) (h1 : i < N) : OpOk P k st o ⟨.ptr n kk (off + i.toNat * sz), [], [], []⟩ :=
  opok_quiet fun ψ prot obj w ρ _ hr _ => by
    have e1 := hx ▸ hr x (by simp [ho, Op.operands])
    have e2 := (hi ▸ hr ix (by simp [ho, Op.operands]) : VRel ψ prot w (.val (.int kd i)) (ρ ix)).val_eq
    obtain ⟨b, cap, hpv, h⟩ := e1.ptr_inv
    refine ⟨.pointer (some ⟨b, off + i.toNat * sz, none⟩), ?_, .ptr n kk _ b cap h⟩
    simp [execOp, ho, hpv, e2, Instr.indexAt, asIntOf, run_underlying ht, Instr.sureAddr, run_sizeIs hs, h0, h1, addr_add0, go_sem]
theorem opok_ixv {t : TypeId} {x ix : Operand} {u v cv : Value} (ho : o.op = .index t x ix) (hx : st.aop x = .val u) (hi : st.aop ix = .val v) (h : ∀ w, (Instr.index t u v).run P w = .ok cv w) : OpOk P k st o ⟨.val cv, [], [], []⟩ :=
  opok_quiet fun ψ prot obj w ρ _ hr _ => by
    have e1 := (hx ▸ hr x (by simp [ho, Op.operands]) : VRel ψ prot w (.val u) (ρ x)).val_eq
    have e2 := (hi ▸ hr ix (by simp [ho, Op.operands]) : VRel ψ prot w (.val v) (ρ ix)).val_eq
    refine ⟨cv, ?_, .val _⟩
    simp only [execOp, ho, e1, e2, Sem.run_bind, h w, Result.andThen_ok, Sem.run_pure]
theorem opok_lenS {x : Operand} {t : TypeId} {u : ByteArray} (ho : o.op = .call { callee := .builtin .len, args := #[x], argTypes := #[t] }) (hx : st.aop x = .val (.string u)) (ht : P.underlying t = some .string) : OpOk P k st o ⟨.val (.int .i64 u.size), [], [], []⟩ :=
  opok_quiet fun ψ prot obj w ρ _ hr _ => by
    have h1 := (hx ▸ hr x (by simp [ho, Op.operands, Call.operands]) : VRel ψ prot w (.val (.string u)) (ρ x)).val_eq
    exact ⟨.int .i64 u.size, by simp [execOp, ho, resolve, invoke, builtin, h1, Builtin.len_, run_underlying ht, goInt, Result.andThen], .val _⟩
theorem setCells_one {cs : List AVal} {off : Nat} {v : AVal} (h : off < cs.length) : setCells cs off [v] = cs.set off v := by
  rw [List.set_eq_take_append_cons_drop, if_pos h]
  simp [setCells]
variable {ops : Array Oper} {N : Nat} {draw : Bool} {K : St → Prop} {os : List Oper} {env : List (Nat × AVal)} {objs : Writes} {acc : List Tr}
theorem runk_storeI {t bt : TypeId} {p x : Operand} {n kk off : Nat} {cs cs' : List AVal} {u : Value} (hg : o.guard = none) (hd : o.dst = none) (ho : o.op = .store t p x) (hp : (⟨env, objs⟩ : St).aop p = .ptr n kk off) (hn : (⟨env, objs⟩ : St).obj n = some (kk, .box bt cs)) (hx : (⟨env, objs⟩ : St).aop x = .val u)
    (hfs : (AVal.val u).flat = [.val u]) (h1 : ([AVal.val u].all AVal.one) = true) (hs : sizeIs P t 1) (hf : off < cs.length) (hcs : cs.set off (.val u) = cs')
    (r : RunK P k ops N draw os ⟨env, (n, some (kk, .box bt cs')) :: objs⟩ (⟨.any, [(n, some (kk, .box bt cs'))], [n], []⟩ :: acc) K) : RunK P k ops N draw (o :: os) ⟨env, objs⟩ acc K :=
  runkN hg hd (opok_store ho hp hn hx rfl hfs h1 hs (by simp; omega) ((setCells_one hf).trans hcs)) r
end
end Go.Proofs.YtmbmodeiikhnkaaDoor
namespace Go.Proofs.YtmbmodeiikhnkaaDoor
open Go.RowKit
section
variable {P : Program} {k : Nat} {st : St} {o : Oper}
theorem opok_newroD {v : AVal} (h : ∀ (ψ : Ghost) (prot : Nat → Prop) (w : World) (ρ : Operand → Value), (∀ x ∈ o.op.operands, VRel ψ prot w (st.aop x) (ρ x)) → (∀ b, prot b → b < w.heap.size) → ∃ cv ob', (execOp ρ o).run P w = .ok (.value cv) (w.drew.alloc ob') ∧
      VRel ψ (fun b => prot b ∨ b = w.heap.size) (w.drew.alloc ob') v cv) : OpOk P k st o ⟨v, [], [], []⟩ := by
  refine ⟨fun n hn => by simp [Writes.names] at hn, fun ψ prot obj w ρ _ hx r _ => ?_⟩
  obtain ⟨cv, ob', h1, h2⟩ := h ψ prot w ρ hx fun b hb => (r.pr b hb).1
  rw [h1]
  have hheap : ∀ b, b < w.heap.size → (w.drew.alloc ob').heap[b]? = w.heap[b]? := fun b hb => Below.heap_alloc w.drew ob' b hb
  have hsz : (w.drew.alloc ob').heap.size = w.heap.size + 1 := by show (w.heap.push ob').size = _; simp
  have hobj : updW obj ([] : Writes) = obj := by funext n; rfl
  have hkeep : ∀ b, prot b → (prot b ∨ b = w.heap.size) ∧ (w.drew.alloc ob').heap[b]? = w.heap[b]? := fun b hb => ⟨.inl hb, hheap b (r.pr b hb).1⟩
  refine ⟨ψ, fun b => prot b ∨ b = w.heap.size, ?_, ?_, h2, fun n j hne => .inl hne⟩
  · show Evolve ψ prot obj w ψ _ (updW obj ([] : Writes)) (w.drew.alloc ob')
    rw [hobj]
    exact ⟨rfl, rfl, rfl, by omega, fun _ _ _ h => h, fun b hb => .inl hb, fun b hb => ⟨⟨by have := hb.1; omega, hb.2⟩, hheap b hb.1⟩, fun b hb => hb.elim .inl fun h => .inr fun hu => by have := hu.1; omega⟩
  · show RH ψ _ (updW obj ([] : Writes)) (w.drew.alloc ob')
    rw [hobj]
    refine ⟨fun n j ob h => ?_, r.inj, fun b hb => ?_⟩
    · obtain ⟨loc, q1, q2⟩ := r.live n j ob h
      exact ⟨loc, q1, q2.mono (fun _ _ _ h => h) hkeep fun b hb => hheap b (q2.inside b hb)⟩
    · rcases hb with hb | hb
      · exact ⟨by have := (r.pr b hb).1; omega, (r.pr b hb).2⟩
      · refine ⟨by omega, fun n j ob loc q1 q2 q3 => ?_⟩
        obtain ⟨loc', q4, q5⟩ := r.live n j ob q1
        rw [q2] at q4; injection q4 with q4; subst q4
        have := q5.inside b q3
        omega
theorem opok_convB {s t e : TypeId} {x : Operand} {zs : List Int} (ho : o.op = .convert s t x) (hx : st.aop x = .val (.string (strOfNums zs))) (hs : P.underlying s = some .string) (ht : P.underlying t = some (.slice e)) (he : P.underlying e = some (.int .u8)) (hz : ∀ z ∈ zs, 0 ≤ z ∧ z < 256) : OpOk P k st o ⟨.ro (ints .u8 zs), [], [], []⟩ :=
  opok_newroD fun ψ prot w ρ hr hlt => by
    have e1 := (hx ▸ hr x (by simp [ho, Op.operands]) : VRel ψ prot w (.val (.string (strOfNums zs))) (ρ x)).val_eq
    have hrun := run_bytes_of_string w s t e (strOfNums zs) hs ht he
    have hsz := strOfNums_size zs
    have hcap : zs.length ≤ grownCap w (strOfNums zs).size 0 e := by
      rw [← hsz]
      exact grownCap_ge w _ 0 e
    generalize grownCap w (strOfNums zs).size 0 e = cap at hrun hcap
    refine ⟨.slice (some ⟨w.heap.size, 0, none⟩) (strOfNums zs).size cap, .cells (bytesRow (strOfNums zs) cap) e ((bytesRow (strOfNums zs) cap).size, (bytesRow (strOfNums zs) cap).size + 1), by simp only [execOp, ho, e1, Sem.run_bind, hrun, Result.andThen_ok, Sem.run_pure], ?_⟩
    have hlen : (ints IntKind.u8 zs).length = (strOfNums zs).size := by rw [length_ints, hsz]
    rw [← hlen]
    refine VRel.ro (ints .u8 zs) (zs.map (Value.int .u8)) w.heap.size 0 cap (by rw [length_ints]; exact hcap) (.inr rfl) (by rw [flat_ints]; simp) (fun i v hi => ?_) fun i x v h1 h2 => ?_
    · have hi2 : i < zs.length := by
        rcases Nat.lt_or_ge i zs.length with h | h
        · exact h
        · rw [List.getElem?_eq_none (by simpa using h)] at hi; cases hi
      have hb := hz zs[i] (List.getElem_mem hi2)
      have hv : (bytesRow (strOfNums zs) cap)[0 + i]? = some v := by
        rw [Nat.zero_add]
        have hd : (strOfNums zs).data.size = zs.length := hsz
        unfold bytesRow
        rw [Array.getElem?_append_left (by simp; omega), Array.getElem?_map, Array.getElem?_eq_getElem (by omega)]
        rw [List.getElem?_eq_getElem (by simpa using hi2)] at hi
        simp only [List.getElem_map, Option.some.injEq] at hi
        subst hi
        simp only [Option.map_some, Option.some.injEq, strOfNums, List.getElem_toArray, List.getElem_map]
        congr 1
        simp
        omega
      have hh : (w.drew.alloc (.cells (bytesRow (strOfNums zs) cap) e ((bytesRow (strOfNums zs) cap).size, (bytesRow (strOfNums zs) cap).size + 1))).heap[w.heap.size]? = some (.cells (bytesRow (strOfNums zs) cap) e ((bytesRow (strOfNums zs) cap).size, (bytesRow (strOfNums zs) cap).size + 1)) := by
        show (w.heap.push _)[w.heap.size]? = _
        simp
      simp only [World.cell?, hh]
      exact hv
    · rw [flat_ints] at h1
      exact (vrels_zeros .u8 zs).2 i x v h1 h2
end
end Go.Proofs.YtmbmodeiikhnkaaDoor

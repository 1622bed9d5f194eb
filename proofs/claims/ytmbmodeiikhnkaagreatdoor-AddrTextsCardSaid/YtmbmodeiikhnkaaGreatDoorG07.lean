/-
  A box of the call's own that nobody writes any more, by states. No program is named here.
-/
import Derived.Test.YtmbmodeiikhnkaaGreatDoorAbsN
import Derived.Test.YtmbmodeiikhnkaaGreatDoorStr2
namespace Go.Proofs.YtmbmodeiikhnkaaGreatDoor
open Go.RowKit
inductive FrzB (n kk : Nat) (cs : List AVal) : AVal → AVal → Prop where
  | any (x : AVal) : FrzB n kk cs x .any
  | same (x : AVal) : FrzB n kk cs x x
  | ptr (off : Nat) : FrzB n kk cs (.ptr n kk off) (.rref (cs.drop off))
inductive EnvFrzB (n kk : Nat) (cs : List AVal) (st : St) : List (Nat × AVal) → Prop where
  | nil : EnvFrzB n kk cs st []
  | cons {t : Nat} {v v' : AVal} {env : List (Nat × AVal)} (h : st.get t = v) (f : FrzB n kk cs v v') (r : EnvFrzB n kk cs st env) : EnvFrzB n kk cs st ((t, v') :: env)
inductive ObjsFrzB (n : Nat) (st : St) : Writes → Prop where
  | nil : ObjsFrzB n st []
  | cons {m k : Nat} {o : AObj} {objs : Writes} (h : st.obj m = some (k, o)) (hm : (m != n) = true) (r : ObjsFrzB n st objs) : ObjsFrzB n st ((m, some (k, o)) :: objs)
theorem EnvFrzB.mem {n kk : Nat} {cs : List AVal} {st : St} {env : List (Nat × AVal)} (h : EnvFrzB n kk cs st env) : ∀ p ∈ env, FrzB n kk cs (st.get p.1) p.2 := by
  induction h with
  | nil => intro p hp; cases hp
  | cons h f _ ih =>
    intro p hp
    rcases List.mem_cons.1 hp with rfl | hp
    · rw [h]; exact f
    · exact ih p hp
theorem ObjsFrzB.mem {n : Nat} {st : St} {objs : Writes} (h : ObjsFrzB n st objs) : ∀ p ∈ objs, ∃ k o, p.2 = some (k, o) ∧ st.obj p.1 = some (k, o) ∧ p.1 ≠ n := by
  induction h with
  | nil => intro p hp; cases hp
  | cons h hm _ ih =>
    intro p hp
    rcases List.mem_cons.1 hp with rfl | hp
    · exact ⟨_, _, rfl, h, by simpa using hm⟩
    · exact ih p hp
theorem awp_frzB {P : Program} {N : Nat} {ini : Ini} {Q : Exit → St → Prop} {st : St} {c : Code} (n kk : Nat) {t : TypeId} (cs : List AVal) (env : List (Nat × AVal)) (objs : Writes) (hn : st.obj n = some (kk, .box t cs)) (he : EnvFrzB n kk cs st env) (ho : ObjsFrzB n st objs) (h : Awp P N ini c Q ⟨env, objs⟩) : Awp P N ini c Q st := by
  rintro a w ⟨hd, hs, ψ, prot, h1, h2, h3, h4⟩
  obtain ⟨loc, hl, hor⟩ := h2.live n kk _ hn
  have live : ∀ m k o', (⟨env, objs⟩ : St).obj m = some (k, o') → m ≠ n ∧ st.obj m = some (k, o') := fun m k o' h => by
    simp only [St.obj, updW] at h
    cases hlk : objs.lookup m with
    | none => rw [hlk] at h; cases h
    | some y =>
      rw [hlk] at h
      simp only at h
      subst h
      obtain ⟨k', o, q1, q2, q3⟩ := ho.mem _ (lookup_mem hlk)
      simp only [Option.some.injEq, Prod.mk.injEq] at q1
      obtain ⟨rfl, rfl⟩ := q1
      exact ⟨q3, q2⟩
  let prot' : Nat → Prop := fun b => prot b ∨ loc.block = some b
  have hun : ∀ b, unowned ψ st.obj w b → unowned ψ (⟨env, objs⟩ : St).obj w b := fun b hb => ⟨hb.1, fun m k o l g1 g2 => by
    obtain ⟨_, q1⟩ := live m k o g1
    exact hb.2 m k o l q1 g2⟩
  have hpu : ∀ b, prot' b → unowned ψ (⟨env, objs⟩ : St).obj w b := fun b hb => by
    rcases hb with hb | hb
    · exact hun b (h2.pr b hb)
    · refine ⟨hor.inside b hb, fun m k o l g1 g2 g3 => ?_⟩
      obtain ⟨q0, q1⟩ := live m k o g1
      exact h2.inj n m kk k _ o loc l hn q1 (Ne.symm q0) hl g2 b hb g3
  have hmono : ∀ b, prot b → prot' b := fun b hb => .inl hb
  have hptr : ∀ off u, VRel ψ prot w (.ptr n kk off) u → VRel ψ prot' w (.rref (cs.drop off)) u := fun off u hu => by
    obtain ⟨b, cap, hv, hψ⟩ := hu.ptr_inv
    rw [hl] at hψ; injection hψ with hψ; subst hψ
    obtain ⟨vs, g1, g2⟩ := hor.cell (b := b) rfl
    rw [hv]
    have g11 : vs.length = cs.length := g1.1
    refine .rref _ (vs.drop off) b off (.inr rfl) (by rw [List.length_drop, List.length_drop, g11]) (fun i v hi => ?_) fun i x v hx hi => ?_
    · rw [List.getElem?_drop] at hi
      exact g2 (off + i) v hi
    · rw [List.getElem?_drop] at hx hi
      exact (g1.2 (off + i) x v hx hi).mono (fun _ _ _ h => h) fun b hb => ⟨hmono b hb, rfl⟩
  refine h a w ⟨hd, hs, ψ, prot', ⟨h1.os, h1.tape, h1.output, h1.size, h1.gh, fun b hb => .inl (h1.pr b hb), fun b hb => ⟨hun b (h1.un b hb).1, (h1.un b hb).2⟩, fun b hb => ?_⟩, ⟨fun m k o g => ?_, fun m m' k k' o o' l l' g g' hne => ?_, hpu⟩, h3, fun t' => ?_⟩
  · rcases hb with hb | hb
    · exact h1.new b hb
    · exact .inr fun hu => (h1.un b hu).1.2 n kk _ loc hn hl hb
  · obtain ⟨_, q1⟩ := live m k o g
    obtain ⟨l, g1, g2⟩ := h2.live m k o q1
    exact ⟨l, g1, g2.mono (fun _ _ _ h => h) (fun b hb => ⟨hmono b hb, rfl⟩) fun _ _ => rfl⟩
  · obtain ⟨_, q1⟩ := live m k o g
    obtain ⟨_, q1'⟩ := live m' k' o' g'
    exact h2.inj m m' k k' o o' l l' q1 q1' hne
  · cases hlk : env.lookup t' with
    | none =>
      have : (⟨env, objs⟩ : St).get t' = .any := by simp [St.get, hlk]
      rw [this]; exact .any _
    | some v =>
      have e : (⟨env, objs⟩ : St).get t' = v := by simp [St.get, hlk]
      rw [e]
      have hf : FrzB n kk cs (st.get t') v := he.mem _ (lookup_mem hlk)
      have h5 := h4 t'
      generalize st.get t' = x at hf h5
      cases hf with
      | any => exact .any _
      | same => exact h5.mono (fun _ _ _ h => h) fun b hb => ⟨hmono b hb, rfl⟩
      | ptr off => exact hptr off _ h5
end Go.Proofs.YtmbmodeiikhnkaaGreatDoor
namespace Go.Proofs.YtmbmodeiikhnkaaGreatDoor
open Go.RowKit
section
variable {P : Program} {k : Nat} {st : St} {o : Oper}
theorem opok_lit0 {t e : TypeId} (d : Nat) {z : Value} {sz bytes : Nat} (ho : o.op = .buildSlice t 0 #[]) (ht : P.underlying t = some (.slice e)) (hi : (P.info? e).map (fun i => (i.zero, i.size, i.bytes)) = some (some z, sz, bytes)) : OpOk P k st o ⟨.own d k 0, [(d, some (k, .row e sz []))], [d], [d]⟩ :=
  opok_new fun ψ prot w ρ hr => by
    obtain ⟨i, hi0, hz0, hs0, hb0⟩ := info_parts hi
    have hrun : (Instr.buildSlice t 0 #[]).run P w = .ok (.slice (some ⟨w.heap.size, 0, none⟩) 0 0) (w.alloc (.cells #[] e)) := by
      simp [Instr.buildSlice, run_underlying ht, sizeOf, typeInfo, hi0, newRow, Instr.fill]
      congr 2
      apply Array.eq_empty_of_size_eq_zero
      simp
    refine ⟨.slice (some ⟨w.heap.size, 0, none⟩) 0 0, .cells #[] e (0, 0), 0, by unfold execOp; simp [ho, Sem.run_bind, hrun, Result.andThen_ok, Sem.run_pure], fun ψ' hψ hpr => ⟨[], ?_, ⟨rfl, fun i x v h => by simp at h⟩⟩, fun ψ' h => .own d k 0 _ h⟩
    have := World.ownsRow_lit (base := 0) (size := sz) (e := e) w #[] 0 (Nat.zero_le _) (by unfold maxLen; omega) (by simp)
    simpa using this
theorem opok_arrRoN {t e : TypeId} {n : Nat} {x y : Operand} {kd : IntKind} {hi : Nat} {cs : List AVal} (ho : o.op = .slice t x none (some y) none) (hx : st.aop x = .rref cs) (hy : st.aop y = .val (.int kd hi)) (hu : P.underlying t = some (.array n e)) (hs : sizeIs P e 1) (hn : cs.length = n) (hf : (cs.take hi).flatMap AVal.flat = cs.take hi) (hh : hi ≤ n) : OpOk P k st o ⟨.ro (cs.take hi), [], [], []⟩ :=
  opok_quiet fun ψ prot obj w ρ _ hr _ => by
    have e1 := hx ▸ hr x (by simp [ho, Op.operands])
    have e2 := (hy ▸ hr y (by simp [ho, Op.operands]) : VRel ψ prot w (.val (.int kd hi)) (ρ y)).val_eq
    obtain ⟨vs, b, off, hpv, hpr, ⟨hl, hv⟩, hcc⟩ := e1.rref_inv
    subst hn
    have hlt : (cs.take hi).length = hi := by rw [List.length_take]; omega
    refine ⟨.slice (some ⟨b, off, none⟩) (cs.take hi).length cs.length, ?_, .ro (cs.take hi) (vs.take hi) b off cs.length (by rw [hlt]; exact hh) hpr (by rw [hf, List.length_take, List.length_take, hl]) (fun i v h => ?_) (fun i x v h1 h2 => ?_)⟩
    · have ea : (⟨b, off, none⟩ : Addr).add 0 = ⟨b, off, none⟩ := by rw [addr_add0]; rfl
      rw [hlt]
      simp [execOp, ho, hpv, e2, Instr.sliceAt, Instr.sliceBounds, Instr.sureAddr, run_underlying hu, run_sizeIs hs, ea, go_sem, asIntOf, hh]
    · rw [List.getElem?_take] at h
      split at h
      · exact hcc i v h
      · cases h
    · rw [hf, List.getElem?_take] at h1
      rw [List.getElem?_take] at h2
      split at h1
      · rename_i hlt2
        rw [if_pos hlt2] at h2
        exact hv i x v h1 h2
      · cases h1
variable {ops : Array Oper} {N : Nat} {draw : Bool} {K : St → Prop} {os : List Oper} {env : List (Nat × AVal)} {objs : Writes} {acc : List Tr} {d : Nat}
theorem runk_lit0 {t e : TypeId} {z : Value} {sz : Nat} (hg : o.guard = none) (hd : o.dst = some d) (ho : o.op = .buildSlice t 0 #[]) (ht : P.underlying t = some (.slice e)) (hs : sizeIs P e sz) (hz : (P.info? e).bind (·.zero) = some z)
    (t : RunK P k ops N draw os ⟨(d, .own d k 0) :: env, (d, some (k, .row e sz [])) :: objs⟩ (⟨.own d k 0, [(d, some (k, .row e sz []))], [d], [d]⟩ :: acc) K) : RunK P k ops N draw (o :: os) ⟨env, objs⟩ acc K := by
  cases hi : P.info? e with
  | none => rw [hi] at hz; cases hz
  | some i =>
    unfold sizeIs at hs
    rw [hi] at hs hz
    have hz' : i.zero = some z := hz
    simp only [Option.map_some, Option.some.injEq] at hs
    exact runk hg hd (opok_lit0 (z := z) (bytes := i.bytes) d ho ht (by rw [hi]; simp [hs, hz'])) t
end
end Go.Proofs.YtmbmodeiikhnkaaGreatDoor
namespace Go.Proofs.YtmbmodeiikhnkaaGreatDoor
open Go.RowKit
section
variable {P : Program} {k : Nat} {st : St} {o : Oper}
theorem opok_newD {v : AVal} {d : Nat} {ob : AObj} (h : ∀ (ψ : Ghost) (prot : Nat → Prop) (w : World) (ρ : Operand → Value), (∀ x ∈ o.op.operands, VRel ψ prot w (st.aop x) (ρ x)) → ∃ cv ob' cap, (execOp ρ o).run P w = .ok (.value cv) (w.drew.alloc ob') ∧
      (∀ ψ' : Ghost, ORel ψ' prot (w.drew.alloc ob') ⟨some w.heap.size, cap⟩ ob) ∧ ∀ ψ' : Ghost, ψ' d k = some ⟨some w.heap.size, cap⟩ → VRel ψ' prot (w.drew.alloc ob') v cv) :
    OpOk P k st o ⟨v, [(d, some (k, ob))], [d], [d]⟩ := by
  refine ⟨fun n hn => by simpa [Writes.names] using hn, fun ψ prot obj w ρ _ hx r hf => ?_⟩
  obtain ⟨cv, ob', cap, h1, h2, h3⟩ := h ψ prot w ρ hx
  rw [h1]
  have hsz : (w.drew.alloc ob').heap.size = w.heap.size + 1 := by show (w.heap.push ob').size = _; simp
  obtain ⟨ψ', g1, g2, g3, g4, g5⟩ := evolve_make (w' := w.drew.alloc ob') r.toRH [] d k ⟨some w.heap.size, cap⟩ ob (hf d (by simp)) rfl rfl rfl (by omega) (fun b hb _ => Below.heap_alloc w.drew ob' b hb) (fun b hb => by injection hb with hb; exact .inl (by omega)) (fun ψ' _ => h2 ψ')
  exact ⟨ψ', prot, g1, g2, h3 ψ' g3, fun n j hne => (g5 n j hne).imp id fun ⟨e1, e2⟩ => ⟨e1, by simp [e2]⟩⟩
/-- The bytes of a text, as numbers. -/
def bints (l : List UInt8) : List Int := l.map fun b => (b.toNat : Int)
theorem opok_indexF {t e : TypeId} {x ix : Operand} {n kk len : Nat} {zs : List Int} {kd : IntKind} {i : Int} (ho : o.op = .indexAddr t x ix) (hx : st.aop x = .own n kk len) (hn : st.obj n = some (kk, .rowF zs)) (hi : st.aop ix = .val (.int kd i)) (ht : P.underlying t = some (.slice e)) (hs : sizeIs P e 1)
    (h0 : 0 ≤ i) (h1 : i < len) : OpOk P k st o ⟨.ptr n kk i.toNat, [], [n], []⟩ :=
  opok_quiet fun ψ prot obj w ρ hob hr r => by
    have e1 := hx ▸ hr x (by simp [ho, Op.operands])
    have e2 := (hi ▸ hr ix (by simp [ho, Op.operands]) : VRel ψ prot w (.val (.int kd i)) (ρ ix)).val_eq
    obtain ⟨loc, hv, hψ⟩ := e1.own_inv
    obtain ⟨loc', g1, b, cur, t', fr, g2, -⟩ := r.live n kk _ ((hob n (by simp)).trans hn)
    rw [hψ] at g1; injection g1 with g1; subst g1
    rw [g2] at hv
    obtain ⟨bb, cc⟩ := loc
    simp only at g2
    subst g2
    refine ⟨.pointer (some ⟨b, i.toNat, none⟩), ?_, .ptr n kk _ b cc hψ⟩
    simp [execOp, ho, hv, e2, Instr.indexAt, asIntOf, run_underlying ht, run_sizeIs hs, h0, h1, addr_add0, go_sem]
theorem run_store1 {t : TypeId} (hs : sizeIs P t 1) (w : World) (b off : Nat) (kd : IntKind) (v : Int) {old : Value} (hc : w.cell? ⟨b, off, none⟩ = some old) (hf : w.frozen? ⟨b, off, none⟩ = false) : (storeVar t ⟨b, off, none⟩ (.int kd v)).run P w = .ok () (w.setCell ⟨b, off, none⟩ (.int kd v)) := by
  have h1 : (store (⟨b, off, none⟩ : Addr) (.int kd v)).run P w = .ok () (w.setCell ⟨b, off, none⟩ (.int kd v)) := by
    rw [run_store P w _ _ _ rfl]
    simp only [hc, hf, Bool.false_eq_true, if_false]
  have h2 : (storeCells (⟨b, off, none⟩ : Addr) [.int kd v]).run P w = .ok () (w.setCell ⟨b, off, none⟩ (.int kd v)) := by
    simp only [storeCells, addr_add0, Nat.add_zero, Sem.run_bind, h1, Result.andThen_ok, Sem.run_pure]
  simp only [storeVar, run_sizeIs hs, Sem.run_bind, Result.andThen_ok]
  exact h2
theorem opok_textF {s t e : TypeId} {x : Operand} {n kk len : Nat} {zs : List Int} (ho : o.op = .convert s t x) (hx : st.aop x = .own n kk len) (hn : st.obj n = some (kk, .rowF zs)) (hs : P.underlying s = some (.slice e)) (he : P.underlying e = some (.int .u8)) (ht : P.underlying t = some .string) (hl : zs.length = len) :
    OpOk P k st o ⟨.val (bstr (zs.map fun z => UInt8.ofNat z.toNat)), [], [n], []⟩ :=
  opok_quiet fun ψ prot obj w ρ hob hr r => by
    have e1 := hx ▸ hr x (by simp [ho, Op.operands])
    obtain ⟨loc, hv, hψ⟩ := e1.own_inv
    obtain ⟨loc', g1, b, cur, t', fr, g2, g3, -, g4, g5, g6⟩ := r.live n kk _ ((hob n (by simp)).trans hn)
    rw [hψ] at g1; injection g1 with g1; subst g1
    rw [g2] at hv
    have hb : b < w.heap.size := (Array.getElem?_eq_some_iff.1 g3).1
    have hlies : Lies w.heap.size (some ⟨b, 0, none⟩) (zs.map (Value.int .u8)) w := fun j hj => by
      have hjl : j < zs.length := by simpa using hj
      refine ⟨⟨b, 0, none⟩, .int .u8 zs[j], rfl, hb, by simp [hjl], ?_⟩
      rw [addr_add0]
      simp only [World.cell?, g3, Nat.zero_add]
      exact g6 j _ (List.getElem?_eq_getElem hjl)
    have := conv_bytes (P := P) (c := loc.cap) hs he ht hlies hl
    exact ⟨_, by simp only [execOp, ho, hv, Option.map_some, this, Sem.run_bind, Sem.run_pure, Result.andThen_ok]; rfl, .val _⟩
variable {ops : Array Oper} {N : Nat} {draw : Bool} {K : St → Prop} {os : List Oper} {env : List (Nat × AVal)} {objs : Writes} {acc : List Tr}
end
end Go.Proofs.YtmbmodeiikhnkaaGreatDoor
namespace Go.Proofs.YtmbmodeiikhnkaaGreatDoor
open Go.RowKit
theorem strOf_bints (l : List UInt8) : Value.string (strOfNums (bints l)) = bstr l := by
  unfold strOfNums bstr bints
  simp only [List.map_map]
  have : (l.map ((fun n : Int => UInt8.ofNat n.toNat) ∘ fun b : UInt8 => (b.toNat : Int))) = l := by
    conv => rhs; rw [← List.map_id l]
    refine List.map_congr_left fun b _ => ?_
    simp
  rw [this]
section
variable {P : Program} {k : Nat} {st : St} {o : Oper}
theorem opok_arrRoF {t e : TypeId} {n : Nat} {x y : Operand} {kd : IntKind} {lo : Nat} {cs : List AVal} (ho : o.op = .slice t x (some y) none none) (hx : st.aop x = .rref cs) (hy : st.aop y = .val (.int kd lo)) (hu : P.underlying t = some (.array n e)) (hs : sizeIs P e 1) (hn : cs.length = n) (hf : (cs.drop lo).flatMap AVal.flat = cs.drop lo) (hh : lo < n) : OpOk P k st o ⟨.ro (cs.drop lo), [], [], []⟩ :=
  opok_quiet fun ψ prot obj w ρ _ hr _ => by
    have e1 := hx ▸ hr x (by simp [ho, Op.operands])
    have e2 := (hy ▸ hr y (by simp [ho, Op.operands]) : VRel ψ prot w (.val (.int kd lo)) (ρ y)).val_eq
    obtain ⟨vs, b, off, hpv, hpr, ⟨hl, hv⟩, hcc⟩ := e1.rref_inv
    subst hn
    have hlt : (cs.drop lo).length = cs.length - lo := by rw [List.length_drop]
    have hle := Nat.le_of_lt hh
    have hne : ¬ cs.length = lo := by omega
    refine ⟨.slice (some ⟨b, off + lo, none⟩) (cs.drop lo).length (cs.length - lo), ?_, .ro (cs.drop lo) (vs.drop lo) b (off + lo) (cs.length - lo) (by rw [hlt]; exact Nat.le_refl _) hpr (by rw [hf, List.length_drop, List.length_drop, hl]) (fun i v h => ?_) (fun i x v h1 h2 => ?_)⟩
    · have ea : (⟨b, off, none⟩ : Addr).add lo = ⟨b, off + lo, none⟩ := by simp [Addr.add]
      rw [hlt]
      simp [execOp, ho, hpv, e2, Instr.sliceAt, Instr.sliceBounds, Instr.sureAddr, run_underlying hu, run_sizeIs hs, ea, go_sem, asIntOf, hle, hne]
    · rw [List.getElem?_drop] at h
      have := hcc (lo + i) v h
      rw [Nat.add_assoc]; exact this
    · rw [hf, List.getElem?_drop] at h1
      rw [List.getElem?_drop] at h2
      exact hv _ x v h1 h2
theorem drop_ints (k : IntKind) (xs : List Int) (n : Nat) : (ints k xs).drop n = ints k (xs.drop n) := by simp [ints, List.map_drop]
theorem opok_arrRoI {t e : TypeId} {n : Nat} {x y : Operand} {kd ke : IntKind} {lo : Nat} {xs ys : List Int} (ho : o.op = .slice t x (some y) none none) (hx : st.aop x = .rref (ints ke xs)) (hy : st.aop y = .val (.int kd lo)) (hu : P.underlying t = some (.array n e)) (hs : sizeIs P e 1) (hn : xs.length = n) (hh : lo < n) (hys : xs.drop lo = ys) : OpOk P k st o ⟨.ro (ints ke ys), [], [], []⟩ := by
  have h := opok_arrRoF (k := k) ho hx hy hu hs (by rw [length_ints, hn]) (by rw [drop_ints, flat_ints]) hh
  rw [drop_ints, hys] at h
  exact h
end
end Go.Proofs.YtmbmodeiikhnkaaGreatDoor

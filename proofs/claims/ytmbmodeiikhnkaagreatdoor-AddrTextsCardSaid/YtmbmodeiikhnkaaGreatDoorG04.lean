/-
  A law's last step, once for all laws: a call that returns true and turns nothing below the heap's old size gives the row's post, whatever the arguments' types. No program is named here.
-/
import Derived.WalkKit
import Derived.ProofKit
import Derived.OpenShut
import Derived.Below
import Derived.Carry
import Derived.Test.YtmbmodeiikhnkaaGreatDoorG03
import Derived.Test.YtmbmodeiikhnkaaGreatDoorG02
import Derived.Laws.IdiomStrings
import Derived.Lib.Strings
import Derived.Laws.CopyRow
namespace Go.Proofs.YtmbmodeiikhnkaaGreatDoor
open Go.ChangeShapes Go.WideShapes Go.ChangeAt Go.RowKit

section
variable {H : Type} {enc : TypeId × Value → H} {P : Program}

/-- All arguments read as they did. -/
theorem args_same (hl : laidOutB P = true) {W W' : World} (hb : Below W.heap.size W W') :
    ∀ {ts : List TypeId} {vs : List Value} {ds : List (DataW H)} {ps : List MemPlace}, ts.all (fun t => P.readableRec t && decide (t < P.types.size)) = true →
      DataW.TrodAll enc P W 0 (fun _ => true) true ts vs ds ps → (∀ x ∈ ps, x.block < W.heap.size) → DataW.TrodAll enc P W' 0 (fun b => decide (b < W.heap.size)) true ts vs ds ps
  | [], [], [], _, _, h, _ => h
  | t :: ts, v :: vs, d :: ds, ps, hr, h, hlt => by
    obtain ⟨p, q, h1, h2, rfl⟩ := h
    simp only [List.all_cons, Bool.and_eq_true, decide_eq_true_eq] at hr
    exact ⟨p, q, Below.trod hl hr.1.1 hr.1.2 h1 hb (fun x hx => hlt x (by simp [hx])), args_same hl hb hr.2 h2 (fun x hx => hlt x (by simp [hx])), rfl⟩
  | [], _ :: _, _, _, _, h, _ => h.elim
  | [], [], _ :: _, _, _, h, _ => h.elim
  | _ :: _, [], _, _, _, h, _ => h.elim
  | _ :: _, _ :: _, [], _, _, h, _ => h.elim

theorem law_post {f : Func} {s : ChangeSpec} {apart : Bool} {W W' : World} {args : Array Value} {ds : List (DataW H)} {before p : List MemPlace} {tb : TypeId}
    (hW : DataW.Whole enc P f.params.toList s.vars apart W args.toList ds [] before)
    (hA : DataW.TrodAll enc P W 0 (fun _ => true) true f.params.toList args.toList ds p) (hbf : before = p) (hv : s.vars = [])
    (hs : s.fn H (ds ++ []) = { results := [.lit (.bool true)], args := ds }) (hr : f.resultTypes = #[tb]) (htb : P.underlying tb = some .bool)
    (hl : laidOutB P = true) (hrow : f.params.toList.all (fun t => P.readableRec t && decide (t < P.types.size)) = true)
    (hb : Below W.heap.size W W') : s.post enc P f apart true false false W args (.bool true) W' := by
  have hlt : ∀ x ∈ before, x.block < W.heap.size := fun x hx => hW.lt x hx
  refine ⟨ds, [], before, [], p, [], hW, ?_, ?_, ?_, World.keptBut_mono (fun x hx => ⟨hx, .inr (.inl (hbf ▸ hx))⟩) (hb.frame (· ∈ before)), fun h => by cases h⟩
  · rw [hs, hr]
    exact trodAll_cons_mk (p := []) (p' := []) (shut_bool htb _) trodAll_mk0
  · rw [hs]
    exact args_same hl hb hrow hA (fun x hx => hlt x (hbf ▸ hx))
  · rw [hs, hv]; rfl
end
end Go.Proofs.YtmbmodeiikhnkaaGreatDoor
namespace Go.Proofs.YtmbmodeiikhnkaaGreatDoor
open Go.RowKit
end Go.Proofs.YtmbmodeiikhnkaaGreatDoor
namespace Go.Proofs.YtmbmodeiikhnkaaGreatDoor
open Go.RowKit
section
variable {P : Program} {k : Nat} {st : St} {o : Oper}
theorem opok_indexP {t e : TypeId} {x ix : Operand} {n kk off N sz : Nat} {kd : IntKind} {i : Int} (ho : o.op = .indexAddr t x ix) (hx : st.aop x = .ptr n kk off) (hi : st.aop ix = .val (.int kd i)) (ht : P.underlying t = some (.array N e)) (hs : sizeIs P e sz) (h0 : 0 ≤ i) (h1 : i < N) : OpOk P k st o ⟨.ptr n kk (off + i.toNat * sz), [], [], []⟩ :=
  opok_quiet fun ψ prot obj w ρ _ hr _ => by
    have e1 := hx ▸ hr x (by simp [ho, Op.operands])
    have e2 := (hi ▸ hr ix (by simp [ho, Op.operands]) : VRel ψ prot w (.val (.int kd i)) (ρ ix)).val_eq
    obtain ⟨b, cap, hpv, h⟩ := e1.ptr_inv
    refine ⟨.pointer (some ⟨b, off + i.toNat * sz, none⟩), ?_, .ptr n kk _ b cap h⟩
    simp [execOp, ho, hpv, e2, Instr.indexAt, asIntOf, run_underlying ht, Instr.sureAddr, run_sizeIs hs, h0, h1, addr_add0, go_sem]
theorem opok_ixv {t : TypeId} {x ix : Operand} {u v cv : Value} (ho : o.op = .index t x ix) (hx : st.aop x = .val u) (hi : st.aop ix = .val v) (h : ∀ w, (Instr.index t u v).run P w = .ok cv w) : OpOk P k st o ⟨.val cv, [], [], []⟩ :=
  opok_quiet fun ψ prot obj w ρ _ hr _ => by
    have e1 := (hx ▸ hr x (by simp [ho, Op.operands]) : VRel ψ prot w (.val u) (ρ x)).val_eq
    have e2 := (hi ▸ hr ix (by simp [ho, Op.operands]) : VRel ψ prot w (.val v) (ρ ix)).val_eq
    refine ⟨cv, ?_, .val _⟩
    simp only [execOp, ho, e1, e2, Sem.run_bind, h w, Result.andThen_ok, Sem.run_pure]
theorem opok_lenS {x : Operand} {t : TypeId} {u : ByteArray} (ho : o.op = .call { callee := .builtin .len, args := #[x], argTypes := #[t] }) (hx : st.aop x = .val (.string u)) (ht : P.underlying t = some .string) : OpOk P k st o ⟨.val (.int .i64 u.size), [], [], []⟩ :=
  opok_quiet fun ψ prot obj w ρ _ hr _ => by
    have h1 := (hx ▸ hr x (by simp [ho, Op.operands, Call.operands]) : VRel ψ prot w (.val (.string u)) (ρ x)).val_eq
    exact ⟨.int .i64 u.size, by simp [execOp, ho, resolve, invoke, builtin, h1, Builtin.len_, run_underlying ht, goInt, Result.andThen], .val _⟩
theorem setCells_one {cs : List AVal} {off : Nat} {v : AVal} (h : off < cs.length) : setCells cs off [v] = cs.set off v := by
  rw [List.set_eq_take_append_cons_drop, if_pos h]
  simp [setCells]
variable {ops : Array Oper} {N : Nat} {draw : Bool} {K : St → Prop} {os : List Oper} {env : List (Nat × AVal)} {objs : Writes} {acc : List Tr}
theorem runk_storeI {t bt : TypeId} {p x : Operand} {n kk off : Nat} {cs cs' : List AVal} {u : Value} (hg : o.guard = none) (hd : o.dst = none) (ho : o.op = .store t p x) (hp : (⟨env, objs⟩ : St).aop p = .ptr n kk off) (hn : (⟨env, objs⟩ : St).obj n = some (kk, .box bt cs)) (hx : (⟨env, objs⟩ : St).aop x = .val u)
    (hfs : (AVal.val u).flat = [.val u]) (h1 : ([AVal.val u].all AVal.one) = true) (hs : sizeIs P t 1) (hf : off < cs.length) (hcs : cs.set off (.val u) = cs')
    (r : RunK P k ops N draw os ⟨env, (n, some (kk, .box bt cs')) :: objs⟩ (⟨.any, [(n, some (kk, .box bt cs'))], [n], []⟩ :: acc) K) : RunK P k ops N draw (o :: os) ⟨env, objs⟩ acc K :=
  runkN hg hd (opok_store ho hp hn hx rfl hfs h1 hs (by simp; omega) ((setCells_one hf).trans hcs)) r
end
end Go.Proofs.YtmbmodeiikhnkaaGreatDoor
namespace Go.Proofs.YtmbmodeiikhnkaaGreatDoor
open Go.RowKit
section
variable {P : Program} {k : Nat} {st : St} {o : Oper}
theorem opok_newroD {v : AVal} (h : ∀ (ψ : Ghost) (prot : Nat → Prop) (w : World) (ρ : Operand → Value), (∀ x ∈ o.op.operands, VRel ψ prot w (st.aop x) (ρ x)) → (∀ b, prot b → b < w.heap.size) → ∃ cv ob', (execOp ρ o).run P w = .ok (.value cv) (w.drew.alloc ob') ∧
      VRel ψ (fun b => prot b ∨ b = w.heap.size) (w.drew.alloc ob') v cv) : OpOk P k st o ⟨v, [], [], []⟩ := by
  refine ⟨fun n hn => by simp [Writes.names] at hn, fun ψ prot obj w ρ _ hx r _ => ?_⟩
  obtain ⟨cv, ob', h1, h2⟩ := h ψ prot w ρ hx fun b hb => (r.pr b hb).1
  rw [h1]
  have hheap : ∀ b, b < w.heap.size → (w.drew.alloc ob').heap[b]? = w.heap[b]? := fun b hb => Below.heap_alloc w.drew ob' b hb
  have hsz : (w.drew.alloc ob').heap.size = w.heap.size + 1 := by show (w.heap.push ob').size = _; simp
  have hobj : updW obj ([] : Writes) = obj := by funext n; rfl
  have hkeep : ∀ b, prot b → (prot b ∨ b = w.heap.size) ∧ (w.drew.alloc ob').heap[b]? = w.heap[b]? := fun b hb => ⟨.inl hb, hheap b (r.pr b hb).1⟩
  refine ⟨ψ, fun b => prot b ∨ b = w.heap.size, ?_, ?_, h2, fun n j hne => .inl hne⟩
  · show Evolve ψ prot obj w ψ _ (updW obj ([] : Writes)) (w.drew.alloc ob')
    rw [hobj]
    exact ⟨rfl, rfl, rfl, by omega, fun _ _ _ h => h, fun b hb => .inl hb, fun b hb => ⟨⟨by have := hb.1; omega, hb.2⟩, hheap b hb.1⟩, fun b hb => hb.elim .inl fun h => .inr fun hu => by have := hu.1; omega⟩
  · show RH ψ _ (updW obj ([] : Writes)) (w.drew.alloc ob')
    rw [hobj]
    refine ⟨fun n j ob h => ?_, r.inj, fun b hb => ?_⟩
    · obtain ⟨loc, q1, q2⟩ := r.live n j ob h
      exact ⟨loc, q1, q2.mono (fun _ _ _ h => h) hkeep fun b hb => hheap b (q2.inside b hb)⟩
    · rcases hb with hb | hb
      · exact ⟨by have := (r.pr b hb).1; omega, (r.pr b hb).2⟩
      · refine ⟨by omega, fun n j ob loc q1 q2 q3 => ?_⟩
        obtain ⟨loc', q4, q5⟩ := r.live n j ob q1
        rw [q2] at q4; injection q4 with q4; subst q4
        have := q5.inside b q3
        omega
theorem opok_convB {s t e : TypeId} {x : Operand} {zs : List Int} (ho : o.op = .convert s t x) (hx : st.aop x = .val (.string (strOfNums zs))) (hs : P.underlying s = some .string) (ht : P.underlying t = some (.slice e)) (he : P.underlying e = some (.int .u8)) (hz : ∀ z ∈ zs, 0 ≤ z ∧ z < 256) : OpOk P k st o ⟨.ro (ints .u8 zs), [], [], []⟩ :=
  opok_newroD fun ψ prot w ρ hr hlt => by
    have e1 := (hx ▸ hr x (by simp [ho, Op.operands]) : VRel ψ prot w (.val (.string (strOfNums zs))) (ρ x)).val_eq
    have hrun := run_bytes_of_string w s t e (strOfNums zs) hs ht he
    have hsz := strOfNums_size zs
    have hcap : zs.length ≤ grownCap w (strOfNums zs).size 0 e := by
      rw [← hsz]
      exact grownCap_ge w _ 0 e
    generalize grownCap w (strOfNums zs).size 0 e = cap at hrun hcap
    refine ⟨.slice (some ⟨w.heap.size, 0, none⟩) (strOfNums zs).size cap, .cells (bytesRow (strOfNums zs) cap) e ((bytesRow (strOfNums zs) cap).size, (bytesRow (strOfNums zs) cap).size + 1), by simp only [execOp, ho, e1, Sem.run_bind, hrun, Result.andThen_ok, Sem.run_pure], ?_⟩
    have hlen : (ints IntKind.u8 zs).length = (strOfNums zs).size := by rw [length_ints, hsz]
    rw [← hlen]
    refine VRel.ro (ints .u8 zs) (zs.map (Value.int .u8)) w.heap.size 0 cap (by rw [length_ints]; exact hcap) (.inr rfl) (by rw [flat_ints]; simp) (fun i v hi => ?_) fun i x v h1 h2 => ?_
    · have hi2 : i < zs.length := by
        rcases Nat.lt_or_ge i zs.length with h | h
        · exact h
        · rw [List.getElem?_eq_none (by simpa using h)] at hi; cases hi
      have hb := hz zs[i] (List.getElem_mem hi2)
      have hv : (bytesRow (strOfNums zs) cap)[0 + i]? = some v := by
        rw [Nat.zero_add]
        have hd : (strOfNums zs).data.size = zs.length := hsz
        unfold bytesRow
        rw [Array.getElem?_append_left (by simp; omega), Array.getElem?_map, Array.getElem?_eq_getElem (by omega)]
        rw [List.getElem?_eq_getElem (by simpa using hi2)] at hi
        simp only [List.getElem_map, Option.some.injEq] at hi
        subst hi
        simp only [Option.map_some, Option.some.injEq, strOfNums, List.getElem_toArray, List.getElem_map]
        congr 1
        simp
        omega
      have hh : (w.drew.alloc (.cells (bytesRow (strOfNums zs) cap) e ((bytesRow (strOfNums zs) cap).size, (bytesRow (strOfNums zs) cap).size + 1))).heap[w.heap.size]? = some (.cells (bytesRow (strOfNums zs) cap) e ((bytesRow (strOfNums zs) cap).size, (bytesRow (strOfNums zs) cap).size + 1)) := by
        show (w.heap.push _)[w.heap.size]? = _
        simp
      simp only [World.cell?, hh]
      exact hv
    · rw [flat_ints] at h1
      exact (vrels_zeros .u8 zs).2 i x v h1 h2
end
end Go.Proofs.YtmbmodeiikhnkaaGreatDoor
namespace Go.Proofs.YtmbmodeiikhnkaaGreatDoor
open Go.RowKit
/-- A text, by its bytes. -/
def bstr (l : List UInt8) : Value := .string ⟨l.toArray⟩
theorem bstr_of (s : ByteArray) : Value.string s = bstr s.data.toList := rfl
theorem bstr_inj {a b : List UInt8} : bstr a = bstr b ↔ a = b := by
  unfold bstr
  constructor
  · intro h; injection h with h; injection h with h; injection h
  · rintro rfl; rfl
theorem mk_toList (l : List UInt8) : (⟨l.toArray⟩ : ByteArray).toList = l := Lib.toList_data _
theorem mk_size (l : List UInt8) : (⟨l.toArray⟩ : ByteArray).size = l.length := rfl
theorem mk_append (a b : List UInt8) : (⟨a.toArray⟩ : ByteArray) ++ ⟨b.toArray⟩ = ⟨(a ++ b).toArray⟩ := by
  apply ByteArray.ext
  rw [ByteArray.data_append]
  simp
theorem mk_extract (l : List UInt8) (i j : Nat) : (⟨l.toArray⟩ : ByteArray).extract i j = ⟨((l.drop i).take (j - i)).toArray⟩ := by
  apply ByteArray.ext
  rw [ByteArray.data_extract]
  simp [List.extract_eq_take_drop]
theorem bstr_bytes (xs : List Int) : Value.string (strOfNums xs) = bstr (xs.map fun n => UInt8.ofNat n.toNat) := rfl
section
variable {P : Program} {k : Nat} {st : St} {o : Oper}
theorem opok_scat {t yt : TypeId} {x y : Operand} {a b : List UInt8} (ho : o.op = .binOp .add t x y yt) (hx : st.aop x = .val (bstr a)) (hy : st.aop y = .val (bstr b)) (hl : a.length + b.length ≤ 9223372036854775807) : OpOk P k st o ⟨.val (bstr (a ++ b)), [], [], []⟩ :=
  opok_bin ho hx hy fun w => by
    have h1 : ¬ ((((⟨a.toArray⟩ : ByteArray).size + (⟨b.toArray⟩ : ByteArray).size : Nat) : Int) > IntKind.i64.max) := by
      rw [mk_size, mk_size]
      have : IntKind.i64.max = 9223372036854775807 := rfl
      omega
    simp only [eqGuard, binOp, bstr, Op.stringOp, h1, if_false, mk_append]
    rfl
theorem opok_seql {t yt : TypeId} {x y : Operand} {a b : List UInt8} (ho : o.op = .binOp .eql t x y yt) (hx : st.aop x = .val (bstr a)) (hy : st.aop y = .val (bstr b)) : OpOk P k st o ⟨.val (.bool (a == b)), [], [], []⟩ :=
  opok_bin ho hx hy fun w => by
    simp only [eqGuard, binOp, bstr, Op.stringOp, mk_toList]
    rfl
theorem opok_sneq {t yt : TypeId} {x y : Operand} {a b : List UInt8} (ho : o.op = .binOp .neq t x y yt) (hx : st.aop x = .val (bstr a)) (hy : st.aop y = .val (bstr b)) : OpOk P k st o ⟨.val (.bool (!(a == b))), [], [], []⟩ :=
  opok_bin ho hx hy fun w => by
    simp only [eqGuard, binOp, bstr, Op.stringOp, mk_toList]
    rfl
theorem opok_slss {t yt : TypeId} {x y : Operand} {a b : List UInt8} (ho : o.op = .binOp .lss t x y yt) (hx : st.aop x = .val (bstr a)) (hy : st.aop y = .val (bstr b)) : OpOk P k st o ⟨.val (.bool (Op.bytesLess a b)), [], [], []⟩ :=
  opok_bin ho hx hy fun w => by
    simp only [eqGuard, binOp, bstr, Op.stringOp, mk_toList]
    rfl
theorem opok_slen {x : Operand} {t : TypeId} {a : List UInt8} (ho : o.op = .call { callee := .builtin .len, args := #[x], argTypes := #[t] }) (hx : st.aop x = .val (bstr a)) (ht : P.underlying t = some .string) : OpOk P k st o ⟨.val (.int .i64 a.length), [], [], []⟩ :=
  opok_lenS ho hx ht
/-- The byte of a text at a place. -/
def byteAt (l : List UInt8) (i : Int) : Int := ((l.getD i.toNat 0).toNat : Int)
theorem byteAt_get {l : List UInt8} {i : Nat} {x : UInt8} (h : l[i]? = some x) : byteAt l (i : Int) = (x.toNat : Int) := by
  unfold byteAt
  rw [List.getD_eq_getElem?_getD, Int.toNat_natCast, h]; rfl
theorem byteAt_range (l : List UInt8) (i : Int) : 0 ≤ byteAt l i ∧ byteAt l i < 256 := by
  unfold byteAt
  have := (l.getD i.toNat 0).toNat_lt
  omega
theorem run_sindex {t : TypeId} (ht : P.underlying t = some .string) (l : List UInt8) (kd : IntKind) (i : Int) (h0 : 0 ≤ i) (h1 : i < l.length) (w : World) :
    (Instr.index t (bstr l) (.int kd i)).run P w = .ok (.int .u8 (byteAt l i)) w := by
  show _ = Result.ok (Value.int .u8 ((l.getD i.toNat 0).toNat : Int)) w
  have hi : i.toNat < l.length := by omega
  have e : (⟨l.toArray⟩ : ByteArray)[i.toNat]? = some (l.getD i.toNat 0) := by
    have : (⟨l.toArray⟩ : ByteArray)[i.toNat]? = some (⟨l.toArray⟩ : ByteArray)[i.toNat] := getElem?_pos _ _ (by rw [mk_size]; exact hi)
    rw [this, List.getD_eq_getElem?_getD, List.getElem?_eq_getElem hi]
    rfl
  simp [Instr.index, asIntOf, run_underlying ht, bstr, h0, e, go_sem]
theorem opok_sindex {t : TypeId} {x ix : Operand} {l : List UInt8} {kd : IntKind} {i : Int} (ho : o.op = .index t x ix) (hx : st.aop x = .val (bstr l)) (hi : st.aop ix = .val (.int kd i)) (ht : P.underlying t = some .string) (h0 : 0 ≤ i) (h1 : i < l.length) : OpOk P k st o ⟨.val (.int .u8 (byteAt l i)), [], [], []⟩ :=
  opok_ixv ho hx hi fun w => run_sindex ht l kd i h0 h1 w
theorem opok_sslice {t : TypeId} {x : Operand} {lo' hi' : Option Operand} {l : List UInt8} (lo hi : Nat) (ho : o.op = .slice t x lo' hi' none) (hx : st.aop x = .val (bstr l)) (ht : P.underlying t = some .string)
    (hlo : boundIs st lo' 0 lo) (hhi : boundIs st hi' l.length hi) (h1 : lo ≤ hi) (h2 : hi ≤ l.length) : OpOk P k st o ⟨.val (bstr ((l.drop lo).take (hi - lo))), [], [], []⟩ :=
  opok_quiet fun ψ prot obj w ρ _ hr r => by
    have e1 := (hx ▸ hr x (by simp [ho, Op.operands]) : VRel ψ prot w (.val (bstr l)) (ρ x)).val_eq
    have b1 : lo'.map ρ = none ∧ lo = 0 ∨ ∃ kd, lo'.map ρ = some (.int kd lo) := by
      rcases hlo with ⟨rfl, rfl⟩ | ⟨y, kd, rfl, hy⟩
      · exact .inl ⟨rfl, rfl⟩
      · refine .inr ⟨kd, ?_⟩
        have := (hy ▸ hr y (by simp [ho, Op.operands]) : VRel ψ prot w (.val (.int kd lo)) (ρ y)).val_eq
        simp [this]
    have b2 : hi'.map ρ = none ∧ hi = l.length ∨ ∃ kd, hi'.map ρ = some (.int kd hi) := by
      rcases hhi with ⟨rfl, rfl⟩ | ⟨y, kd, rfl, hy⟩
      · exact .inl ⟨rfl, rfl⟩
      · refine .inr ⟨kd, ?_⟩
        have := (hy ▸ hr y (by simp [ho, Op.operands]) : VRel ψ prot w (.val (.int kd hi)) (ρ y)).val_eq
        simp [this]
    refine ⟨bstr ((l.drop lo).take (hi - lo)), ?_, .val _⟩
    have hsb : (Instr.sliceBounds false l.length l.length (lo'.map ρ) (hi'.map ρ) none).run P w = .ok (lo, hi, l.length) w := by
      have hb : ∀ (kd : IntKind) (n m : Nat) (e : BoundsCode), n ≤ m → (Instr.sliceBound (.int kd n) m e).run P w = .ok n w := fun kd n m e h => by
        simp [Instr.sliceBound, asIntOf, h, go_sem]
      rcases b1 with ⟨q1, rfl⟩ | ⟨kd, q1⟩ <;> rcases b2 with ⟨q2, rfl⟩ | ⟨kd', q2⟩
      · simp [Instr.sliceBounds, q1, q2, go_sem]
      · simp [Instr.sliceBounds, q1, q2, hb _ _ _ _ h2, go_sem]
      · simp [Instr.sliceBounds, q1, q2, hb _ _ _ _ h1, go_sem]
      · simp [Instr.sliceBounds, q1, q2, hb _ _ _ _ h2, hb _ _ _ _ h1, go_sem]
        exact fun h => absurd h1 (by omega)
    have hrun : (Instr.slice t (bstr l) (lo'.map ρ) (hi'.map ρ) none).run P w = .ok (bstr ((l.drop lo).take (hi - lo))) w := by
      simp only [Instr.slice, Sem.run_bind, run_underlying ht, Result.andThen_ok, bstr, Option.isSome_none, Bool.false_eq_true, if_false, Sem.run_pure, mk_size, hsb, mk_extract]
    have hrun2 : (Instr.sliceAt t (bstr l) (lo'.map ρ) (hi'.map ρ) none).run P w = .ok (bstr ((l.drop lo).take (hi - lo))) w := by
      simp only [Instr.sliceAt, Sem.run_bind, run_underlying ht, Result.andThen_ok, hrun]
    simp only [execOp, ho, e1, hrun2, Sem.run_bind, Sem.run_pure, Result.andThen_ok, Option.map_none]
theorem VRel.ifc_inv {ψ : Ghost} {prot : Nat → Prop} {w : World} {it : TypeId} {v : Value} (h : VRel ψ prot w (.ifc it) v) : ∃ u, v = .iface it u := by
  cases h with | ifc _ u => exact ⟨u, rfl⟩
/-- An error that is there is not nil. -/
theorem opok_errNe {t yt it : TypeId} {x y : Operand} (ho : o.op = .binOp .neq t x y yt) (hx : st.aop x = .ifc it) (hy : st.aop y = .val .nilIface) (ht : P.underlying t = some (.interface (P.methodsAt t))) : OpOk P k st o ⟨.val (.bool true), [], [], []⟩ :=
  opok_quiet fun ψ prot obj w ρ _ hr _ => by
    have h2 := (hy ▸ hr y (by simp [ho, Op.operands]) : VRel ψ prot w (.val .nilIface) (ρ y)).val_eq
    obtain ⟨v, hv⟩ := (hx ▸ hr x (by simp [ho, Op.operands]) : VRel ψ prot w (.ifc it) (ρ x)).ifc_inv
    have hb : (binOp .neq t (.iface it v) .nilIface).run P w = .ok (.bool true) w := by
      exact run_neq_held_nil w t it v ht
    refine ⟨.bool true, ?_, .val _⟩
    simp only [execOp, ho, hv, h2, Sem.run_bind, eqGuard, Bool.not_true, Bool.false_eq_true, if_false, hb, Sem.run_pure, Result.andThen_ok]
theorem opok_errEq {t yt it : TypeId} {x y : Operand} (ho : o.op = .binOp .eql t x y yt) (hx : st.aop x = .ifc it) (hy : st.aop y = .val .nilIface) (ht : P.underlying t = some (.interface (P.methodsAt t))) : OpOk P k st o ⟨.val (.bool false), [], [], []⟩ :=
  opok_quiet fun ψ prot obj w ρ _ hr _ => by
    have h2 := (hy ▸ hr y (by simp [ho, Op.operands]) : VRel ψ prot w (.val .nilIface) (ρ y)).val_eq
    obtain ⟨v, hv⟩ := (hx ▸ hr x (by simp [ho, Op.operands]) : VRel ψ prot w (.ifc it) (ρ x)).ifc_inv
    have hb : (binOp .eql t (.iface it v) .nilIface).run P w = .ok (.bool false) w := by
      exact run_eql_held_nil w t it v ht
    refine ⟨.bool false, ?_, .val _⟩
    simp only [execOp, ho, hv, h2, Sem.run_bind, eqGuard, Bool.not_true, Bool.false_eq_true, if_false, hb, Sem.run_pure, Result.andThen_ok]
end
end Go.Proofs.YtmbmodeiikhnkaaGreatDoor
namespace Go.Proofs.YtmbmodeiikhnkaaGreatDoor
open Go.RowKit
theorem ints_vals {ψ : Ghost} {prot : Nat → Prop} {w : World} {K : IntKind} {xs : List Int} {zs : List Value} (h : VRels ψ prot w (ints K xs) zs) : zs = xs.map (Value.int K) := by
  apply List.ext_getElem
  · have := h.1; simpa using this
  · intro i q1 q2
    have hi : i < xs.length := by simpa using q2
    have := (h.2 i (.val (.int K xs[i])) zs[i] (by rw [ints_get]; simp [hi]) (List.getElem?_eq_getElem q1)).val_eq
    simp [this]
theorem copied_take (K : IntKind) {xs ys : List Int} {cl : List Value} {off : Nat} (h : cl.take xs.length = xs.map (Value.int K)) (hl : off + ys.length ≤ xs.length) :
    (cl.take off ++ ys.map (Value.int K) ++ cl.drop (off + ys.length)).take (xs.take off ++ ys ++ xs.drop (off + ys.length)).length = (xs.take off ++ ys ++ xs.drop (off + ys.length)).map (Value.int K) := by
  have hxl : (xs.take off ++ ys ++ xs.drop (off + ys.length)).length = xs.length := by simp; omega
  have hcl := (List.take_append_drop xs.length cl).symm
  rw [h] at hcl
  generalize cl.drop xs.length = R at hcl
  subst hcl
  have e1 : (xs.map (Value.int K) ++ R).take off = (xs.map (Value.int K)).take off := List.take_append_of_le_length (by simp; omega)
  have e2 : (xs.map (Value.int K) ++ R).drop (off + ys.length) = (xs.map (Value.int K)).drop (off + ys.length) ++ R := List.drop_append_of_le_length (by simp; omega)
  rw [hxl, e1, e2, ← List.append_assoc, List.take_append_of_le_length (by simp; omega), List.take_of_length_le (by simp; omega)]
  simp [List.map_take, List.map_drop]
/-- An array's value. -/
theorem opok_buildA {P : Program} {k : Nat} {st : St} {o : Oper} {t e : TypeId} {n : Nat} {parts : Array (Nat × Operand)} {sz : Nat} {z : Value} {vs : List (Nat × AVal)} {out : List AVal} (ho : o.op = .build t parts) (hu : P.underlying t = some (.array n e)) (hs : sizeIs P e sz) (hz : (P.info? t).bind (·.zero) = some z)
    (hp : PartsOf st parts.toList vs) (hf : fillA (fun i => some (i * sz, sz)) (AVal.val z).flat vs = some out) : OpOk P k st o ⟨.agg out, [], [], []⟩ :=
  opok_quiet fun ψ prot obj w ρ _ hr _ => by
    have hvs := hp.spec
    cases hi : P.info? t with
    | none => rw [hi] at hz; cases hz
    | some i =>
      have hz' : i.zero = some z := by rw [hi] at hz; exact hz
      obtain ⟨cs', g1, g2⟩ := fill_rel (ψ := ψ) (prot := prot) (w := w) vs (parts.toList.map fun x => (x.1, ρ x.2)) _ out z.cells (by simp [← hvs]) (fun j p q h1 h2 => by
        rw [← hvs] at h1
        simp only [List.getElem?_map] at h1 h2
        cases hq : parts.toList[j]? with
        | none => rw [hq] at h1; cases h1
        | some y =>
          rw [hq] at h1 h2
          simp only [Option.map_some, Option.some.injEq] at h1 h2
          subst h1; subst h2
          exact ⟨rfl, hr y.2 (by simp only [ho, Op.operands]; simp; exact ⟨y.1, by simpa using List.mem_of_getElem? hq⟩)⟩) (VRel.flat (.val z) rfl) hf
      cases hj : P.info? e with
      | none => unfold sizeIs at hs; rw [hj] at hs; cases hs
      | some ie =>
        have hsz : ie.size = sz := by unfold sizeIs at hs; rw [hj] at hs; simpa using hs
        have hb : P.built t (parts.map fun (i, x) => (i, ρ x)).toList = some cs' := by
          simp only [Program.built, hi, hu, hz', hj, hsz, Array.toList_map]
          exact g1
        refine ⟨.agg cs', ?_, VRels.agg g2⟩
        simp only [execOp, ho, Sem.run_bind, Sem.run_pure]
        rw [run_build w t _ cs' hb]
        rfl
end Go.Proofs.YtmbmodeiikhnkaaGreatDoor

/-
  What ref01.groups reads.
-/
import Derived.Test.YtboddbheljenhaaGreatDoorRdg
import Derived.Test.YtboddbheljenhaaGreatDoorPGg
import Derived.Test.YtboddbheljenhaaGreatDoorAbsB
import Derived.Test.YtboddbheljenhaaGreatDoorG04
import Derived.Test.YtboddbheljenhaaGreatDoorG05
import Derived.Laws.IdiomCopy
import Derived.Lib.ItoaMem
import Derived.Test.YtboddbheljenhaaGreatDoorAbsC
namespace Go.Proofs.YtboddbheljenhaaGreatDoor
open Go.RowKit
def rgF : List (List UInt8) → Option (List Nat)
  | [] => some []
  | p :: r => if (r.isEmpty && hasB p 46) = true then fourN p else (grpN p).bind fun x => (rgF r).map ([x / 256, x % 256] ++ ·)
theorem rgF_step {ps : List (List UInt8)} {i : Nat} {p : List UInt8} (hp : ps[i]? = some p) : rgF (ps.drop i) = if (decide (i + 1 = ps.length) && hasB p 46) = true then fourN p else (grpN p).bind fun x => (rgF (ps.drop (i + 1))).map ([x / 256, x % 256] ++ ·) := by
  have hi : i < ps.length := by
    rcases Nat.lt_or_ge i ps.length with h | h
    · exact h
    · rw [List.getElem?_eq_none h] at hp; cases hp
  rw [List.getElem?_eq_getElem hi] at hp
  rw [List.drop_eq_getElem_cons hi, Option.some.inj hp]
  have e1 : (ps.drop (i + 1)).isEmpty = decide (i + 1 = ps.length) := by
    rw [Bool.eq_iff_iff, decide_eq_true_iff, List.isEmpty_iff, List.drop_eq_nil_iff]
    omega
  conv => lhs; unfold rgF
  rw [e1]
theorem octL_len : ∀ (ps : List (List UInt8)) (xs : List Nat), octL ps = some xs → xs.length = ps.length
  | [], xs, h => by cases h; rfl
  | p :: r, xs, h => by
    unfold octL at h
    cases e : octN p with
    | none => rw [e] at h; cases h
    | some n =>
      rw [e, Option.bind_some] at h
      cases e5 : octL r with
      | none => rw [e5] at h; cases h
      | some ys =>
        rw [e5] at h
        cases h
        simp [octL_len r ys e5]
end Go.Proofs.YtboddbheljenhaaGreatDoor
namespace Go.Proofs.YtboddbheljenhaaGreatDoor
open Go.RowKit
theorem four_p4 (l : List UInt8) : fourN l = (p4N l).map fun n => [n / 16777216 % 256, n / 65536 % 256, n / 256 % 256, n % 256] := by
  unfold fourN p4N
  by_cases h : (splitC 46 l).length = 4
  · rw [if_pos h, if_pos h]
    generalize splitC 46 l = ps at *
    match ps, h with
    | [a, b, c, d], _ =>
      simp only [octL, octF]
      cases ea : octN a with
      | none => rfl
      | some x =>
        cases eb : octN b with
        | none => rfl
        | some y =>
          cases ec : octN c with
          | none => rfl
          | some z =>
            cases ed : octN d with
            | none => rfl
            | some w =>
              have h1 := (octN_some.1 ea).1
              have h2 := (octN_some.1 eb).1
              have h3 := (octN_some.1 ec).1
              have h4 := (octN_some.1 ed).1
              simp only [Option.bind_some, Option.map_some]
              congr 1
              have e1 : ((((0 * 256 + x) * 256 + y) * 256 + z) * 256 + w) / 16777216 % 256 = x := by omega
              have e2 : ((((0 * 256 + x) * 256 + y) * 256 + z) * 256 + w) / 65536 % 256 = y := by omega
              have e3 : ((((0 * 256 + x) * 256 + y) * 256 + z) * 256 + w) / 256 % 256 = z := by omega
              have e4 : ((((0 * 256 + x) * 256 + y) * 256 + z) * 256 + w) % 256 = w := by omega
              rw [e1, e2, e3, e4]
  · rw [if_neg h, if_neg h]; rfl
def grB (xs : List Nat) : List Nat := xs.flatMap fun x => [x / 256, x % 256]
theorem rgF_pgF : ∀ ps : List (List UInt8), rgF ps = (pgF true ps).map grB
  | [] => rfl
  | p :: r => by
    unfold rgF pgF
    rw [Bool.true_and]
    by_cases c : (r.isEmpty && hasB p 46) = true
    · rw [if_pos c, if_pos c, four_p4, Option.map_map]
      cases p4N p with
      | none => rfl
      | some n =>
        simp only [Option.map_some, Function.comp, grB, List.flatMap_cons, List.flatMap_nil]
        congr 1
        have e1 : n / 65536 % 65536 / 256 = n / 16777216 % 256 := by omega
        have e2 : n / 65536 % 65536 % 256 = n / 65536 % 256 := by omega
        have e3 : n % 65536 / 256 = n / 256 % 256 := by omega
        have e4 : n % 65536 % 256 = n % 256 := by omega
        rw [e1, e2, e3, e4]
        rfl
    · rw [if_neg c, if_neg c, rgF_pgF r]
      cases grpN p with
      | none => rfl
      | some x =>
        simp only [Option.bind_some]
        cases pgF true r with
        | none => rfl
        | some ys => rfl
theorem pgF_end : ∀ ps : List (List UInt8), (∀ p ∈ ps, hasB p 46 = false) → pgF true ps = pgF false ps
  | [], _ => rfl
  | p :: r, h => by
    unfold pgF
    rw [h p List.mem_cons_self, Bool.and_false, Bool.and_false, pgF_end r fun q hq => h q (List.mem_cons_of_mem _ hq)]
end Go.Proofs.YtboddbheljenhaaGreatDoor
namespace Go.Proofs.YtboddbheljenhaaGreatDoor
open Go.RowKit
theorem octN_len {p : List UInt8} {n : Nat} (h : octN p = some n) : p.length ≤ 3 := by
  obtain ⟨h1, h2⟩ := octN_some.1 h
  have : ∀ k : Fin 256, (Lib.decDigits k.val).length ≤ 3 := by decide +kernel
  rw [← h2]
  exact this ⟨n, h1⟩
theorem p4N_len {l : List UInt8} {n : Nat} (h : p4N l = some n) : l.length ≤ 15 := by
  unfold p4N at h
  have hj := joinC_split 46 l
  by_cases c : (splitC 46 l).length = 4
  · rw [if_pos c] at h
    generalize splitC 46 l = ps at *
    match ps, c with
    | [a, b, c, d], _ =>
      simp only [octF] at h
      cases ea : octN a with
      | none => rw [ea] at h; cases h
      | some x =>
        rw [ea, Option.bind_some] at h
        cases eb : octN b with
        | none => rw [eb] at h; cases h
        | some y =>
          rw [eb, Option.bind_some] at h
          cases ec : octN c with
          | none => rw [ec] at h; cases h
          | some z =>
            rw [ec, Option.bind_some] at h
            cases ed : octN d with
            | none => rw [ed] at h; cases h
            | some w =>
              have h1 := octN_len ea
              have h2 := octN_len eb
              have h3 := octN_len ec
              have h4 := octN_len ed
              rw [← hj]
              simp only [joinC, List.length_append, List.length_cons]
              omega
  · rw [if_neg c] at h; cases h
theorem grpN_len {p : List UInt8} {n : Nat} (h : grpN p = some n) : p.length ≤ 4 := by
  unfold grpN at h
  by_cases c : p.length ≤ 4
  · exact c
  · rw [if_neg c] at h; cases h
theorem joinC_len (c : UInt8) (w : List UInt8) {ws : List (List UInt8)} (h : ws ≠ []) : (joinC c (w :: ws)).length = w.length + 1 + (joinC c ws).length := by
  rw [joinC_cons c w h, List.length_append, List.length_cons]
  omega
theorem pgF_bound (e : Bool) : ∀ (ps : List (List UInt8)) (xs : List Nat), ps ≠ [] → pgF e ps = some xs → (joinC 58 ps).length ≤ 5 * xs.length + (if e = true then 5 else 0)
  | [], xs, h, _ => absurd rfl h
  | [p], xs, _, h => by
    unfold pgF at h
    have hj : (joinC 58 [p]).length = p.length := by simp [joinC]
    rw [hj]
    by_cases c : (e && ([] : List (List UInt8)).isEmpty && hasB p 46) = true
    · rw [if_pos c] at h
      have he : e = true := by cases e; simp at c; rfl
      rw [if_pos he]
      cases e4 : p4N p with
      | none => rw [e4] at h; cases h
      | some n =>
        rw [e4] at h
        cases h
        have := p4N_len e4
        simp
        omega
    · rw [if_neg c] at h
      cases e4 : grpN p with
      | none => rw [e4] at h; cases h
      | some n =>
        rw [e4] at h
        cases h
        have := grpN_len e4
        simp
        omega
  | p :: q :: r, xs, _, h => by
    rw [joinC_len 58 p (by simp)]
    unfold pgF at h
    have c : ¬ (e && (q :: r).isEmpty && hasB p 46) = true := by simp
    rw [if_neg c] at h
    cases e4 : grpN p with
    | none => rw [e4] at h; cases h
    | some n =>
      rw [e4, Option.bind_some] at h
      cases e5 : pgF e (q :: r) with
      | none => rw [e5] at h; cases h
      | some ys =>
        rw [e5] at h
        cases h
        have ih := pgF_bound e (q :: r) ys (by simp) e5
        have := grpN_len e4
        simp only [List.length_cons]
        omega
end Go.Proofs.YtboddbheljenhaaGreatDoor
namespace Go.Proofs.YtboddbheljenhaaGreatDoor
open Go.RowKit
section
variable {P : Program} {k : Nat} {st : St} {o : Oper}
end
section
variable {P : Program} {k : Nat} {ops : Array Oper} {N : Nat} {draw : Bool} {K : St → Prop} {os : List Oper} {o : Oper} {env : List (Nat × AVal)} {objs : Writes} {acc : List Tr} {d : Nat}
end
end Go.Proofs.YtboddbheljenhaaGreatDoor
namespace Go.Proofs.YtboddbheljenhaaGreatDoor
open Go.RowKit
section
variable {P : Program} {k : Nat} {st : St} {o : Oper}
theorem opok_allocR {t : TypeId} (d : Nat) {z : Value} {cs : List AVal} (ho : o.op = .alloc t) (hz : (P.info? t).bind (·.zero) = some z) (hcs : (AVal.val z).flat = cs) : OpOk P k st o ⟨.ptr d k 0, [(d, some (k, .arr t cs))], [d], [d]⟩ :=
  opok_new fun ψ prot w ρ hr => by
    cases hi : P.info? t with
    | none => rw [hi] at hz; cases hz
    | some i =>
      rw [hi] at hz
      have hz' : i.zero = some z := hz
      have h2 : VRels ψ prot w cs z.cells.toList := hcs ▸ VRel.flat (x := .val z) (.val z) rfl
      refine ⟨.pointer (some ⟨w.heap.size, 0, none⟩), .cells z.cells t (0, 0), cs.length, by simp only [execOp, ho, Instr.alloc, zeroValue, run_typeInfo_ hi, hz', newVar, newRow, Sem.run_bind, Sem.run_pure, Result.andThen_ok, run_newObj_], fun ψ' hψ hp => ⟨w.heap.size, z.cells.toList, rfl, ?_, ?_⟩, fun ψ' h => .ptr d k 0 _ _ h⟩
      · simpa using heap_alloc_new w (.cells z.cells t (0, 0))
      · exact h2.mono hψ (keep_alloc _ hp)
theorem opok_sliceK {t e t' : TypeId} {m n kk : Nat} {x : Operand} {cs : List AVal} (ho : o.op = .slice t x none none none) (hx : st.aop x = .ptr n kk 0) (hn : st.obj n = some (kk, .arr t' cs)) (hu : P.underlying t = some (.array m e)) (hs : sizeIs P e 1) (hl : cs.length = m) (h0 : 0 < m) :
    OpOk P k st o ⟨.sub n kk 0 cs.length 1, [], [n], []⟩ :=
  opok_quiet fun ψ prot obj w ρ hob hr r => by
    have e1 := hx ▸ hr x (by simp [ho, Op.operands])
    obtain ⟨b, cap, hpv, hψ⟩ := e1.ptr_inv
    obtain ⟨loc, h2, b', vs, h3, -, -⟩ := r.live n kk _ ((hob n (by simp)).trans hn)
    rw [h2] at hψ; injection hψ with hψ
    subst hψ
    injection h3 with h3 h4
    injection h3 with h3
    subst h3; subst h4; subst hl
    have ea : (⟨b, 0, none⟩ : Addr).add 0 = ⟨b, 0, none⟩ := by rw [addr_add0]
    have hne : ¬ cs.length = 0 := by omega
    refine ⟨_, ?_, .sub n kk 0 cs.length 1 b cs.length h2⟩
    simp [execOp, ho, hpv, Instr.sliceAt, Instr.sliceBounds, Instr.sureAddr, run_underlying hu, run_sizeIs hs, ea, go_sem, asIntOf]
theorem opok_loadArr {t bt : TypeId} {p : Operand} {n kk m : Nat} {cs : List AVal} (ho : o.op = .load t p) (hp : st.aop p = .ptr n kk 0) (hn : st.obj n = some (kk, .arr bt cs)) (ht : aggType P t = true) (hs : sizeIs P t m) (hl : cs.length = m) : OpOk P k st o ⟨.agg cs, [], [n], []⟩ :=
  opok_loadA ho hp hn ht hs (by simp only [AObj.cells, List.drop_zero, ← hl, List.take_length]) hl
variable {ops : Array Oper} {N : Nat} {draw : Bool} {C : St → Prop} {os : List Oper} {env : List (Nat × AVal)} {objs : Writes} {acc : List Tr}
theorem runk_allocR {d : Nat} {t : TypeId} {z : Value} {cs : List AVal} (hg : o.guard = none) (hd : o.dst = some d) (ho : o.op = .alloc t) (hz : (P.info? t).bind (·.zero) = some z) (hcs : (AVal.val z).flat = cs)
    (t : RunK P k ops N draw os ⟨(d, .ptr d k 0) :: env, (d, some (k, .arr t cs)) :: objs⟩ (⟨.ptr d k 0, [(d, some (k, .arr t cs))], [d], [d]⟩ :: acc) C) : RunK P k ops N draw (o :: os) ⟨env, objs⟩ acc C :=
  runk hg hd (opok_allocR d ho hz hcs) t
end
end Go.Proofs.YtboddbheljenhaaGreatDoor
namespace Go.Proofs.YtboddbheljenhaaGreatDoor
open Go.RowKit
section
variable {P : Program} {k : Nat} {st : St} {o : Oper}
theorem opok_sliceKL {t e t' : TypeId} {m n kk lo : Nat} {kd : IntKind} {x y : Operand} {cs : List AVal} (ho : o.op = .slice t x (some y) none none) (hx : st.aop x = .ptr n kk 0) (hy : st.aop y = .val (.int kd lo)) (hn : st.obj n = some (kk, .arr t' cs)) (hu : P.underlying t = some (.array m e)) (hs : sizeIs P e 1) (hl : cs.length = m) (hlo : lo ≤ m) :
    OpOk P k st o ⟨.sub n kk lo (m - lo) 1, [], [n], []⟩ :=
  opok_quiet fun ψ prot obj w ρ hob hr r => by
    have e1 := hx ▸ hr x (by simp [ho, Op.operands])
    have e2 := (hy ▸ hr y (by simp [ho, Op.operands]) : VRel ψ prot w (.val (.int kd lo)) (ρ y)).val_eq
    obtain ⟨b, cap, hpv, hψ⟩ := e1.ptr_inv
    obtain ⟨loc, h2, b', vs, h3, -, -⟩ := r.live n kk _ ((hob n (by simp)).trans hn)
    rw [h2] at hψ; injection hψ with hψ
    subst hψ
    injection h3 with h3 h4
    injection h3 with h3
    subst h3; subst h4; subst hl
    have hal : P.arrayLen t = cs.length := by simp [Program.arrayLen, hu]
    have hel : P.elem t = e := by simp [Program.elem, hu]
    have hrn := run_sliceAt_array_l (P := P) w t ⟨b, 0, none⟩ (by rw [hal, hel]; exact hu) kd (lo : Int) (by omega) (by rw [hal]; omega)
    rw [hal, hel, Int.toNat_natCast, run_sizeIs hs] at hrn
    have hne : (⟨b, 0, none⟩ : Addr).add (lo * 1) = ⟨b, lo * 1, none⟩ := by rw [Lib.add_plain, Nat.zero_add]
    have hsl : slicedAt ⟨b, 0, none⟩ lo cs.length cs.length 1 = .slice (some ⟨b, if cs.length = lo then 0 else lo * 1, none⟩) (cs.length - lo) (cs.length - lo) := by
      unfold slicedAt
      by_cases c : cs.length = lo
      · rw [if_pos c, if_pos c]
      · rw [if_neg c, if_neg c, hne]
    refine ⟨_, ?_, .sub n kk lo (cs.length - lo) 1 b cs.length h2⟩
    rw [← hsl]
    simp [execOp, ho, hpv, e2, hrn, Result.andThen]
theorem opok_copyKL {t t2 e te : TypeId} {d s : Operand} {n kk len off : Nat} {K : IntKind} {xs ys : List Int} (ho : o.op = .call { callee := .builtin .copy, args := #[d, s], argTypes := #[t, t2] }) (hd : st.aop d = .sub n kk off len 1) (hs : st.aop s = .ro (ints K ys)) (hn : st.obj n = some (kk, .arr e (ints K xs)))
    (ht : P.underlying t = some (.slice te)) (hz : sizeIs P te 1) (h0 : 0 < ys.length) (h1 : ys.length ≤ len) (h2 : off + len ≤ xs.length) :
    OpOk P k st o ⟨.val (.int .i64 ys.length), [(n, some (kk, .arr e (ints K (xs.take off ++ ys ++ xs.drop (off + ys.length)))))], [n], []⟩ := by
  refine ⟨fun m hm => by simpa [Writes.names] using hm, fun ψ prot obj w ρ hob hr r _ => ?_⟩
  have e1 := hd ▸ hr d (by simp [ho, Op.operands, Call.operands])
  have e2 := hs ▸ hr s (by simp [ho, Op.operands, Call.operands])
  have hnn := (hob n (by simp)).trans hn
  obtain ⟨loc, h2', b, vs0, h3, hg, hv0⟩ := r.live n kk _ hnn
  obtain ⟨b', cap, hdv, h⟩ := e1.sub_inv
  rw [h2', h3] at h; injection h with h
  injection h with h h'
  injection h with h
  subst h; subst h'
  obtain rfl := ints_vals hv0
  rcases e2.ro_inv with ⟨hnil, -⟩ | ⟨vs, b2, o2, cap2, hsv, hpr2, hvs, hcc, -⟩
  · have := congrArg List.length hnil; rw [length_ints] at this; simp only [List.length_nil] at this; omega
  rw [flat_ints] at hvs
  obtain rfl := ints_vals hvs
  rw [length_ints] at hdv hsv
  have hco : ¬ xs.length = off := by omega
  rw [if_neg hco, Nat.mul_one] at hdv
  have hlc : off + ys.length ≤ (xs.map (Value.int K)).toArray.size := by simp; omega
  have hrun := run_copy_row (P := P) w t t2 o.type te b off len (xs.length - off) ⟨b2, o2, none⟩ ys.length cap2 (xs.map (Value.int K)).toArray e (ys.map (Value.int K)) ht hz hg (by rw [List.length_map]; exact (Nat.min_eq_left h1).symm) (fun j v hj => by rw [addr_add0]; exact hcc j v hj) (by simpa using hlc) (fun v hv => by obtain ⟨z, _, rfl⟩ := List.mem_map.1 hv; rfl)
  rw [List.length_map] at hrun
  have hrow : ((xs.map (Value.int K)).toArray.toList.take off ++ ys.map (Value.int K) ++ (xs.map (Value.int K)).toArray.toList.drop (off + ys.length)) = (xs.take off ++ ys ++ xs.drop (off + ys.length)).map (Value.int K) := by simp [List.map_drop, List.map_take]
  rw [hrow] at hrun
  have hr' : (execOp ρ o).run P w = .ok (.value (.int .i64 ys.length)) (w.setRow b ((xs.take off ++ ys ++ xs.drop (off + ys.length)).map (Value.int K)).toArray) := by
    simp [execOp, ho, resolve, invoke, builtin, hdv, hsv, hrun, goInt, Result.andThen]
  rw [hr']
  have hoth : ∀ c, c < w.heap.size → (some b : Option Nat) ≠ some c → (w.setRow b ((xs.take off ++ ys ++ xs.drop (off + ys.length)).map (Value.int K)).toArray).heap[c]? = w.heap[c]? := fun c _ hc => setRow_other w b c _ (fun e => hc (by rw [e]))
  rw [h3] at h2'
  obtain ⟨k1, k2⟩ := evolve_store (w' := w.setRow b ((xs.take off ++ ys ++ xs.drop (off + ys.length)).map (Value.int K)).toArray) r.toRH n kk _ (.arr e (ints K (xs.take off ++ ys ++ xs.drop (off + ys.length)))) _ hnn h2' rfl rfl rfl (by simp [World.setRow]) hoth
    ⟨b, (xs.take off ++ ys ++ xs.drop (off + ys.length)).map (Value.int K), by simp; omega, setRow_heap w b _ _ _ _ hg, vrels_zeros K _⟩
  exact ⟨ψ, prot, k1, k2, .val _, fun m j hne => .inl hne⟩
theorem opok_copyK0 {t t2 te : TypeId} {d s : Operand} {n kk len off : Nat} (ho : o.op = .call { callee := .builtin .copy, args := #[d, s], argTypes := #[t, t2] }) (hd : st.aop d = .sub n kk off len 1) (hs : st.aop s = .ro [])
    (ht : P.underlying t = some (.slice te)) (hz : sizeIs P te 1) : OpOk P k st o ⟨.val (.int .i64 0), [], [], []⟩ :=
  opok_quiet fun ψ prot obj w ρ hob hr r => by
    have e1 := hd ▸ hr d (by simp [ho, Op.operands, Call.operands])
    have e2 := hs ▸ hr s (by simp [ho, Op.operands, Call.operands])
    obtain ⟨b', cap, hdv, h⟩ := e1.sub_inv
    rw [Nat.mul_one] at hdv
    obtain ⟨a, c2, hsv⟩ : ∃ a c2, ρ s = .slice a 0 c2 := by
      rcases e2.ro_inv with ⟨-, hnil⟩ | ⟨vs, b2, o2, cap2, hsv, -⟩
      · obtain ⟨a, c, hc⟩ := hnil
        exact ⟨a, c, hc.1⟩
      · exact ⟨_, _, hsv⟩
    have hrun := run_copy_none (P := P) w t t2 o.type te (some ⟨b', if cap = off then 0 else off, none⟩) a len (cap - off) 0 c2 ht hz (Nat.zero_min _)
    refine ⟨.int .i64 0, ?_, .val _⟩
    simp [execOp, ho, resolve, invoke, builtin, hdv, hsv, hrun, goInt, Result.andThen]
theorem opok_copyKz {t t2 te : TypeId} {d s : Operand} {n kk len off : Nat} {K : IntKind} {ys : List Int} (ho : o.op = .call { callee := .builtin .copy, args := #[d, s], argTypes := #[t, t2] }) (hd : st.aop d = .sub n kk off len 1) (hs : st.aop s = .ro (ints K ys))
    (ht : P.underlying t = some (.slice te)) (hz : sizeIs P te 1) (h0 : ys.length = 0) : OpOk P k st o ⟨.val (.int .i64 0), [], [], []⟩ := by
  obtain rfl := List.length_eq_zero_iff.1 h0
  exact opok_copyK0 ho hd hs ht hz
variable {ops : Array Oper} {N : Nat} {draw : Bool} {C : St → Prop} {os : List Oper} {env : List (Nat × AVal)} {objs : Writes} {acc : List Tr}
theorem runk_copyKL {dd : Nat} {t t2 e te : TypeId} {d s : Operand} {n kk len off : Nat} {K : IntKind} {xs ys zs : List Int} (hg : o.guard = none) (hdd : o.dst = some dd) (ho : o.op = .call { callee := .builtin .copy, args := #[d, s], argTypes := #[t, t2] })
    (hd : (⟨env, objs⟩ : St).aop d = .sub n kk off len 1) (hs : (⟨env, objs⟩ : St).aop s = .ro (ints K ys)) (hn : (⟨env, objs⟩ : St).obj n = some (kk, .arr e (ints K xs))) (ht : P.underlying t = some (.slice te)) (hz : sizeIs P te 1) (h0 : 0 < ys.length) (h1 : ys.length ≤ len) (h2 : off + len ≤ xs.length) (hzs : xs.take off ++ ys ++ xs.drop (off + ys.length) = zs)
    (r : RunK P k ops N draw os ⟨(dd, .val (.int .i64 ys.length)) :: env, (n, some (kk, .arr e (ints K zs))) :: objs⟩ (⟨.val (.int .i64 ys.length), [(n, some (kk, .arr e (ints K zs)))], [n], []⟩ :: acc) C) : RunK P k ops N draw (o :: os) ⟨env, objs⟩ acc C := by
  subst hzs
  exact runk hg hdd (opok_copyKL ho hd hs hn ht hz h0 h1 h2) r
end
end Go.Proofs.YtboddbheljenhaaGreatDoor
namespace Go.Proofs.YtboddbheljenhaaGreatDoor
open Go.RowKit
theorem pgF_len : ∀ (e : Bool) (ps : List (List UInt8)) (xs : List Nat), pgF e ps = some xs → xs.length ≤ ps.length + 1
  | e, [], xs, h => by cases h; simp
  | e, p :: r, xs, h => by
    unfold pgF at h
    by_cases c : (e && r.isEmpty && hasB p 46) = true
    · rw [if_pos c] at h
      cases e4 : p4N p with
      | none => rw [e4] at h; cases h
      | some n => rw [e4] at h; cases h; simp
    · rw [if_neg c] at h
      cases e4 : grpN p with
      | none => rw [e4] at h; cases h
      | some n =>
        rw [e4] at h
        cases e5 : pgF e r with
        | none => rw [e5] at h; cases h
        | some ys =>
          rw [e5] at h
          cases h
          have := pgF_len e r ys e5
          simp
          omega
theorem pgN_len {e : Bool} {l : List UInt8} {xs : List Nat} (h : pgN e l = some xs) : xs.length ≤ l.length + 2 := by
  unfold pgN at h
  by_cases c : l = []
  · rw [if_pos c] at h; cases h; simp
  · rw [if_neg c] at h
    have := pgF_len e _ xs h
    have := splitC_len 58 l
    omega
def pgV (e : Bool) (l : List UInt8) : AVal := match pgN e l with
  | some xs => .tuple [.ro (ints .u16 (nats xs)), .val (.bool true)]
  | none => .tuple [.val (.slice none 0 0), .val (.bool false)]
set_option maxHeartbeats 16000000 in
set_option maxRecDepth 100000 in
theorem pgs_nil (e : Bool) : Spec Tryz.prog 99 [.val (bstr []), .val (.bool e)] [] (.tuple [.val (.slice none 0 0), .val (.bool true)]) [] := by
  have d : (([] : List UInt8) == []) = true := rfl
  refine spec_of_awp Tryz.func99 rfl (Nat.le_of_ble_eq_true rfl) fun ini => ?_
  simp only [Tryz.ntmps99]
  (repeat (first | refine awp_reg_seq rfl fun k => ?_ | refine awp_seq ?_ | refine awp_true rfl ?_ | (refine awp_ret ?_; (apply ends_pure ?_ ?_ ?_ ?_ ?_ (.inl rfl); rotate_left 1; (· (exact res_two rfl rfl rfl)); (· rfl); (· rfl); (· rfl); (· rfl))) | (((((apply runk0 rfl rfl (opok_seql rfl ?_ ?_) ?_; rotate_left 2; (· ((conv => (lhs; whnf)); try exact rfl)); (· ((conv => (lhs; whnf)); try exact rfl))))))) | (apply runk0 rfl rfl (opok_move rfl ?_) ?_; rotate_left 1; (· (conv => (lhs; whnf)))) | (apply runk0 rfl rfl (opok_assign rfl ?_) ?_; rotate_left 1; (· (conv => (lhs; whnf)))) | refine runk_end (by kernel_rfl) ?_))
theorem pgs_spec (l : List UInt8) (e : Bool) (hl : l.length ≤ 100000) : Spec Tryz.prog 99 [.val (bstr l), .val (.bool e)] [] (pgV e l) [] := by
  unfold pgV
  by_cases c : l = []
  · subst c
    exact (pgs_nil e).weak (.tuple (.cons (.one .nil) (.cons (.one (.same _)) .nil)))
  · have hp : pgN e l = pgF e (splitC 58 l) := by unfold pgN; rw [if_neg c]
    rw [hp]
    cases h : pgF e (splitC 58 l) with
    | none => exact pgs_no l e hl c h
    | some xs => exact (pgs_ok l e hl c h).frz2 (by simp [nats])
def p6N (l : List UInt8) : Option (List Nat) :=
  if (Lib.cut l [58, 58]).2.2 = true then
    (pgN false (Lib.cut l [58, 58]).1).bind fun a => (pgN true (Lib.cut l [58, 58]).2.1).bind fun b => if a.length + b.length < 8 then some (a ++ List.replicate (8 - a.length - b.length) 0 ++ b) else none
  else (pgN true l).bind fun xs => if xs.length = 8 then some xs else none
def p6V (l : List UInt8) : AVal := match p6N l with
  | some xs => .tuple [.agg (ints .u16 (nats xs)), .val (.bool true)]
  | none => .tuple [.agg (ints .u16 [0, 0, 0, 0, 0, 0, 0, 0]), .val (.bool false)]
theorem zeros_drop {p : Nat} (h : p ≤ 8) : ([0, 0, 0, 0, 0, 0, 0, 0] : List Int).drop p = List.replicate (8 - p) 0 := by
  have : p = 0 ∨ p = 1 ∨ p = 2 ∨ p = 3 ∨ p = 4 ∨ p = 5 ∨ p = 6 ∨ p = 7 ∨ p = 8 := by omega
  rcases this with rfl | rfl | rfl | rfl | rfl | rfl | rfl | rfl | rfl <;> rfl
theorem cut_le (l : List UInt8) : (Lib.cut l [58, 58]).1.length ≤ l.length ∧ (Lib.cut l [58, 58]).2.1.length ≤ l.length := by
  unfold Lib.cut
  split
  · simp; omega
  · simp
theorem list8 {α : Type} {l : List α} (h : l.length = 8) : ∃ a b c d e f g i, l = [a, b, c, d, e, f, g, i] := by
  match l, h with
  | [a, b, c, d, e, f, g, i], _ => exact ⟨a, b, c, d, e, f, g, i, rfl⟩
theorem nats_app (a b : List Nat) : nats (a ++ b) = nats a ++ nats b := by simp [nats]
theorem nats_zeros (k : Nat) : nats (List.replicate k 0) = List.replicate k 0 := by simp [nats]
end Go.Proofs.YtboddbheljenhaaGreatDoor
namespace Go.Proofs.YtboddbheljenhaaGreatDoor
open Go.RowKit
end Go.Proofs.YtboddbheljenhaaGreatDoor
namespace Go.Proofs.YtboddbheljenhaaGreatDoor
open Go.RowKit
section
variable {ψ : Ghost} {prot : Nat → Prop} {w : World}
end
section
variable {P : Program} {k : Nat} {st : St} {o : Oper}
theorem opok_indexPR {t e : TypeId} {x ix : Operand} {cs : List AVal} {N sz : Nat} {kd : IntKind} {i : Int} (ho : o.op = .indexAddr t x ix) (hx : st.aop x = .rref cs) (hi : st.aop ix = .val (.int kd i)) (ht : P.underlying t = some (.array N e)) (hs : sizeIs P e sz) (h0 : 0 ≤ i) (h1 : i < N) : OpOk P k st o ⟨.rref (cs.drop (i.toNat * sz)), [], [], []⟩ :=
  opok_quiet fun ψ prot obj w ρ _ hr _ => by
    have e1 := hx ▸ hr x (by simp [ho, Op.operands])
    have e2 := (hi ▸ hr ix (by simp [ho, Op.operands]) : VRel ψ prot w (.val (.int kd i)) (ρ ix)).val_eq
    obtain ⟨vs, b, off, hpv, hp, h2, h3⟩ := e1.rref_inv
    have h4 := h2.drop (i.toNat * sz)
    refine ⟨.pointer (some ⟨b, off + i.toNat * sz, none⟩), ?_, .rref _ _ b _ hp h4.1 (fun j u hj => ?_) h4.2⟩
    · simp [execOp, ho, hpv, e2, Instr.indexAt, asIntOf, run_underlying ht, Instr.sureAddr, run_sizeIs hs, h0, h1, addr_add0, go_sem]
    · rw [List.getElem?_drop] at hj
      rw [Nat.add_assoc]; exact h3 _ u hj
end
section
variable {P : Program} {k : Nat} {ops : Array Oper} {N : Nat} {draw : Bool} {K : St → Prop} {o : Oper} {os : List Oper} {env : List (Nat × AVal)} {objs : Writes} {acc : List Tr} {d : Nat}
end
end Go.Proofs.YtboddbheljenhaaGreatDoor

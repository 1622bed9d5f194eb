/-
  Words of my own for memory: a block that is known whole ('Box'), a slice argument that is read as a list of values ('Lies'), and what keeps them. No program is named here.
-/
import Derived.WalkKit
import Derived.Below
import Derived.OneCell
import Derived.Laws.OwnMore
import Derived.Laws.Rows
import Derived.Deep.AppendLies
import Derived.Deep.Draws
import Derived.Lib.Hide
import Derived.IntWalk
import Derived.Orders
import Derived.RegionTactic
import Derived.StillTail
namespace Go.Proofs.YtboddbheljenhaaGreatDoor
open Go.RowKit

def Box (g : Nat) (t : TypeId) (cs : Array Value) (w : World) : Prop := w.heap[g]? = some (.cells cs t (0, 0))

namespace Box
variable {g : Nat} {t : TypeId} {cs : Array Value} {w w' : World}
theorem inside (h : Box g t cs w) : g < w.heap.size := lt_of_block h
theorem at_ (h : Box g t cs w) (i : Nat) : w.cell? ⟨g, i, none⟩ = cs[i]? := cell_of_row w g i cs t (0, 0) h
theorem open_ (h : Box g t cs w) (i : Nat) : w.frozen? ⟨g, i, none⟩ = false := by
  have e : w.heap[g]? = some (.cells cs t (0, 0)) := h
  simp [World.frozen?, e]
theorem made (w : World) (t : TypeId) (cs : Array Value) : Box w.heap.size t cs (w.alloc (.cells cs t)) := heap_alloc_new w _
theorem past (h : Box g t cs w) (o : Obj) : Box g t cs (w.alloc o) := by
  show (w.alloc o).heap[g]? = _
  rw [Below.heap_alloc w o g h.inside]; exact h
theorem drawn (h : Box g t cs w) : Box g t cs w.drew := h
theorem drawnN (h : Box g t cs w) (n : Nat) : Box g t cs (w.drewN n) := h
theorem under {B : Nat} (h : Box g t cs w) (hb : Below B w w') (hg : g < B) : Box g t cs w' := by
  show w'.heap[g]? = _
  rw [hb.block g hg]; exact h
theorem grow {row : Option Nat} (h : Box g t cs w) (hb : w.grownBy w' row) (hg : some g ≠ row) : Box g t cs w' := by
  show w'.heap[g]? = _
  rw [hb.block g h.inside hg]; exact h
theorem aside (h : Box g t cs w) {p : Addr} (hp : g ≠ p.block) (u : Value) : Box g t cs (w.setCell p u) := by
  show (w.setCell p u).heap[g]? = _
  rw [Below.heap_setCell w p u g hp]; exact h
theorem put (h : Box g t cs w) (i : Nat) (u : Value) : Box g t (cs.setIfInBounds i u) (w.setCell ⟨g, i, none⟩ u) := by
  have e : w.heap[g]? = some (.cells cs t (0, 0)) := h
  show (w.setCell ⟨g, i, none⟩ u).heap[g]? = _
  simp [World.setCell, Array.getElem?_modify, e]
theorem apart {g' : Nat} {t' : TypeId} {cs' : Array Value} (h : Box g t cs w) (h' : Box g' t' cs' w) (hne : t ≠ t') : g ≠ g' := by
  intro e
  subst e
  have e1 : w.heap[g]? = some (.cells cs t (0, 0)) := h
  have e2 : w.heap[g]? = some (.cells cs' t' (0, 0)) := h'
  rw [e1] at e2
  simp at e2
  exact hne e2.2
end Box

def Lies (B : Nat) (A : Option Addr) (xs : List Value) (w : World) : Prop :=
  ∀ k, k < xs.length → ∃ a v, A = some a ∧ a.block < B ∧ xs[k]? = some v ∧ w.cell? (a.add k) = some v

theorem block_add (a : Addr) (n : Nat) : (a.add n).block = a.block := by unfold Addr.add; split <;> rfl
namespace Lies
variable {B B' : Nat} {A : Option Addr} {xs : List Value} {w w' : World}
theorem nothing : Lies B A [] w := fun k hk => absurd hk (by simp)
theorem same (h : Lies B A xs w) (hk : ∀ p : Addr, p.block < B → w'.cell? p = w.cell? p) : Lies B A xs w' := fun k hk' => by
  obtain ⟨a, v, e, hb, hx, hc⟩ := h k hk'
  exact ⟨a, v, e, hb, hx, (hk _ (by rw [block_add]; exact hb)).trans hc⟩
theorem more (h : Lies B A xs w) (hB : B ≤ B') : Lies B' A xs w := fun k hk => by
  obtain ⟨a, v, e, hb, hx, hc⟩ := h k hk
  exact ⟨a, v, e, by omega, hx, hc⟩
theorem below (h : Lies B A xs w) (hb : Below B w w') : Lies B A xs w' := h.same fun _ hp => hb.cell hp
theorem alloc (h : Lies B A xs w) (hB : B ≤ w.heap.size) (o : Obj) : Lies B A xs (w.alloc o) := h.same fun p hp => World.cell?_alloc_lt w o p (by omega)
theorem setCell (h : Lies B A xs w) {p : Addr} (hB : B ≤ p.block) (u : Value) : Lies B A xs (w.setCell p u) :=
  h.same fun q hq => World.cell?_setCell_other w p q u (fun e => by subst e; omega)
theorem drew (h : Lies B A xs w) : Lies B A xs w.drew := h
theorem drewN (h : Lies B A xs w) (n : Nat) : Lies B A xs (w.drewN n) := h
theorem grown (h : Lies B A xs w) {row : Option Nat} (hg : w.grownBy w' row) (hB : B ≤ w.heap.size) (hr : ∀ g, row = some g → B ≤ g) : Lies B A xs w' :=
  h.same fun p hp => World.cell?_of_block (hg.block p.block (by omega) (fun e => by have := hr _ e.symm; omega))
theorem own {base n : Nat} {e : TypeId} {c : Nat} (h : w.ownsRow base e 1 (.slice A n c) n xs) : Lies w.heap.size A xs w := fun k hk => by
  have hl : xs.length = n := by have := h.1; omega
  obtain ⟨g, cap, hv, _, hlt⟩ := h.form (by omega)
  have hA : A = some ⟨g, 0, none⟩ := by injection hv
  subst hA
  exact ⟨_, xs[k], rfl, hlt, List.getElem?_eq_getElem hk, h.cells (g := g) rfl k _ (List.getElem?_eq_getElem hk)⟩
end Lies

theorem below_drewN {B : Nat} {a w : World} (h : Below B a w) (n : Nat) : Below B a (w.drewN n) := ⟨h.os, h.tape, h.output, h.size, h.block⟩

theorem ret_int {k : IntKind} {a b : Int} (h : a = b) : Ending.returned (.int k a) = .returned (.int k b) := by rw [h]

end Go.Proofs.YtboddbheljenhaaGreatDoor
namespace Go.Proofs.YtboddbheljenhaaGreatDoor
open Go.RowKit

structure Stays (X : Nat → Prop) (w w' : World) : Prop where
  os : w'.os = w.os
  tape : w'.tape = w.tape
  output : w'.output = w.output
  size : w.heap.size ≤ w'.heap.size
  block : ∀ k, k < w.heap.size → ¬ X k → w'.heap[k]? = w.heap[k]?

namespace Stays
variable {X : Nat → Prop} {a b c : World}
theorem refl (X : Nat → Prop) (w : World) : Stays X w w := ⟨rfl, rfl, rfl, Nat.le_refl _, fun _ _ _ => rfl⟩
theorem trans (h : Stays X a b) (k : Stays X b c) : Stays X a c :=
  ⟨k.os.trans h.os, k.tape.trans h.tape, k.output.trans h.output, Nat.le_trans h.size k.size, fun i hi hx => (k.block i (Nat.lt_of_lt_of_le hi h.size) hx).trans (h.block i hi hx)⟩
theorem of_below (h : Below a.heap.size a b) : Stays X a b := ⟨h.os, h.tape, h.output, h.size, fun i hi _ => h.block i hi⟩
theorem below (h : Stays (fun _ => False) a b) : Below a.heap.size a b := ⟨h.os, h.tape, h.output, h.size, fun i hi => h.block i hi id⟩
theorem drew (h : Stays X a b) : Stays X a b.drew := ⟨h.os, h.tape, h.output, h.size, h.block⟩
theorem of_drew (h : Stays X a.drew b) : Stays X a b := ⟨h.os, h.tape, h.output, h.size, h.block⟩
theorem cell (h : Stays X a b) {p : Addr} (hp : p.block < a.heap.size) (hx : ¬ X p.block) : b.cell? p = a.cell? p := World.cell?_of_block (w := a) (h.block p.block hp hx)
theorem alloc (X : Nat → Prop) (w : World) (o : Obj) : Stays X w (w.alloc o) := of_below ((Below.refl _ w).alloc (Nat.le_refl _) o)
end Stays

abbrev Env := Nat → Value
def updE (env : Env) (i : Nat) (v : Value) : Env := fun j => if j = i then v else env j
def updL (L : Nat → Bool) (i : Nat) : Nat → Bool := fun j => if j = i then true else L j

section
variable (P : Program) (ops : Array Oper) (base : Act)

def dstOf (i : Nat) : Option Tmp := (ops[i]?).bind (·.dst)
def pre (i j : Nat) : Bool := decide (j < ops.size) && ((Region.before ops).getD i 0).testBit j

def actL (L : Nat → Bool) (env : Env) : List Nat → Act
  | [] => base
  | j :: l => if L j then (actL L env l).put (dstOf ops j) (env j) else actL L env l

def slotL (L : Nat → Bool) (env : Env) (t : Tmp) : List Nat → Value
  | [] => base.eval (.tmp t)
  | j :: l => if L j && dstOf ops j == some t then env j else slotL L env t l

def down : Nat → List Nat
  | 0 => []
  | n + 1 => n :: down n

def specUpon (K : Value → World → Prop) : Result Next → Prop
  | .ok (.value v) w' => K v w'
  | .ok .skip w' => K undef w'
  | .ok (.enter f args) w' => Calls P f args w' fun e w'' => ∃ v, e = .returned v ∧ K v w''
  | _ => False

def OpStep (o : Oper) (A : Act) (W : World) (K : Value → World → Prop) : Prop :=
  if Region.wanted o (yielded ops A.tmps) then specUpon P K ((execOp A.eval o).run P W) else K undef W

def regionOk : Bool :=
  Region.noSelect ops &&
  (List.range ops.size).all fun i =>
    (match ops[i]? with
     | none => false
     | some o =>
       o.after.all (fun e => !Region.binds .any e || decide (e.on < i)) &&
       (match o.dst with | some d => decide (d < base.tmps.size) | none => true) &&
       (List.range ops.size).all fun j =>
         (!pre ops i j || (decide (j < i) && o.after.any fun e => Region.binds .any e && (e.on == j || pre ops e.on j))) &&
         (o.after.all fun e => !Region.binds .any e || pre ops i e.on) &&
         (j == i || pre ops i j || pre ops j i ||
           (match dstOf ops j with
            | none => true
            | some d => !(o.looksAt ops).contains d && o.dst != some d)))
end

section
variable {P : Program} {ops : Array Oper} {base : Act} {Q : Exit → Act → World → Prop}

theorem mem_down {n j : Nat} : j ∈ down n ↔ j < n := by
  induction n with
  | zero => simp [down]
  | succ n ih => simp [down, ih]; omega

theorem specUpon_wp {K : Value → World → Prop} {K' : Act → World → Prop} {o : Oper} {A : Act} {W : World} (h : specUpon P K ((execOp A.eval o).run P W))
    (hk : ∀ v w', K v w' → K' (A.put o.dst v) w') : o.wp P A W K' Q := by
  unfold Oper.wp
  generalize (execOp A.eval o).run P W = r at *
  cases r with
  | ok n w' =>
    cases n <;> simp only [specUpon] at h <;> simp only [Oper.upon]
    case value v => exact hk _ _ h
    case skip => exact hk _ _ h
    case enter f args =>
      refine Calls.mono h fun e w'' he => ?_
      obtain ⟨v, rfl, hv⟩ := he
      exact hk _ _ hv
  | halt x w' => simp only [specUpon] at h

theorem specUpon_mono {K K' : Value → World → Prop} {r : Result Next} (h : specUpon P K r) (hk : ∀ v w', K v w' → K' v w') : specUpon P K' r := by
  cases r with
  | ok n w' =>
    cases n <;> simp only [specUpon] at h ⊢
    case value v => exact hk _ _ h
    case skip => exact hk _ _ h
    case enter f args =>
      refine Calls.mono h fun e w'' he => ?_
      obtain ⟨v, rfl, hv⟩ := he
      exact ⟨v, rfl, hk _ _ hv⟩
  | halt x w' => simp only [specUpon] at h

structure RegionOk (ops : Array Oper) (base : Act) : Prop where
  sel : Region.noSelect ops = true
  less : ∀ (i : Nat) (o : Oper), ops[i]? = some o → ∀ e ∈ o.after, Region.binds .any e = true → e.on < i
  dst : ∀ (i : Nat) (o : Oper) (d : Tmp), ops[i]? = some o → o.dst = some d → d < base.tmps.size
  preLess : ∀ i j, i < ops.size → j < ops.size → pre ops i j = true → j < i
  preBy : ∀ (i j : Nat) (o : Oper), ops[i]? = some o → j < ops.size → pre ops i j = true → ∃ e ∈ o.after, Region.binds .any e = true ∧ (e.on = j ∨ pre ops e.on j = true)
  preOf : ∀ (i : Nat) (o : Oper), ops[i]? = some o → ∀ e ∈ o.after, Region.binds .any e = true → pre ops i e.on = true
  apart : ∀ (i j : Nat) (o : Oper) (d : Tmp), ops[i]? = some o → j < ops.size → j ≠ i → pre ops i j = false → pre ops j i = false → dstOf ops j = some d → d ∉ o.looksAt ops ∧ o.dst ≠ some d

theorem regionOk_spec (h : regionOk ops base = true) : RegionOk ops base := by
  unfold regionOk at h
  simp only [Bool.and_eq_true, List.all_eq_true, List.mem_range] at h
  obtain ⟨hs, h⟩ := h
  have key : ∀ i o, ops[i]? = some o → _ := fun i o ho => by
    have := h i (Array.getElem?_eq_some_iff.1 ho).1
    rw [ho] at this
    exact this
  refine ⟨hs, fun i o ho e he hb => ?_, fun i o d ho hd => ?_, fun i j hi hj hp => ?_, fun i j o ho hj hp => ?_, fun i o ho e he hb => ?_, fun i j o d ho hj hne h1 h2 hd => ?_⟩
  · have := key i o ho
    simp only [Bool.and_eq_true, Array.all_eq_true_iff_forall_mem, Bool.or_eq_true, Bool.not_eq_true', decide_eq_true_eq] at this
    exact (this.1.1 e he).resolve_left (by simp [hb])
  · have := key i o ho
    simp only [Bool.and_eq_true, hd, decide_eq_true_eq] at this
    exact this.1.2
  · obtain ⟨o, ho⟩ : ∃ o, ops[i]? = some o := ⟨_, Array.getElem?_eq_getElem hi⟩
    have := (key i o ho)
    simp only [Bool.and_eq_true, List.all_eq_true, List.mem_range] at this
    have := (this.2 j hj).1.1
    simp only [hp, Bool.not_true, Bool.false_or, Bool.and_eq_true, decide_eq_true_eq] at this
    exact this.1
  · have := (key i o ho)
    simp only [Bool.and_eq_true, List.all_eq_true, List.mem_range] at this
    have := (this.2 j hj).1.1
    simp only [hp, Bool.not_true, Bool.false_or, Bool.and_eq_true, decide_eq_true_eq] at this
    obtain ⟨e, he, hb⟩ := Array.any_eq_true'.1 this.2
    simp only [Bool.and_eq_true, Bool.or_eq_true, beq_iff_eq] at hb
    exact ⟨e, he, hb.1, hb.2⟩
  · have := (key i o ho)
    simp only [Bool.and_eq_true, List.all_eq_true, List.mem_range] at this
    have := (this.2 i (Array.getElem?_eq_some_iff.1 ho).1).1.2
    simp only [Array.all_eq_true_iff_forall_mem, Bool.or_eq_true, Bool.not_eq_true'] at this
    exact (this e he).resolve_left (by simp [hb])
  · have := (key i o ho)
    simp only [Bool.and_eq_true, List.all_eq_true, List.mem_range] at this
    have := (this.2 j hj).2
    simp only [Bool.or_eq_true, beq_iff_eq, hne, h1, h2, false_or, hd, Bool.and_eq_true, Bool.not_eq_true', Bool.false_eq_true] at this
    exact ⟨by simpa using this.1, by simpa using this.2⟩

def Closed (ops : Array Oper) (L : Nat → Bool) : Prop := ∀ i j, i < ops.size → j < ops.size → L i = true → pre ops i j = true → L j = true

theorem slot_eq {L L' : Nat → Bool} {env : Env} {t : Tmp} : ∀ l : List Nat, (∀ j ∈ l, dstOf ops j = some t → L j = L' j) → slotL ops base L env t l = slotL ops base L' env t l
  | [], _ => rfl
  | j :: l, h => by
    have ih := slot_eq (env := env) l fun k hk => h k (List.mem_cons_of_mem _ hk)
    simp only [slotL, ih]
    by_cases hd : dstOf ops j = some t
    · rw [h j List.mem_cons_self hd]
    · have : (dstOf ops j == some t) = false := by simpa using hd
      simp [this]

theorem eval_actL {L : Nat → Bool} {env : Env} {t : Tmp} (hd : ∀ j d, dstOf ops j = some d → d < base.tmps.size) : ∀ l : List Nat, (actL ops base L env l).tmps.size = base.tmps.size ∧ (actL ops base L env l).eval (.tmp t) = slotL ops base L env t l
  | [] => ⟨rfl, rfl⟩
  | j :: l => by
    obtain ⟨h1, h2⟩ := eval_actL (L := L) (env := env) (t := t) hd l
    simp only [actL, slotL]
    cases hL : L j with
    | false => simpa [hL] using ⟨h1, h2⟩
    | true =>
      simp only [if_true, Bool.true_and]
      cases hdj : dstOf ops j with
      | none => simpa [Act.put] using ⟨h1, h2⟩
      | some d =>
        refine ⟨by simp [Act.put, h1], ?_⟩
        have hlt := hd j d hdj
        by_cases hdt : d = t
        · subst hdt
          simp [Act.put, Act.eval, h1, hlt]
        · have : (some d == some t) = false := by simpa using hdt
          rw [if_neg (by simpa using hdt)]
          rw [Act.eval_put (by intro d' hd' he; injection hd' with hd'; injection he with he; exact hdt (hd'.trans he.symm))]
          exact h2

theorem actL_put {L : Nat → Bool} {env : Env} {i : Nat} {v : Value} (hi : L i = false) (hdst : ∀ j d, i < j → L j = true → dstOf ops j = some d → dstOf ops i ≠ some d) :
    ∀ n, i < n → actL ops base (updL L i) (updE env i v) (down n) = (actL ops base L env (down n)).put (dstOf ops i) v := by
  have same : ∀ n, n ≤ i → actL ops base (updL L i) (updE env i v) (down n) = actL ops base L env (down n) := by
    intro n
    induction n with
    | zero => intro _; rfl
    | succ n ih =>
      intro hn
      have hne : n ≠ i := by omega
      simp only [down, actL, updL, updE, hne, if_false, ih (by omega)]
  intro n
  induction n with
  | zero => intro h; omega
  | succ n ih =>
    intro hn
    by_cases hni : n = i
    · subst hni
      simp only [down, actL, updL, updE, if_true, same n (Nat.le_refl _), hi, Bool.false_eq_true, if_false]
    · have hin : i < n := by omega
      simp only [down, actL, updL, updE, hni, if_false, ih hin]
      cases hL : L n with
      | false => simp
      | true =>
        simp only [if_true]
        refine Act.put_comm _ _ _ fun d hd he => ?_
        exact hdst n d hin hL he hd

theorem count_upd {L : Nat → Bool} {i : Nat} (hi : L i = false) : ∀ n, i < n → ((down n).countP fun j => !L j) = ((down n).countP fun j => !updL L i j) + 1 := by
  have same : ∀ n, n ≤ i → ((down n).countP fun j => !L j) = ((down n).countP fun j => !updL L i j) := by
    intro n
    induction n with
    | zero => intro _; rfl
    | succ n ih =>
      intro hn
      have hne : n ≠ i := by omega
      simp only [down, List.countP_cons, ih (by omega), updL, hne, if_false]
  intro n
  induction n with
  | zero => intro h; omega
  | succ n ih =>
    intro hn
    by_cases hni : n = i
    · subst hni
      simp only [down, List.countP_cons, same n (Nat.le_refl _), hi, updL, if_true]
      simp
    · simp only [down, List.countP_cons, ih (by omega), updL, hni, if_false]
      omega

def headArr (m n : Nat) : Array Bool := (Array.range n).map fun i => decide (i < m)

theorem region_any {m : Nat} (hok : RegionOk ops base) (hm : m ≤ ops.size) (htail : ∀ i j, m ≤ i → i < ops.size → j < m → pre ops i j = true) (J : (Nat → Bool) → Env → World → Prop)
    (hop : ∀ i o, i < m → ops[i]? = some o → ∀ L env A W, Closed ops L → (∀ j, L j = true → j < m) → L i = false → (∀ j, j < ops.size → pre ops i j = true → L j = true) → J L env W →
      (∀ t ∈ o.looksAt ops, A.eval (.tmp t) = slotL ops base (pre ops i) env t (down i)) → OpStep P ops o A W fun v W' => J (updL L i) (updE env i v) W')
    (hend : ∀ L env W, (∀ i, i < m → L i = true) → J L env W → wpAny P .any ops Q (ops.size - m) (headArr m ops.size) (actL ops base (fun _ => true) env (down m)) W) :
    ∀ (c : Nat) (listed : Array Bool) (L : Nat → Bool) (env : Env) (W : World), listed.size = ops.size → (∀ i, i < ops.size → listed.getD i true = L i) → (∀ j, L j = true → j < m) → Closed ops L → J L env W →
      (down m).countP (fun j => !L j) = c → wpAny P .any ops Q (c + (ops.size - m)) listed (actL ops base L env (down m)) W := by
  have hdst : ∀ j d, dstOf ops j = some d → d < base.tmps.size := fun j d h => by
    unfold dstOf at h
    cases ho : ops[j]? with
    | none => simp [ho] at h
    | some o => rw [ho] at h; exact hok.dst j o d ho h
  have allOf : ∀ L : Nat → Bool, (∀ i, i < m → L i = true) → ∀ env, actL ops base L env (down m) = actL ops base (fun _ => true) env (down m) := by
    intro L hL env
    have : ∀ n, n ≤ m → actL ops base L env (down n) = actL ops base (fun _ => true) env (down n) := by
      intro n
      induction n with
      | zero => intro _; rfl
      | succ n ih => intro hn; simp only [down, actL, hL n (by omega), ih (by omega)]
    exact this _ (Nat.le_refl _)
  -- while one of the head is missing, one of them is ready
  have someReady : ∀ (listed : Array Bool) (L : Nat → Bool), listed.size = ops.size → (∀ i, i < ops.size → listed.getD i true = L i) → Region.ready .any ops listed = [] → ∀ i, i < ops.size → L i = true := by
    intro listed L hsz hL hr i
    induction i using Nat.strongRecOn with
    | _ i ih =>
      intro hi
      cases hLi : L i with
      | true => rfl
      | false =>
        exfalso
        have hmem : i ∈ Region.ready .any ops listed := by
          refine mem_ready.2 ⟨by rw [hL i hi]; exact hLi, ops[i], Array.getElem?_eq_getElem hi, fun e he hb => ?_⟩
          have hlt := hok.less i _ (Array.getElem?_eq_getElem hi) e he hb
          have h1 := ih e.on hlt (by omega)
          have h2 := hL e.on (by omega)
          rw [h1] at h2
          have h3 : e.on < listed.size := by omega
          simp [h3] at h2 ⊢
          exact h2
        rw [hr] at hmem
        cases hmem
  intro c
  induction c with
  | zero =>
    intro listed L env W hsz hL hLm hcl hJ hcnt
    have hall : ∀ i, i < m → L i = true := fun i hi => by
      have := List.countP_eq_zero.1 hcnt i (mem_down.2 hi)
      simpa using this
    have he : listed = headArr m ops.size := by
      refine Array.ext (by simp [headArr, hsz]) fun i h1 h2 => ?_
      have h3 := hL i (by omega)
      rw [show listed.getD i true = listed[i] by simp [h1]] at h3
      rw [h3]
      simp only [headArr, Array.getElem_map, Array.getElem_range]
      by_cases hi : i < m
      · rw [hall i hi]; simp [hi]
      · simp only [hi, decide_false]
        cases hLi : L i with
        | false => rfl
        | true => exact absurd (hLm i hLi) hi
    rw [allOf L hall env, Nat.zero_add, he]
    exact hend L env W hall hJ
  | succ c ih =>
    intro listed L env W hsz hL hLm hcl hJ hcnt
    obtain ⟨u, hu, hLu⟩ : ∃ u, u < m ∧ L u = false := by
      have hpos : 0 < (down m).countP (fun j => !L j) := by omega
      obtain ⟨u, hu, hLu⟩ := List.countP_pos_iff.1 hpos
      exact ⟨u, mem_down.1 hu, by simpa using hLu⟩
    rw [show c + 1 + (ops.size - m) = c + (ops.size - m) + 1 by omega]
    refine ⟨fun hr => ?_, fun i hi => ?_⟩
    · have := someReady listed L hsz hL hr u (by omega)
      rw [hLu] at this; cases this
    · obtain ⟨hun, o, ho, hall⟩ := mem_ready.1 hi
      have hlt := (Array.getElem?_eq_some_iff.1 ho).1
      have hLi : L i = false := by rw [← hL i hlt]; exact hun
      have onL : ∀ e ∈ o.after, Region.binds .any e = true → L e.on = true := fun e he hb => by
        have h1 := hall e he hb
        have h2 := hok.less i o ho e he hb
        rw [← hL e.on (by omega)]
        have h3 : e.on < listed.size := by omega
        simp [h3] at h1 ⊢
        exact h1
      have hpre : ∀ j, j < ops.size → pre ops i j = true → L j = true := fun j hj hp => by
        obtain ⟨e, he, hb, h1⟩ := hok.preBy i j o ho hj hp
        have h2 := onL e he hb
        rcases h1 with h1 | h1
        · rw [← h1]; exact h2
        · exact hcl e.on j (by have := hok.less i o ho e he hb; omega) hj h2 h1
      have him : i < m := by
        rcases Nat.lt_or_ge i m with h | h
        · exact h
        · have := hpre u (by omega) (htail i u h hlt hu)
          rw [hLu] at this; cases this
      -- whoever is listed, and is not before i, is apart from it
      have hap : ∀ j d, j < ops.size → L j = true → pre ops i j = false → dstOf ops j = some d → d ∉ o.looksAt ops ∧ o.dst ≠ some d := fun j d hj hLj hp hd => by
        refine hok.apart i j o d ho hj (fun e => by subst e; rw [hLi] at hLj; cases hLj) hp ?_ hd
        cases hpj : pre ops j i with
        | false => rfl
        | true =>
          have := hcl j i hj hlt hLj hpj
          rw [hLi] at this; cases this
      have hdi : dstOf ops i = o.dst := by simp [dstOf, ho]
      have hsees : ∀ t ∈ o.looksAt ops, (actL ops base L env (down m)).eval (.tmp t) = slotL ops base (pre ops i) env t (down i) := fun t ht => by
        rw [(eval_actL hdst _).2]
        have e1 : slotL ops base L env t (down m) = slotL ops base (pre ops i) env t (down m) := by
          refine slot_eq _ fun j hj hd => ?_
          have hj' := mem_down.1 hj
          cases hp : pre ops i j with
          | true => exact hpre j (by omega) hp
          | false =>
            cases hLj : L j with
            | false => rfl
            | true => exact absurd ht (hap j t (by omega) hLj hp hd).1
        rw [e1]
        have e2 : ∀ k, slotL ops base (pre ops i) env t (down (i + k)) = slotL ops base (pre ops i) env t (down i) ∨ m < i + k := by
          intro k
          induction k with
          | zero => exact .inl rfl
          | succ k ihk =>
            rcases ihk with h | h
            · by_cases hk : m < i + (k + 1)
              · exact .inr hk
              · left
                have hf : pre ops i (i + k) = false := by
                  cases hp : pre ops i (i + k) with
                  | false => rfl
                  | true => have := hok.preLess i (i + k) hlt (by omega) hp; omega
                show slotL ops base (pre ops i) env t ((i + k) :: down (i + k)) = _
                simp only [slotL, hf, Bool.false_and, Bool.false_eq_true, if_false]
                exact h
            · exact .inr (by omega)
        obtain ⟨k, hk⟩ : ∃ k, m = i + k := ⟨m - i, by omega⟩
        rcases e2 k with h | h
        · rw [hk]; exact h
        · omega
      have hstep := hop i o him ho L env _ W hcl hLm hLi hpre hJ hsees
      have hnext : ∀ v W', J (updL L i) (updE env i v) W' → wpAny P .any ops Q (c + (ops.size - m)) (listed.setIfInBounds i true) ((actL ops base L env (down m)).put o.dst v) W' := by
        intro v W' hJ'
        have hput := actL_put (ops := ops) (base := base) (env := env) (v := v) hLi (fun j d hij hLj hd => by
          rw [hdi]
          rcases Nat.lt_or_ge j ops.size with hj | hj
          · cases hp : pre ops i j with
            | true => have := hok.preLess i j hlt hj hp; omega
            | false => exact (hap j d hj hLj hp hd).2
          · simp [dstOf, Array.getElem?_eq_none hj] at hd) m him
        rw [hdi] at hput
        rw [← hput]
        refine ih _ (updL L i) (updE env i v) W' (by simp [hsz]) (fun j hj => ?_) (fun j hj => ?_) (fun a b ha hb hLa hp => ?_) hJ' ?_
        · by_cases hji : j = i
          · subst hji; simp [updL, hsz, hlt]
          · rw [getD_set_ne true (Ne.symm hji), hL j hj]; simp [updL, hji]
        · unfold updL at hj
          by_cases hji : j = i
          · omega
          · rw [if_neg hji] at hj; exact hLm j hj
        · unfold updL at *
          by_cases hbi : b = i
          · simp [hbi]
          · rw [if_neg hbi]
            by_cases hai : a = i
            · subst hai; exact hpre b hb hp
            · rw [if_neg hai] at hLa; exact hcl a b ha hb hLa hp
        · have := count_upd hLi m him; omega
      unfold OpStep at hstep
      unfold wpOp
      simp only [ho]
      split
      · rename_i hw
        rw [if_pos hw] at hstep
        exact .inl (specUpon_wp hstep hnext)
      · rename_i hw
        rw [if_neg hw] at hstep
        exact hnext _ _ hstep

/-! ### Facts, and boxes that the region itself makes and fills -/

abbrev Fact := Env → Value → World → Prop

structure OnlyBlock (g : Nat) (w w' : World) : Prop where
  os : w'.os = w.os
  tape : w'.tape = w.tape
  output : w'.output = w.output
  size : w'.heap.size = w.heap.size
  block : ∀ k, k ≠ g → w'.heap[k]? = w.heap[k]?

theorem OnlyBlock.refl (g : Nat) (w : World) : OnlyBlock g w w := ⟨rfl, rfl, rfl, rfl, fun _ _ => rfl⟩
theorem OnlyBlock.setCell {g : Nat} {a w : World} (h : OnlyBlock g a w) {p : Addr} (hp : p.block = g) (u : Value) : OnlyBlock g a (w.setCell p u) :=
  ⟨h.os, h.tape, h.output, by simp [World.setCell, h.size], fun k hk => by rw [Below.heap_setCell _ _ _ _ (by omega)]; exact h.block k hk⟩
theorem OnlyBlock.stays {g : Nat} {X : Nat → Prop} {w0 w w' : World} (h : OnlyBlock g w w') (h0 : Stays X w0 w) (hg : w0.heap.size ≤ g) : Stays X w0 w' :=
  ⟨h.os.trans h0.os, h.tape.trans h0.tape, h.output.trans h0.output, by rw [h.size]; exact h0.size, fun k hk hx => (h.block k (by omega)).trans (h0.block k hk hx)⟩

inductive Kind where
  | fact (r : Fact)
  | made (t : TypeId) (z : Array Value)
  | put (i : Nat) (t : TypeId) (C : Env → Array Value)

def ptr (g : Nat) : Value := .pointer (some ⟨g, 0, none⟩)

def Kind.holds (B : Nat) (env : Env) (W : World) (i : Nat) : Kind → Prop
  | .fact r => r env (env i) W
  | .made _ _ => ∃ g, env i = ptr g ∧ B ≤ g ∧ g < W.heap.size
  | .put j t C => ∃ g, env j = ptr g ∧ B ≤ g ∧ Box g t (C env) W

def kindAt (Ks : List Kind) (i : Nat) : Kind := Ks.getD i (.fact fun _ _ _ => True)

def Kind.spec (P : Program) (ops : Array Oper) (base : Act) (X : Nat → Prop) (I : World → Prop) (E : World → World → Prop) (w0 : World) (Ks : List Kind) (i : Nat) (o : Oper) : Kind → Prop
  | .fact r =>
    (∀ env env' v W, (∀ j, pre ops i j = true → env j = env' j) → r env v W → r env' v W) ∧ (∀ env v W W', E W W' → r env v W → r env v W') ∧
    ∀ env A W, Stays X w0 W → I W → (∀ j, pre ops i j = true → (kindAt Ks j).holds w0.heap.size env W j) →
       (∀ t ∈ o.looksAt ops, A.eval (.tmp t) = slotL ops base (pre ops i) env t (down i)) → OpStep P ops o A W fun v W' => Stays X W W' ∧ I W' ∧ r env v W'
  | .made t z => (∀ W, I W → I (W.alloc (.cells z t))) ∧ ∀ A W, OpStep P ops o A W fun v W' => v = ptr W.heap.size ∧ W' = W.alloc (.cells z t)
  | .put m t C => m < ops.size ∧ pre ops i m = true ∧ (∃ z, kindAt Ks m = .made t z) ∧ (∀ g W W', w0.heap.size ≤ g → OnlyBlock g W W' → (E W W' ∧ (I W → I W'))) ∧
    (∀ env env', (∀ j, pre ops i j = true → env j = env' j) → C env = C env') ∧
    ∀ env A W g z, Stays X w0 W → I W → (∀ j, pre ops i j = true → (kindAt Ks j).holds w0.heap.size env W j) → kindAt Ks m = .made t z → env m = ptr g → Box g t z W →
       (∀ t ∈ o.looksAt ops, A.eval (.tmp t) = slotL ops base (pre ops i) env t (down i)) → OpStep P ops o A W fun _ W' => Box g t (C env) W' ∧ OnlyBlock g W W'

def Specs (P : Program) (ops : Array Oper) (base : Act) (X : Nat → Prop) (I : World → Prop) (E : World → World → Prop) (w0 : World) (Ks : List Kind) : Nat → List Oper → List Kind → Prop
  | _, [], _ => True
  | _, _ :: _, [] => False
  | i, o :: os, k :: ks => k.spec P ops base X I E w0 Ks i o ∧ Specs P ops base X I E w0 Ks (i + 1) os ks

def putsOk : List Kind → Bool
  | [] => true
  | .put m _ _ :: ks => ks.all (fun k => match k with | .put m' _ _ => m' != m | _ => true) && putsOk ks
  | _ :: ks => putsOk ks
structure Known (m : Nat) (X : Nat → Prop) (I : World → Prop) (w0 : World) (Ks : List Kind) (L : Nat → Bool) (env : Env) (W : World) : Prop where
  stays : Stays X w0 W
  inv : I W
  facts : ∀ i, i < m → L i = true → (kindAt Ks i).holds w0.heap.size env W i
  made : ∀ i t z, i < m → L i = true → kindAt Ks i = .made t z → (∀ s t' C, s < m → kindAt Ks s = .put i t' C → L s = false) → ∃ g, env i = ptr g ∧ w0.heap.size ≤ g ∧ Box g t z W
  alone : ∀ i j t z t' z', i < m → j < m → L i = true → L j = true → kindAt Ks i = .made t z → kindAt Ks j = .made t' z' → env i = env j → i = j

def putAll : List Oper → Env → Nat → Act → Act
  | [], _, _, a => a
  | o :: os, env, k, a => putAll os env (k + 1) (a.put o.dst (env k))
def tailOk (ops : Array Oper) (m : Nat) : Bool :=
  decide (m ≤ ops.size) && ((List.range ops.size).all fun i => decide (i < m) || (List.range m).all fun j => pre ops i j) && Region.seqB .any ops (ops.size - m) m (headArr m ops.size)

end
end Go.Proofs.YtboddbheljenhaaGreatDoor

/-
  Copies of slices by 'append(S([]E{}), s...)': a nil slice, one without elements, and others; and rows of structs that are made. By states. No program is named here.
-/
import Derived.Test.YtddafnipfkeejaaAbsBl
import Derived.Test.YtddafnipfkeejaaAbsZ
import Derived.Laws.Cover3
namespace Go.Proofs.Ytddafnipfkeejaa
open Go.RowKit
/-- A list without elements is a nil slice, or another one without elements. -/
theorem spec_nil_split {P : Program} {f : FuncId} {v : AVal} (h1 : Spec P f [.val (.slice none 0 0)] [] v []) (h2 : ∀ ad cap, Spec P f [.val (.slice (some ad) 0 cap)] [] v []) : Spec P f [.ro []] [] v [] := by
  intro ψ prot w cargs hψ hr hs ha
  have hs1 : 0 < cargs.size := by simp at hs; omega
  have h0 := ha 0 _ cargs[0] rfl (by simp [hs1])
  have hall : ∀ u : Value, cargs[0] = u → ∀ (i : Nat) (x : AVal) (y : Value), [AVal.val u][i]? = some x → cargs[i]? = some y → VRel ψ prot w x y := fun u hu i x y q1 q2 => by
    match i, q1 with
    | 0, q1 =>
      injection q1 with q1
      subst q1
      rw [Array.getElem?_eq_getElem hs1, hu] at q2
      injection q2 with q2
      subst q2
      exact .val _
    | i + 1, q1 => simp at q1
  rcases h0.ro_inv with ⟨-, a, cap, hv, hn⟩ | ⟨vs, b, o, cap, hv, hp, g1, g2, g3⟩
  · cases a with
    | none =>
      have := hn rfl
      subst this
      exact h1 ψ prot w cargs hψ hr (by simpa using hs) (hall _ hv)
    | some ad => exact h2 ad cap ψ prot w cargs hψ hr (by simpa using hs) (hall _ hv)
  · exact h2 _ cap ψ prot w cargs hψ hr (by simpa using hs) (hall _ hv)
/-- A slice without elements, seen as a list. -/
theorem awp_ro_val {P : Program} {N : Nat} {ini : Ini} {Q : Exit → St → Prop} {c : Code} {env : List (Nat × AVal)} {objs : Writes} {t : Nat} {ad : Addr} {cap : Nat} (h0 : (⟨env, objs⟩ : St).get t = .val (.slice (some ad) 0 cap)) (h : Awp P N ini c Q ⟨(t, .ro []) :: env, objs⟩) : Awp P N ini c Q ⟨env, objs⟩ := by
  refine awp_weaken (fun a w r => ?_) h
  obtain ⟨h1, h2, ψ, prot, h3, h4, h5, h6⟩ := r
  refine ⟨h1, h2, ψ, prot, h3, h4, h5, fun u => ?_⟩
  by_cases hu : u = t
  · subst hu
    have e1 := h6 u
    rw [h0] at e1
    have e2 := e1.val_eq
    have e3 : (⟨(u, .ro []) :: env, objs⟩ : St).get u = .ro [] := by simp [St.get]
    rw [e3, e2]
    exact .roNil _ _ fun q => by cases q
  · have e3 : (⟨(t, .ro []) :: env, objs⟩ : St).get u = (⟨env, objs⟩ : St).get u := by
      have : (u == t) = false := by simpa using hu
      simp [St.get, List.lookup_cons, this]
    rw [e3]
    exact h6 u
section
variable {P : Program} {k : Nat} {st : St} {o : Oper}
/-- A slice with elements is not nil. -/
theorem opok_eqNil {t u s1 : TypeId} {x : Operand} {es : List AVal} (ho : o.op = .binOp .eql t x (.const (.slice none 0 0)) u) (hx : st.aop x = .ro es) (hes : 0 < es.length) (ht : P.underlying t = some (.slice s1)) : OpOk P k st o ⟨.val (.bool false), [], [], []⟩ :=
  opok_quiet fun ψ prot obj w ρ _ hr r => by
    have e1 := hx ▸ hr x (by simp [ho, Op.operands])
    have e2 := (hr (.const (.slice none 0 0)) (by simp [ho, Op.operands]) : VRel ψ prot w (.val (.slice none 0 0)) (ρ (.const (.slice none 0 0)))).val_eq
    rcases e1.ro_inv with ⟨q, -⟩ | ⟨vs, b, off, cap, hv, -, -, -, -⟩
    · rw [q] at hes; simp at hes
    · refine ⟨.bool false, ?_, .val _⟩
      have hrun := run_equal_slice_nil (P := P) w t s1 (some ⟨b, off, none⟩) es.length cap ht
      have hb : (binOp .eql t (.slice (some ⟨b, off, none⟩) es.length cap) (.slice none 0 0)).run P w = .ok (.bool false) w := by
        simp [binOp, hrun, Sem.run_bind, Sem.run_pure, Result.andThen_ok]
      have hg : (eqGuard .eql t x (.const (.slice none 0 0)) (.slice (some ⟨b, off, none⟩) es.length cap) (.slice none 0 0)).run P w = .ok () w := rfl
      simp only [execOp, ho, hv, e2, Sem.run_bind, Sem.run_pure, Result.andThen_ok, hb, hg]
theorem made_cells {z : Value} {cs : List Value} (hz : z.cells = cs.toArray) (h0 : 0 < cs.length) (m : Nat) : (madeCells z.cells (m * cs.length)).toList = (List.replicate m cs).flatten := by
  rw [hz]
  induction m with
  | zero => simp [madeCells]
  | succ m ih =>
    rw [List.replicate_succ', List.flatten_append, ← ih]
    simp only [List.flatten_cons, List.flatten_nil, List.append_nil]
    apply List.ext_getElem
    · simp [size_madeCells, Nat.succ_mul]
    · intro i h1 h2
      simp only [madeCells, Array.toList_map, Array.toList_range, List.getElem_map, List.getElem_range, List.size_toArray] at h1 h2 ⊢
      rw [List.getElem_append]
      split
      · simp
      · rename_i h3
        simp only [List.length_map, List.length_range] at h3 ⊢
        have hlt : i < (m + 1) * cs.length := by simpa using h1
        have e1 : i % cs.length = i - m * cs.length := by
          have : i = (i - m * cs.length) + m * cs.length := by omega
          rw [this, Nat.add_mul_mod_self_right, Nat.mod_eq_of_lt (by rw [Nat.succ_mul] at hlt; omega)]
          omega
        simp [e1, show i - m * cs.length < cs.length by rw [Nat.succ_mul] at hlt; omega]
theorem flatten_repl (cs : List Value) (x : AVal) (hx : x.flat = cs.map .val) : ∀ m : Nat, (List.replicate m x).flatMap AVal.flat = ((List.replicate m cs).flatten).map .val
  | 0 => rfl
  | m + 1 => by rw [List.replicate_succ, List.flatMap_cons, flatten_repl cs x hx m, hx, List.replicate_succ, List.flatten_cons, List.map_append]
/-- A row of structs is made. -/
theorem opok_makeS {t e : TypeId} {l c : Operand} (d : Nat) {z : Value} {zv : AVal} {cs : List Value} {bytes sz : Nat} {m : Int} (ho : o.op = .makeSlice t l c) (hl : st.aop l = .val (.int .i64 m)) (hc : st.aop c = .val (.int .i64 m)) (ht : P.underlying t = some (.slice e))
    (hi : (P.info? e).map (fun i => (i.zero, i.size, i.bytes)) = some (some z, sz, bytes)) (hz : z.cells = cs.toArray) (hsz : cs.length = sz) (h00 : 0 < sz) (hs30 : sz ≤ 100) (hf : zv.flat = cs.map .val) (hby : bytes ≤ 1000) (h0 : 0 ≤ m) (h1 : m ≤ 16777216) :
    OpOk P k st o ⟨.own d k m.toNat, [(d, some (k, .row e sz (List.replicate m.toNat zv)))], [d], [d]⟩ :=
  opok_new fun ψ prot w ρ hr => by
    subst hsz
    obtain ⟨i, hi0, hz0, hs0, hb0⟩ := info_parts hi
    have e1 := (hl ▸ hr l (by simp [ho, Op.operands])).val_eq
    have e2 := (hc ▸ hr c (by simp [ho, Op.operands])).val_eq
    have hrun := run_make (P := P) w t e i z ht hi0 hz0 .i64 .i64 m m h0 (Int.le_refl _) (by rw [hb0]; have : m * (bytes : Int) ≤ 16777216 * 1000 := Int.mul_le_mul h1 (by omega) (by omega) (by omega); rw [Int.mul_comm] at this; omega) (by omega)
    rw [hs0] at hrun
    refine ⟨.slice (some ⟨w.heap.size, 0, none⟩) m.toNat m.toNat, .cells (madeCells z.cells (m.toNat * cs.length)) e (0, 0), m.toNat, by unfold execOp; simp only [ho, e1, e2, Sem.run_bind, hrun, Result.andThen_ok, Sem.run_pure], fun ψ' hψ hpr => ⟨(List.replicate m.toNat cs).flatten, ?_, ?_⟩, fun ψ' h => .own d k _ _ h⟩
    · have := World.ownsRow_lit (base := 0) (size := cs.length) (e := e) w (madeCells z.cells (m.toNat * cs.length)) m.toNat (Nat.zero_le _) (by unfold maxLen; omega) (by simp [size_madeCells])
      rw [made_cells hz h00] at this
      simpa using this
    · rw [flatten_repl cs zv hf]; exact VRels.vals
variable {ops : Array Oper} {N : Nat} {draw : Bool} {K : St → Prop} {os : List Oper} {env : List (Nat × AVal)} {objs : Writes} {acc : List Tr} {d : Nat}
theorem runk_makeS {t e : TypeId} {l c : Operand} {z : Value} {zv : AVal} {cs : List Value} {bytes sz : Nat} {m : Int} (hg : o.guard = none) (hd : o.dst = some d) (ho : o.op = .makeSlice t l c) (hl : (⟨env, objs⟩ : St).aop l = .val (.int .i64 m)) (hc : (⟨env, objs⟩ : St).aop c = .val (.int .i64 m)) (ht : P.underlying t = some (.slice e))
    (hi : (P.info? e).map (fun i => (i.zero, i.size, i.bytes)) = some (some z, sz, bytes)) (hz : z.cells = cs.toArray) (hsz : cs.length = sz) (h00 : 0 < sz) (hs30 : sz ≤ 100) (hf : zv.flat = cs.map .val) (hby : bytes ≤ 1000) (h0 : 0 ≤ m) (h1 : m ≤ 16777216)
    (r : RunK P k ops N draw os ⟨(d, .own d k m.toNat) :: env, (d, some (k, .row e sz (List.replicate m.toNat zv))) :: objs⟩ (⟨.own d k m.toNat, [(d, some (k, .row e sz (List.replicate m.toNat zv)))], [d], [d]⟩ :: acc) K) : RunK P k ops N draw (o :: os) ⟨env, objs⟩ acc K :=
  runk hg hd (opok_makeS d ho hl hc ht hi hz hsz h00 hs30 hf hby h0 h1) r
theorem runk_eqNil {t u s1 : TypeId} {x : Operand} {es : List AVal} (hg : o.guard = none) (hd : o.dst = some d) (ho : o.op = .binOp .eql t x (.const (.slice none 0 0)) u) (hx : (⟨env, objs⟩ : St).aop x = .ro es) (hes : 0 < es.length) (ht : P.underlying t = some (.slice s1))
    (r : RunK P k ops N draw os ⟨(d, .val (.bool false)) :: env, objs⟩ (⟨.val (.bool false), [], [], []⟩ :: acc) K) : RunK P k ops N draw (o :: os) ⟨env, objs⟩ acc K :=
  runk0 hg hd (opok_eqNil ho hx hes ht) r
/-- Setting an element of a row. -/
theorem cells_set (sz : Nat) (hsz : 0 < sz) : ∀ (es : List AVal) (i : Nat) (x : AVal), widths sz es = true → x.flat.length = sz → i < es.length → setCells (es.flatMap AVal.flat) (i * sz) x.flat = (es.set i x).flatMap AVal.flat
  | [], i, x, _, _, hi => by simp at hi
  | e :: es, 0, x, hw, hx, _ => by
    have h0 := widths_spec hw e List.mem_cons_self
    simp only [List.set_cons_zero, List.flatMap_cons, setCells, Nat.zero_mul, Nat.zero_add]
    rw [List.take_zero, List.nil_append]
    rw [List.drop_left' (by rw [h0, hx])]
  | e :: es, i + 1, x, hw, hx, hi => by
    have h0 := widths_spec hw e List.mem_cons_self
    have h1 : widths sz es = true := by simp only [widths, List.all_cons, Bool.and_eq_true] at hw; exact hw.2
    have ih := cells_set sz hsz es i x h1 hx (by simpa using hi)
    simp only [List.set_cons_succ, List.flatMap_cons]
    rw [← ih]
    unfold setCells
    have a1 : (i + 1) * sz - sz = i * sz := by rw [Nat.add_mul]; omega
    have a2 : (i + 1) * sz + x.flat.length - sz = i * sz + x.flat.length := by rw [Nat.add_mul]; omega
    have a3 : List.drop ((i + 1) * sz + x.flat.length) e.flat = [] := List.drop_eq_nil_of_le (by rw [h0, Nat.add_mul]; omega)
    have a4 : List.take ((i + 1) * sz) e.flat = e.flat := List.take_of_length_le (by rw [h0, Nat.add_mul]; omega)
    rw [List.take_append, List.drop_append, a3, a4, h0, a1, a2]
    simp only [List.append_assoc, List.nil_append]
/-- A whole struct is stored into a row. -/
theorem runk_setS {t e : TypeId} {p x : Operand} {n kk off sz m : Nat} {es : List AVal} {v : AVal} (hg : o.guard = none) (hd : o.dst = none) (ho : o.op = .store t p x) (hp : (⟨env, objs⟩ : St).aop p = .ptr n kk off) (hx : (⟨env, objs⟩ : St).aop x = v) (hn : (⟨env, objs⟩ : St).obj n = some (kk, .row e sz es)) (hk : v.known = true) (hfl : v.flat.length = sz) (h1 : v.flat.all AVal.one = true) (hs : sizeIs P t sz) (hsz : 0 < sz) (hm : off = m * sz) (hw : widths sz es = true) (hf : m < es.length)
    (r : RunK P k ops N draw os ⟨env, (n, some (kk, .row e sz (es.set m v))) :: objs⟩ (⟨.any, [(n, some (kk, .row e sz (es.set m v)))], [n], []⟩ :: acc) K) : RunK P k ops N draw (o :: os) ⟨env, objs⟩ acc K := by
  subst hm
  refine runkN hg hd (opok_storeRow (es' := es.set m v) (fs := v.flat) ho hp hn hx hk rfl h1 (by rw [hfl]; exact hs) ?_ (by simp) (cells_set sz hsz es m v hw hfl hf)) r
  rw [widths_flat hw, hfl]
  have : (m + 1) * sz ≤ es.length * sz := Nat.mul_le_mul_right _ hf
  rw [Nat.add_mul] at this
  omega
end
end Go.Proofs.Ytddafnipfkeejaa

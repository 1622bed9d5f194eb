/-
  The steps of a walk by states, one for each kind of operation. No program is named here.
-/
import Derived.Test.YtojapodjlpffdaaAbsUse
namespace Go.Proofs.Ytojapodjlpffdaa
open Go.RowKit
theorem Ren.pureR {g : List (Nat × Nat × Nat × Nat)} {x y : AVal} (h : y.pure = true) (e : x = y) : Ren g x y := e ▸ .pure _ (e ▸ h)
theorem ints_one (k : IntKind) (a : Int) : [AVal.val (.int k a)] = ints k [a] := rfl
theorem ints_consR (k : IntKind) (a : Int) (xs : List Int) : AVal.val (.int k a) :: ints k xs = ints k (a :: xs) := rfl
section
variable {P : Program} {k : Nat} {ops : Array Oper} {N : Nat} {draw : Bool} {K : St → Prop} {o : Oper} {os : List Oper} {env : List (Nat × AVal)} {objs : Writes} {acc : List Tr} {d : Nat}
theorem runk_lit {t e : TypeId} {len : Nat} {parts : Array (Nat × Operand)} {z : Value} {sz : Nat} {es : List AVal} (hg : o.guard = none) (hd : o.dst = some d) (ho : o.op = .buildSlice t len parts) (ht : P.underlying t = some (.slice e)) (hs : sizeIs P e sz) (hz : (P.info? e).bind (·.zero) = some z)
    (hsz : Nat.ble 1 sz = true) (h0 : Nat.ble 1 len = true) (hlen : Nat.ble (len * sz) 16777216 = true) (hpl : parts.toList.length = len) (hp : PartsAre ⟨env, objs⟩ parts.toList 0 es) (hk : es.all AVal.known = true) (hw : widths sz es = true)
    (t : RunK P k ops N draw os ⟨(d, .own d k len) :: env, (d, some (k, .row e sz es)) :: objs⟩ (⟨.own d k len, [(d, some (k, .row e sz es))], [d], [d]⟩ :: acc) K) : RunK P k ops N draw (o :: os) ⟨env, objs⟩ acc K := by
  cases hi : P.info? e with
  | none => rw [hi] at hz; cases hz
  | some i =>
    unfold sizeIs at hs
    rw [hi] at hs hz
    have hz' : i.zero = some z := hz
    simp only [Option.map_some, Option.some.injEq] at hs
    exact runk hg hd (opok_lit (z := z) (bytes := i.bytes) d ho ht (by rw [hi]; simp [hs, hz']) hsz h0 hlen hpl hp hk hw) t
theorem runk_app {t e : TypeId} {s x : Operand} {sv xv : AVal} {z : Value} {sz bytes : Nat} {kl tl : List Nat} {es1 es2 es : List AVal} (hg : o.guard = none) (hd : o.dst = some d) (ho : o.op = .call { callee := .builtin .append, args := #[s, x], argTypes := #[t, t] })
    (hs : (⟨env, objs⟩ : St).aop s = sv) (hx : (⟨env, objs⟩ : St).aop x = xv) (ht : P.underlying t = some (.slice e)) (hsi : sizeIs P e sz) (hzz : (P.info? e).bind (·.zero) = some z) (hbb : (P.info? e).map (·.bytes) = some bytes) (hz : Nat.beq z.cells.size sz = true) (hsz : Nat.ble 1 sz = true) (hby : Nat.ble bytes 140 = true)
    (hb : BaseIs ⟨env, objs⟩ e sz sv kl es1) (hsrc : SrcIs ⟨env, objs⟩ xv tl es2) (hw : widths sz es2 = true) (h1 : (es2.flatMap AVal.flat).all AVal.one = true) (hN : es1.length + es2.length ≤ 1000000000000) (hes : es1 ++ es2 = es)
    (t : RunK P k ops N draw os ⟨(d, .own d k es.length) :: env, (d, some (k, .row e sz es)) :: (kl.map (fun n => (n, none)) ++ objs)⟩ (⟨.own d k es.length, (d, some (k, .row e sz es)) :: kl.map (fun n => (n, none)), d :: (kl ++ tl), [d]⟩ :: acc) K) : RunK P k ops N draw (o :: os) ⟨env, objs⟩ acc K := by
  cases hi : P.info? e with
  | none => rw [hi] at hzz; cases hzz
  | some i =>
    unfold sizeIs at hsi
    rw [hi] at hsi hzz hbb
    have hz' : i.zero = some z := hzz
    simp only [Option.map_some, Option.some.injEq] at hsi hbb
    exact runk hg hd (opok_app (z := z) (bytes := bytes) d ho hs hx ht (by rw [hi]; simp [hsi, hz', hbb]) hz hsz hby hb hsrc hw h1 hN hes) t
theorem runk_box {t : TypeId} {x : Operand} {v : AVal} {cs : List AVal} (hg : o.guard = none) (hd : o.dst = some d) (ho : o.op = .box t x) (hx : (⟨env, objs⟩ : St).aop x = v) (hk : v.known = true) (hcs : v.flat = cs)
    (t : RunK P k ops N draw os ⟨(d, .ptr d k 0) :: env, (d, some (k, .box t cs)) :: objs⟩ (⟨.ptr d k 0, [(d, some (k, .box t cs))], [d], [d]⟩ :: acc) K) : RunK P k ops N draw (o :: os) ⟨env, objs⟩ acc K :=
  runk hg hd (opok_box d ho hx hk hcs) t
theorem runk_alloc {t : TypeId} {z : Value} {cs : List AVal} (hg : o.guard = none) (hd : o.dst = some d) (ho : o.op = .alloc t) (hz : (P.info? t).bind (·.zero) = some z) (hcs : (AVal.val z).flat = cs)
    (t : RunK P k ops N draw os ⟨(d, .ptr d k 0) :: env, (d, some (k, .box t cs)) :: objs⟩ (⟨.ptr d k 0, [(d, some (k, .box t cs))], [d], [d]⟩ :: acc) K) : RunK P k ops N draw (o :: os) ⟨env, objs⟩ acc K :=
  runk hg hd (opok_alloc d ho hz hcs) t
theorem runk_store {t bt : TypeId} {p x : Operand} {n kk off m : Nat} {cs fs cs' : List AVal} {v : AVal} (hg : o.guard = none) (hd : o.dst = none) (ho : o.op = .store t p x) (hp : (⟨env, objs⟩ : St).aop p = .ptr n kk off) (hx : (⟨env, objs⟩ : St).aop x = v) (hn : (⟨env, objs⟩ : St).obj n = some (kk, .box bt cs)) (hk : v.known = true) (hfs : v.flat = fs)
    (h1 : fs.all AVal.one = true) (hs : sizeIs P t m) (hm : fs.length = m) (hf : Nat.ble (off + m) cs.length = true) (hcs : setCells cs off fs = cs')
    (t : RunK P k ops N draw os ⟨env, (n, some (kk, .box bt cs')) :: objs⟩ (⟨.any, [(n, some (kk, .box bt cs'))], [n], []⟩ :: acc) K) : RunK P k ops N draw (o :: os) ⟨env, objs⟩ acc K :=
  runkN hg hd (opok_store ho hp hn hx hk hfs h1 (by rw [hm]; exact hs) (by rw [hm]; exact Nat.le_of_ble_eq_true hf) hcs) t
theorem runk_fa {s : TypeId} {p : Operand} {f n kk off m off' : Nat} {fs : Array Field} {fd : Field} (hg : o.guard = none) (hd : o.dst = some d) (ho : o.op = .fieldAddr s p f) (hp : (⟨env, objs⟩ : St).aop p = .ptr n kk off) (hu : P.underlying s = some (.struct fs)) (hf : fs[f]? = some fd) (hs : sizeIs P fd.type m) (hm : Nat.ble 1 m = true) (hoff : off + fd.offset = off')
    (t : RunK P k ops N draw os ⟨(d, .ptr n kk off') :: env, objs⟩ (⟨.ptr n kk off', [], [], []⟩ :: acc) K) : RunK P k ops N draw (o :: os) ⟨env, objs⟩ acc K := by
  subst hoff
  exact runk0 hg hd (opok_fieldAddr ho hp hu hf hs (by have := Nat.le_of_ble_eq_true hm; omega)) t
theorem opok_fieldAddr0 {st : St} {s : TypeId} {p : Operand} {f n kk off m off' : Nat} {fs : Array Field} {fd : Field} (ho : o.op = .fieldAddr s p f) (hp : st.aop p = .ptr n kk off) (hu : P.underlying s = some (.struct fs)) (hf : fs[f]? = some fd) (hs : sizeIs P fd.type m) (hm : Nat.ble 1 m = true) (hoff : off + fd.offset = off') :
    OpOk P k st o ⟨.ptr n kk off', [], [], []⟩ := by
  subst hoff
  exact opok_fieldAddr ho hp hu hf hs (by have := Nat.le_of_ble_eq_true hm; omega)
theorem runk_assignOwn {x : Operand} {n kk len : Nat} {ob : AObj} (hg : o.guard = none) (hd : o.dst = some d) (ho : o.op = .assign x) (hx : (⟨env, objs⟩ : St).aop x = .own n kk len) (hn : (⟨env, objs⟩ : St).obj n = some (kk, ob))
    (t : RunK P k ops N draw os ⟨(d, .own d k len) :: env, (d, some (k, ob)) :: (n, none) :: objs⟩ (⟨.own d k len, [(d, some (k, ob)), (n, none)], [d, n], [d]⟩ :: acc) K) : RunK P k ops N draw (o :: os) ⟨env, objs⟩ acc K :=
  runk hg hd (opok_assignOwn d ho hx hn) t
theorem runk_call {x : Operand} {xs : Array Operand} {ats : Array TypeId} {f : FuncId} {fn : Func} {c : Code} {caps cargs : List AVal} {v0 v : AVal} {objs' : Writes} (bs : List Bind) (fr : Option AObj) (hg : o.guard = none) (hd : o.dst = some d)
    (ho : o.op = .call { callee := .value x, args := xs, argTypes := ats }) (hx : (⟨env, objs⟩ : St).aop x = .fn f caps) (hf : P.funcs[f]? = some fn) (hn : (fn.name == "runtime.NumGoroutine") = false) (hb : fn.body = some c)
    (hspec : Spec P f cargs (bindIn bs) v0 objs') (hr : Rens (bindG bs) (xs.toList.map (⟨env, objs⟩ : St).aop ++ caps) cargs) (hout : objs' = bindOut bs fr) (hv : RenT (bindBack bs fr d k) v0 v)
    (hobj : ∀ b ∈ bs, (⟨env, objs⟩ : St).obj b.n = some (b.k, b.o)) (hok : bindOk bs fr d = true)
    (t : RunK P k ops N draw os ⟨(d, v) :: env, bindWr bs fr d k ++ objs⟩ (⟨v, bindWr bs fr d k, bindTouch bs fr d, fr.toList.map fun _ => d⟩ :: acc) K) : RunK P k ops N draw (o :: os) ⟨env, objs⟩ acc K :=
  runk hg hd (opok_call bs fr ho hx hf hn hb hr hspec hout hv hobj hok) t
/-- A call that is given values alone, and yields one. -/
theorem runk_pure {x : Operand} {xs : Array Operand} {ats : Array TypeId} {f : FuncId} {fn : Func} {c : Code} {caps cargs : List AVal} {v : AVal} (hg : o.guard = none) (hd : o.dst = some d)
    (ho : o.op = .call { callee := .value x, args := xs, argTypes := ats }) (hx : (⟨env, objs⟩ : St).aop x = .fn f caps) (hf : P.funcs[f]? = some fn) (hn : (fn.name == "runtime.NumGoroutine") = false) (hb : fn.body = some c)
    (hspec : Spec P f cargs [] v []) (hr : Rens [] (xs.toList.map (⟨env, objs⟩ : St).aop ++ caps) cargs) (hv : v.pure = true)
    (t : RunK P k ops N draw os ⟨(d, v) :: env, objs⟩ (⟨v, [], [], []⟩ :: acc) K) : RunK P k ops N draw (o :: os) ⟨env, objs⟩ acc K :=
  runk0 hg hd (opok_call (d := 0) [] none ho hx hf hn hb hr hspec rfl (.one (.pure _ hv)) (fun b h => by cases h) rfl) t
/-- A call that is given values alone, and yields a row of its own. -/
theorem runk_made {x : Operand} {xs : Array Operand} {ats : Array TypeId} {f : FuncId} {fn : Func} {c : Code} {caps cargs : List AVal} {v0 v : AVal} {fo : AObj} (hg : o.guard = none) (hd : o.dst = some d)
    (ho : o.op = .call { callee := .value x, args := xs, argTypes := ats }) (hx : (⟨env, objs⟩ : St).aop x = .fn f caps) (hf : P.funcs[f]? = some fn) (hn : (fn.name == "runtime.NumGoroutine") = false) (hb : fn.body = some c)
    (hspec : Spec P f cargs [] v0 [(1000, some (0, fo))]) (hr : Rens [] (xs.toList.map (⟨env, objs⟩ : St).aop ++ caps) cargs) (hv : RenT [(1000, 0, d, k)] v0 v) (hp : fo.pure = true)
    (t : RunK P k ops N draw os ⟨(d, v) :: env, (d, some (k, fo)) :: objs⟩ (⟨v, [(d, some (k, fo))], [d], [d]⟩ :: acc) K) : RunK P k ops N draw (o :: os) ⟨env, objs⟩ acc K :=
  runk hg hd (opok_call (d := d) [] (some fo) ho hx hf hn hb hr hspec rfl hv (fun b h => by cases h) (by simp [bindOk, hp])) t
/-- A call that is given a row, which it uses up, and yields a row. -/
theorem runk_turn {x : Operand} {xs : Array Operand} {ats : Array TypeId} {f : FuncId} {fn : Func} {c : Code} {caps cargs : List AVal} {v0 v : AVal} {fo ro : AObj} {n kk : Nat} (hg : o.guard = none) (hd : o.dst = some d)
    (ho : o.op = .call { callee := .value x, args := xs, argTypes := ats }) (hx : (⟨env, objs⟩ : St).aop x = .fn f caps) (hf : P.funcs[f]? = some fn) (hn : (fn.name == "runtime.NumGoroutine") = false) (hb : fn.body = some c)
    (hspec : Spec P f cargs [(0, some (0, ro))] v0 [(0, none), (1000, some (0, fo))]) (hr : Rens [(n, kk, 0, 0)] (xs.toList.map (⟨env, objs⟩ : St).aop ++ caps) cargs) (hobj : (⟨env, objs⟩ : St).obj n = some (kk, ro)) (hv : RenT [(0, 0, n, kk), (1000, 0, d, k)] v0 v) (hp : fo.pure = true) (hp' : ro.pure = true) (hne : (n != d) = true)
    (t : RunK P k ops N draw os ⟨(d, v) :: env, (n, none) :: (d, some (k, fo)) :: objs⟩ (⟨v, [(n, none), (d, some (k, fo))], [n, d], [d]⟩ :: acc) K) : RunK P k ops N draw (o :: os) ⟨env, objs⟩ acc K :=
  runk hg hd (opok_call (d := d) [⟨0, n, kk, ro, none⟩] (some fo) ho hx hf hn hb hr hspec rfl hv (fun b h => by simp at h; subst h; exact hobj) (by simp [bindOk, hp, hp', hne])) t
/-- A call that is given an object to change, and values. -/
theorem runk_with {x : Operand} {xs : Array Operand} {ats : Array TypeId} {f : FuncId} {fn : Func} {c : Code} {caps cargs : List AVal} {v : AVal} {ob ob' : AObj} {n kk : Nat} (hg : o.guard = none) (hd : o.dst = some d)
    (ho : o.op = .call { callee := .value x, args := xs, argTypes := ats }) (hx : (⟨env, objs⟩ : St).aop x = .fn f caps) (hf : P.funcs[f]? = some fn) (hn : (fn.name == "runtime.NumGoroutine") = false) (hb : fn.body = some c)
    (hspec : Spec P f cargs [(0, some (0, ob))] v [(0, some (0, ob'))]) (hr : Rens [(n, kk, 0, 0)] (xs.toList.map (⟨env, objs⟩ : St).aop ++ caps) cargs) (hobj : (⟨env, objs⟩ : St).obj n = some (kk, ob)) (hv : v.pure = true) (hp : ob.pure = true) (hp' : ob'.pure = true)
    (t : RunK P k ops N draw os ⟨(d, v) :: env, (n, some (kk, ob')) :: objs⟩ (⟨v, [(n, some (kk, ob'))], [n], []⟩ :: acc) K) : RunK P k ops N draw (o :: os) ⟨env, objs⟩ acc K :=
  runk hg hd (opok_call (d := d) [⟨0, n, kk, ob, some ob'⟩] none ho hx hf hn hb hr hspec rfl (.one (.pure _ hv)) (fun b h => by simp at h; subst h; exact hobj) (by simp [bindOk, hp, hp'])) t
end
end Go.Proofs.Ytojapodjlpffdaa

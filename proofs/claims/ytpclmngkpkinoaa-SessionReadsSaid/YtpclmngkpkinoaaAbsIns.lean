/-
  A map's literal, entry by entry, by states. No program is named here.
-/
import Derived.Test.YtpclmngkpkinoaaAbsMap
namespace Go.Proofs.Ytpclmngkpkinoaa
open Go.RowKit
section
variable {P : Program} {k : Nat} {st : St} {o : Oper}
theorem opok_insertI {t kt et : TypeId} {x y u : Operand} {n kk : Nat} {f : Int → Option Value} {i : Int} {v : Value} (ho : o.op = .insert t x y u) (hx : st.aop x = .mp n kk) (hy : st.aop y = .val (.int .i64 i)) (hu : st.aop u = .val v) (hn : st.obj n = some (kk, .mapI f)) (ht : P.underlying t = some (.map kt et)) (hk : P.underlying kt = some (.int .i64)) :
    OpOk P k st o ⟨.any, [(n, some (kk, .mapI (putI f i v)))], [n], []⟩ := by
  obtain ⟨h1, h2⟩ := opok_updateI (P := P) (k := k) (st := st) (o := { o with op := .mapUpdate t x y u }) rfl hx hy hu hn ht hk
  refine ⟨h1, fun ψ prot obj w ρ hob hr r hf => ?_⟩
  have := h2 ψ prot obj w ρ hob (fun x hx => hr x (by rw [ho]; exact hx)) r hf
  have e : execOp ρ o = execOp ρ { o with op := .mapUpdate t x y u } := by unfold execOp; rw [ho]
  rw [e]; exact this
theorem opok_lookupV {t kt et : TypeId} {x y : Operand} {n kk : Nat} {f : Int → Option Value} {i : Int} {z v : Value} (ho : o.op = .lookup t x y false) (hx : st.aop x = .mp n kk) (hy : st.aop y = .val (.int .i64 i)) (hn : st.obj n = some (kk, .mapI f)) (ht : P.underlying t = some (.map kt et)) (hk : P.underlying kt = some (.int .i64)) (hz : (P.info? et).bind (·.zero) = some z) (hv : (f i).getD z = v) : OpOk P k st o ⟨.val v, [], [n], []⟩ := hv ▸ opok_lookupI ho hx hy hn ht hk hz
variable {ops : Array Oper} {N : Nat} {draw : Bool} {K : St → Prop} {os : List Oper} {env : List (Nat × AVal)} {objs : Writes} {acc : List Tr} {d : Nat}
theorem runk_insertI {t kt et : TypeId} {x y u : Operand} {n kk : Nat} {f : Int → Option Value} {i : Int} {v : Value} (hg : o.guard = none) (hd : o.dst = none) (ho : o.op = .insert t x y u) (hx : (⟨env, objs⟩ : St).aop x = .mp n kk) (hy : (⟨env, objs⟩ : St).aop y = .val (.int .i64 i)) (hu : (⟨env, objs⟩ : St).aop u = .val v) (hn : (⟨env, objs⟩ : St).obj n = some (kk, .mapI f)) (ht : P.underlying t = some (.map kt et)) (hk : P.underlying kt = some (.int .i64))
    (r : RunK P k ops N draw os ⟨env, (n, some (kk, .mapI (putI f i v))) :: objs⟩ (⟨.any, [(n, some (kk, .mapI (putI f i v)))], [n], []⟩ :: acc) K) : RunK P k ops N draw (o :: os) ⟨env, objs⟩ acc K :=
  runkN hg hd (opok_insertI ho hx hy hu hn ht hk) r
end
end Go.Proofs.Ytpclmngkpkinoaa

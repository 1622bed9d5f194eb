/-
  A store into a part of an element of a row, by states. No program is named here.
-/
import Derived.Test.YtddafnipfkeejaaAbsN
namespace Go.Proofs.Ytddafnipfkeejaa
open Go.RowKit
theorem take_splice {α : Type} (l c : List α) (off m : Nat) (h : off + c.length ≤ m) (hm : m ≤ l.length) : (l.take off ++ c ++ l.drop (off + c.length)).take m = (l.take m).take off ++ c ++ (l.take m).drop (off + c.length) := by
  have h1 : min off l.length = off := by omega
  have h2 : min m off = off := by omega
  have h3 : min off m = off := by omega
  simp only [List.take_append, List.length_append, List.length_take, List.take_take, List.drop_take, h1, h2, h3]
  rw [List.take_of_length_le (l := c) (by omega)]
section
variable {P : Program} {k : Nat} {st : St} {o : Oper}
theorem opok_storeRow {t e : TypeId} {p x : Operand} {n kk off sz : Nat} {es es' fs : List AVal} {v : AVal} (ho : o.op = .store t p x) (hp : st.aop p = .ptr n kk off) (hn : st.obj n = some (kk, .row e sz es)) (hx : st.aop x = v) (hk : v.known = true) (hfs : v.flat = fs)
    (h1 : fs.all AVal.one = true) (hs : sizeIs P t fs.length) (hf : off + fs.length ≤ (es.flatMap AVal.flat).length) (hle : es'.length = es.length) (hcs : setCells (es.flatMap AVal.flat) off fs = es'.flatMap AVal.flat) :
    OpOk P k st o ⟨.any, [(n, some (kk, .row e sz es'))], [n], []⟩ := by
  refine ⟨fun m hm => by simpa [Writes.names] using hm, fun ψ prot obj w ρ hob hr r _ => ?_⟩
  have e1 := hp ▸ hr p (by simp [ho, Op.operands])
  have e2 := (hx ▸ hr x (by simp [ho, Op.operands]) : VRel ψ prot w v (ρ x)).flat hk
  rw [hfs] at e2
  have hnn := (hob n (by simp)).trans hn
  obtain ⟨loc, h2, h3⟩ := r.live n kk _ hnn
  obtain ⟨b, cap, hpv, h⟩ := e1.ptr_inv
  rw [h2] at h; injection h with h; subst h
  obtain ⟨zs, g1, g2⟩ := h3
  have hzl : zs.length = (es.flatMap AVal.flat).length := g2.1
  have hl : (ρ x).cells.size = fs.length := by simpa using e2.1
  simp only [Option.map_some] at g1
  have g11 := g1.1
  rcases g1.2 with ⟨q, _⟩ | ⟨g, c, cur, q, hb0, hg, hnc, hcm, hcs', htake⟩
  · cases q
  injection q with q1 q2 q3
  simp only [Option.some.injEq, Addr.mk.injEq, and_true] at q1
  subst q1; subst q3
  have hcz : zs.length ≤ cur.toList.length := by rw [← htake, List.length_take]; omega
  have hrun := run_storeVar_at (P := P) (t := t) (off := off) (v := ρ x) (vs := cur.toList) (b := b) (w := w) (t' := e) (by simpa using hg) (by rw [hl]; exact hs) (by rw [hl]; omega) (e2.one (by simpa using h1))
  have hr' : (execOp ρ o).run P w = .ok .skip (w.setRow b (cur.toList.take off ++ (ρ x).cells.toList ++ cur.toList.drop (off + (ρ x).cells.size)).toArray) := by
    simp only [execOp, ho, hpv, Instr.storeAt, Instr.sureAddr, Sem.run_bind, Sem.run_pure, Result.andThen_ok, hrun]
  rw [hr']
  have hoth : ∀ c, c < w.heap.size → (some b : Option Nat) ≠ some c → (w.setRow b (cur.toList.take off ++ (ρ x).cells.toList ++ cur.toList.drop (off + (ρ x).cells.size)).toArray).heap[c]? = w.heap[c]? := fun c _ hc => setRow_other w b c _ (fun e => hc (by rw [e]))
  have hbn : ¬ prot b := fun hpb => (r.pr b hpb).2 n kk _ _ hnn h2 rfl
  have hkeep : ∀ c, prot c → prot c ∧ (w.setRow b (cur.toList.take off ++ (ρ x).cells.toList ++ cur.toList.drop (off + (ρ x).cells.size)).toArray).heap[c]? = w.heap[c]? := fun c hc => ⟨hc, setRow_other w b c _ (fun e => hbn (e ▸ hc))⟩
  have hcl : (ρ x).cells.toList.length = fs.length := by simpa using hl
  have hsz : (cur.toList.take off ++ (ρ x).cells.toList ++ cur.toList.drop (off + (ρ x).cells.size)).length = cur.size := by
    have : cur.toList.length = cur.size := Array.length_toList
    simp only [List.length_append, List.length_take, List.length_drop, hcl, hl]
    omega
  have hml : (es.length * sz) = zs.length := by
    first
      | exact g11.symm
      | (rw [g11])
  have htk : (cur.toList.take off ++ (ρ x).cells.toList ++ cur.toList.drop (off + (ρ x).cells.size)).take (es.length * sz) = zs.take off ++ (ρ x).cells.toList ++ zs.drop (off + (ρ x).cells.size) := by
    have h := take_splice cur.toList (ρ x).cells.toList off (es.length * sz) (by omega) (by omega)
    rw [htake, Array.length_toList] at h
    exact h
  obtain ⟨k1, k2⟩ := evolve_store (w' := w.setRow b (cur.toList.take off ++ (ρ x).cells.toList ++ cur.toList.drop (off + (ρ x).cells.size)).toArray) r n kk _ (.row e sz es') _ hnn h2 rfl rfl rfl (by simp [World.setRow]) hoth
    ⟨zs.take off ++ (ρ x).cells.toList ++ zs.drop (off + (ρ x).cells.size), ⟨by
      simp only [List.length_append, List.length_take, List.length_drop, hcl, hl, hle]
      omega, .inr ⟨b, cap, (cur.toList.take off ++ (ρ x).cells.toList ++ cur.toList.drop (off + (ρ x).cells.size)).toArray, by simp [hle], hb0, setRow_heap w b _ _ _ _ hg, by simpa [hle] using hnc, hcm, by simpa using hsz.trans hcs', by
      rw [hle]
      simpa using htk⟩⟩, VRels.mono (by rw [← hcs, hl]; exact ((g2.take off).append e2).append (g2.drop (off + fs.length))) (fun _ _ _ h => h) hkeep⟩
  exact ⟨ψ, prot, k1, k2, .any _, fun m j hne => .inl hne⟩
variable {ops : Array Oper} {N : Nat} {draw : Bool} {K : St → Prop} {os : List Oper} {env : List (Nat × AVal)} {objs : Writes} {acc : List Tr}
/-- The second of the two cells of a row's only element. -/
theorem runk_storeSeg {t e : TypeId} {p x : Operand} {n kk : Nat} {a c v : AVal} (hg : o.guard = none) (hd : o.dst = none) (ho : o.op = .store t p x) (hp : (⟨env, objs⟩ : St).aop p = .ptr n kk 1) (hn : (⟨env, objs⟩ : St).obj n = some (kk, .row e 2 [.agg [a, c]])) (hx : (⟨env, objs⟩ : St).aop x = v) (hk : v.known = true) (hfs : v.flat = [v])
    (h1 : [v].all AVal.one = true) (hs : sizeIs P t 1)
    (r : RunK P k ops N draw os ⟨env, (n, some (kk, .row e 2 [.agg [a, v]])) :: objs⟩ (⟨.any, [(n, some (kk, .row e 2 [.agg [a, v]]))], [n], []⟩ :: acc) K) : RunK P k ops N draw (o :: os) ⟨env, objs⟩ acc K :=
  runkN hg hd (opok_storeRow (es' := [.agg [a, v]]) ho hp hn hx hk hfs h1 hs (by simp [AVal.flat]) rfl (by simp [setCells, AVal.flat])) r
end
end Go.Proofs.Ytddafnipfkeejaa

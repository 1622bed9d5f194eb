/-
  A whole array as a slice, to which is appended: there is nothing behind it, so what is made is new. By states. No program is named here.
-/
import Derived.Test.YtboddbheljenhaaGreatDoorAbsB
import Derived.Test.YtboddbheljenhaaGreatDoorAbsE
import Derived.Test.YtboddbheljenhaaGreatDoorRows
import Derived.Test.YtboddbheljenhaaGreatDoorMem
import Derived.ProofKit
namespace Go.Proofs.YtboddbheljenhaaGreatDoor
open Go.RowKit
section
variable {P : Program} {k : Nat} {st : St} {o : Oper}
theorem opok_sliceArr {t e t' : TypeId} {m n kk : Nat} {x : Operand} (d : Nat) {cs : List AVal} (ho : o.op = .slice t x none none none) (hx : st.aop x = .ptr n kk 0) (hn : st.obj n = some (kk, .box t' cs)) (hu : P.underlying t = some (.array m e)) (hs : sizeIs P e 1) (hl : cs.length = m) (h0 : 0 < m) :
    OpOk P k st o ⟨.sub d k 0 cs.length 1, [(d, some (k, .arr t' cs)), (n, none)], [d, n], [d]⟩ := by
  refine ⟨fun m hm => by simpa [Writes.names] using hm, fun ψ prot obj w ρ hob hr r hf => ?_⟩
  have e1 := hx ▸ hr x (by simp [ho, Op.operands])
  obtain ⟨b0, cap0, hv, hψ⟩ : ∃ b cap, ρ x = .pointer (some ⟨b, 0, none⟩) ∧ ψ n kk = some ⟨some b, cap⟩ := by
    generalize ρ x = v at e1
    cases e1 with
    | ptr _ _ _ b cap h => exact ⟨b, cap, rfl, h⟩
  have hnn := (hob n (by simp)).trans hn
  obtain ⟨loc', g1, g2⟩ := r.live n kk _ hnn
  rw [hψ] at g1; injection g1 with g1; subst g1
  obtain ⟨b, vs, hb, hh, hvs⟩ := g2
  injection hb with hb; subst hb
  have ea : (⟨b0, 0, none⟩ : Addr).add 0 = ⟨b0, 0, none⟩ := by rw [addr_add0]
  have hexec : (execOp ρ o).run P w = .ok (.value (.slice (some ⟨b0, 0, none⟩) m m)) w := by
    simp [execOp, ho, hv, Instr.sliceAt, Instr.sliceBounds, Instr.sureAddr, run_underlying hu, run_sizeIs hs, ea, go_sem]
  rw [hexec]
  obtain ⟨ψ', k1, k2, k3, k4, k5⟩ := evolve_make (w' := w) r.toRH [n] d k ⟨some b0, cs.length⟩ (.arr t' cs) (hf d (by simp)) rfl rfl rfl (Nat.le_refl _) (fun b hb hk => rfl) (fun b hb => .inr ⟨n, by simp, kk, _, _, hnn, hψ, hb⟩) (fun ψ' hψ' => ⟨b0, vs, rfl, hh, hvs.mono hψ' fun b hb => ⟨hb, rfl⟩⟩)
  refine ⟨ψ', prot, k1, k2, ?_, fun n j hne => (k5 n j hne).imp id fun ⟨q1, q2⟩ => ⟨q1, by simp [q2]⟩⟩
  have := VRel.sub (ψ := ψ') (prot := prot) (w := w) d k 0 cs.length 1 b0 cs.length k3
  rw [hl] at this
  rw [if_neg (by omega), Nat.zero_mul, Nat.sub_zero] at this
  rw [hl]
  exact this
theorem opok_appendFull {t e t' : TypeId} {s x : Operand} (d : Nat) {n2 k2 len : Nat} {xv : AVal} {z : Value} {bytes : Nat} {tl : List Nat} {cs es2 : List AVal} (ho : o.op = .call { callee := .builtin .append, args := #[s, x], argTypes := #[t, t] })
    (hs : st.aop s = .sub n2 k2 0 len 1) (hx : st.aop x = xv) (ht : P.underlying t = some (.slice e)) (hi : (P.info? e).map (fun i => (i.zero, i.size, i.bytes)) = some (some z, 1, bytes)) (hz : z.cells.size = 1) (hby : bytes ≤ 140)
    (hn : st.obj n2 = some (k2, .arr t' cs)) (hl : len = cs.length) (h0 : 0 < es2.length) (h00 : 0 < cs.length) (hsrc : SrcIs st xv tl es2) (hw : widths 1 es2 = true) (hfl : cs.flatMap AVal.flat = cs) (hN : cs.length + es2.length ≤ 1000000000000) :
    OpOk P k st o ⟨.own d k (cs ++ es2).length, [(d, some (k, .row e 1 (cs ++ es2)))], d :: n2 :: tl, [d]⟩ := by
  refine ⟨fun m hm => by simp [Writes.names] at hm; simp [hm], fun ψ prot obj w ρ hob hr r hf => ?_⟩
  have e1 := hs ▸ hr s (by simp [ho, Op.operands, Call.operands])
  have e2 := hx ▸ hr x (by simp [ho, Op.operands, Call.operands])
  obtain ⟨b0, cap0, hv, hψ⟩ := e1.sub_inv
  have hnn := (hob n2 (by simp)).trans hn
  obtain ⟨loc', g1, g2⟩ := r.live n2 k2 _ hnn
  rw [hψ] at g1; injection g1 with g1; subst g1
  obtain ⟨b, vs, hb, hh, hvs⟩ := g2
  injection hb with hb1 hb2; injection hb1 with hb1; subst hb1; subst hb2
  rw [if_neg (by omega), Nat.zero_mul, Nat.sub_zero] at hv
  obtain ⟨a, c, news, hxv, h2, h3, h4⟩ := src_cells hsrc e2 (fun n hn => hob n (by simp [hn])) r
  obtain ⟨ad, rfl⟩ : ∃ ad, a = some ad := by
    cases a with
    | none => have := (h4 rfl).1; omega
    | some ad => exact ⟨ad, rfl⟩
  have hnl : news.length = es2.length * 1 := by rw [h2.1, widths_flat hw]
  have hnews : ∀ j u, news[j]? = some u → w.cell? (ad.add j) = some u := fun j u h => by
    obtain ⟨ad', e1, e2⟩ := h3 j u h
    injection e1 with e1; subst e1; exact e2
  have hvl : vs.length = cs.length * 1 := by rw [hvs.1, Nat.mul_one]
  obtain ⟨i, hi0, hz0, hs0, hb0⟩ := info_parts hi
  have hbytes : (cs.length + es2.length) * bytes ≤ 140737488355328 := by
    calc (cs.length + es2.length) * bytes ≤ 1000000000000 * 140 := Nat.mul_le_mul hN hby
      _ ≤ _ := by omega
  have hrun := run_append_grow (P := P) w t o.type e i z ht hi0 hz0 ⟨b0, 0, none⟩ cs.length cs.length vs (by rw [hs0]; exact hvl) (fun j u hj => by rw [addr_add0, Nat.zero_add, cell_of_row w b0 j vs.toArray t' (0, 0) hh]; simpa using hj) ad es2.length c news (by rw [hs0]; exact hnl) hnews (by omega) (by omega) (growslice_fits (by omega) (by rw [hb0]; exact hbytes))
  have hexec : (execOp ρ o).run P w = .ok (.value (.slice (some ⟨w.heap.size, 0, none⟩) (cs.length + es2.length) (grownCap w (cs.length + es2.length) cs.length e))) (w.drew.alloc (.cells (vs.toArray ++ news.toArray ++ Builtin.zeroCells z.cells (grownCap w (cs.length + es2.length) cs.length e - (cs.length + es2.length))) e)) := by
    rw [hl] at hv
    unfold execOp
    simp only [ho, resolve, invoke, builtin, Sem.run_bind, Sem.run_pure, Result.andThen_ok, List.map_toArray, List.map_cons, List.map_nil, hv, hxv, hrun]
  rw [hexec]
  generalize hG : grownCap w (cs.length + es2.length) cs.length e = G at *
  have hG1 : cs.length + es2.length ≤ G := by rw [← hG]; exact grownCap_ge _ _ _ _
  have hG2 : G ≤ maxLen := by rw [← hG]; exact grownCap_le_maxLen _ _ _ _ (by simp only [maxLen]; omega)
  generalize hW : w.drew.alloc (.cells (vs.toArray ++ news.toArray ++ Builtin.zeroCells z.cells (G - (cs.length + es2.length))) e) = w'
  have hblk : ∀ b, b < w.heap.size → w'.heap[b]? = w.heap[b]? := fun b hb => by rw [← hW]; exact heap_alloc_old w.drew _ hb
  have hnew : w'.heap[w.heap.size]? = some (.cells (vs.toArray ++ news.toArray ++ Builtin.zeroCells z.cells (G - (cs.length + es2.length))) e (0, 0)) := by rw [← hW]; exact heap_alloc_new w.drew _
  have hkeep : ∀ b, prot b → prot b ∧ w'.heap[b]? = w.heap[b]? := fun b hb => ⟨hb, hblk b (r.pr b hb).1⟩
  have hvsz : vs.length = cs.length := by omega
  have hnsz : news.length = es2.length := by omega
  obtain ⟨ψ', k1, k2', k3, k4, k5⟩ := evolve_make (w' := w') r.toRH [] d k ⟨some w.heap.size, G⟩ (.row e 1 (cs ++ es2)) (hf d (by simp)) (by rw [← hW]; rfl) (by rw [← hW]; rfl) (by rw [← hW]; rfl) (by rw [← hW]; show w.heap.size ≤ (w.drew.alloc _).heap.size; simp) (fun b hb hk => hblk b hb) (fun b hb => by injection hb with hb; exact .inl (by omega)) (fun ψ' hψ' => by
    refine ⟨vs ++ news, ⟨by rw [List.length_append, List.length_append, hvsz, hnsz, Nat.mul_one], .inr ⟨w.heap.size, G, _, by rw [List.length_append]; rfl, Nat.zero_le _, hnew, by rw [List.length_append]; exact hG1, hG2, ?_, ?_⟩⟩, ?_⟩
    · simp only [Array.size_append, List.size_toArray, size_zeroCells, hz, hvsz, hnsz]
      omega
    · simp only [Array.toList_append, List.length_append, Nat.mul_one]
      rw [List.take_append_of_le_length (by simp [hvsz, hnsz])]
      exact List.take_of_length_le (by simp [hvsz, hnsz])
    · rw [List.flatMap_append, hfl]
      exact (hvs.append h2).mono hψ' hkeep)
  refine ⟨ψ', prot, k1, k2', ?_, fun n j hne => (k5 n j hne).imp id fun ⟨q1, q2⟩ => ⟨q1, by simp [q2]⟩⟩
  rw [List.length_append]
  exact .own d k _ ⟨some w.heap.size, G⟩ k3
end
section
variable {P : Program} {k : Nat} {ops : Array Oper} {N : Nat} {draw : Bool} {K : St → Prop} {os : List Oper} {o : Oper} {env : List (Nat × AVal)} {objs : Writes} {acc : List Tr} {d : Nat}
theorem runk_sliceArr {t e t' : TypeId} {m n kk : Nat} {x : Operand} {cs : List AVal} (hg : o.guard = none) (hd : o.dst = some d) (ho : o.op = .slice t x none none none) (hx : (⟨env, objs⟩ : St).aop x = .ptr n kk 0) (hn : (⟨env, objs⟩ : St).obj n = some (kk, .box t' cs)) (hu : P.underlying t = some (.array m e)) (hs : sizeIs P e 1) (hl : cs.length = m) (h0 : 0 < m)
    (r : RunK P k ops N draw os ⟨(d, .sub d k 0 cs.length 1) :: env, (d, some (k, .arr t' cs)) :: (n, none) :: objs⟩ (⟨.sub d k 0 cs.length 1, [(d, some (k, .arr t' cs)), (n, none)], [d, n], [d]⟩ :: acc) K) : RunK P k ops N draw (o :: os) ⟨env, objs⟩ acc K :=
  runk hg hd (opok_sliceArr d ho hx hn hu hs hl h0) r
theorem runk_appendFull {t e t' : TypeId} {s x : Operand} {n2 k2 len : Nat} {xv : AVal} {z : Value} {bytes : Nat} {tl : List Nat} {cs es2 : List AVal} (hg : o.guard = none) (hd : o.dst = some d) (ho : o.op = .call { callee := .builtin .append, args := #[s, x], argTypes := #[t, t] })
    (hs : (⟨env, objs⟩ : St).aop s = .sub n2 k2 0 len 1) (hx : (⟨env, objs⟩ : St).aop x = xv) (ht : P.underlying t = some (.slice e)) (hi : (P.info? e).map (fun i => (i.zero, i.size, i.bytes)) = some (some z, 1, bytes)) (hz : z.cells.size = 1) (hby : bytes ≤ 140)
    (hn : (⟨env, objs⟩ : St).obj n2 = some (k2, .arr t' cs)) (hl : len = cs.length) (h0 : 0 < es2.length) (h00 : 0 < cs.length) (hsrc : SrcIs ⟨env, objs⟩ xv tl es2) (hw : widths 1 es2 = true) (hfl : cs.flatMap AVal.flat = cs) (hN : cs.length + es2.length ≤ 1000000000000)
    (r : RunK P k ops N draw os ⟨(d, .own d k (cs ++ es2).length) :: env, (d, some (k, .row e 1 (cs ++ es2))) :: objs⟩ (⟨.own d k (cs ++ es2).length, [(d, some (k, .row e 1 (cs ++ es2)))], d :: n2 :: tl, [d]⟩ :: acc) K) : RunK P k ops N draw (o :: os) ⟨env, objs⟩ acc K :=
  runk hg hd (opok_appendFull d ho hs hx ht hi hz hby hn hl h0 h00 hsrc hw hfl hN) r
end
end Go.Proofs.YtboddbheljenhaaGreatDoor
namespace Go.Proofs.YtboddbheljenhaaGreatDoor
open Go.RowKit

theorem tmod_mod (v n : Int) (h : 0 < n) : v.tmod n % n = v % n := by
  rw [Int.tmod_eq_emod]
  split
  · simp
  · rw [show (n.natAbs : Int) = n by omega]; simp
theorem tmod_neg (v n : Int) (h : 0 < n) (hr : v.tmod n < 0) : v.tmod n + n = v % n := by
  have h3 := Int.lt_tmod_of_pos v h
  rw [← tmod_mod v n h, ← Int.add_emod_right, Int.emod_eq_of_lt] <;> omega
theorem tmod_pos (v n : Int) (h : 0 < n) (hr : 0 ≤ v.tmod n) : v.tmod n = v % n := by
  have h3 := Int.tmod_lt_of_pos v h
  rw [← tmod_mod v n h, Int.emod_eq_of_lt] <;> omega
set_option maxHeartbeats 400000 in
theorem mod_any (v n : Int) (w : World) (h0 : 0 < n) (h1 : n ≤ 9223372036854775807) :
    Calls Tryz.prog 12 #[.int .i64 v, .int .i64 n] w fun e w' => e = .returned (.int .i64 (v % n)) ∧ w = w' := by
  have hlo : -n < v.tmod n := Int.lt_tmod_of_pos v h0
  have hhi := Int.tmod_lt_of_pos v h0
  by_cases hr : v.tmod n < 0
  · have h2 := Lib.hid (tmod_neg v n h0 hr)
    have hd : IntKind.i64.wrap (v.tmod n + n) = v.tmod n + n := IntWalk.i64_in _ (by omega)
    go_enter Tryz.func12, Tryz.ntmps12
    go_wp2
    go_ret
    exact ⟨ret_int h2.out, rfl⟩
  · have h2 := Lib.hid (tmod_pos v n h0 (by omega))
    have hr' : 0 ≤ v.tmod n := by omega
    clear hr
    go_enter Tryz.func12, Tryz.ntmps12
    go_wp2
    go_ret
    exact ⟨ret_int h2.out, rfl⟩

end Go.Proofs.YtboddbheljenhaaGreatDoor

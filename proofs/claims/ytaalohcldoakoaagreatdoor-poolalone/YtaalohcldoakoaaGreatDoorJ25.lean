/- The law's lists held against each other. -/
import Derived.Test.YtaalohcldoakoaaGreatDoorJ24
import Derived.BigQuiet
import Derived.Test.YtaalohcldoakoaaGreatDoorJ22
import Derived.Test.YtaalohcldoakoaaGreatDoorJ15
namespace Go.Proofs.YtaalohcldoakoaaGreatDoor
open Go.RowKit
theorem cLInts {w : World} {va vb : Value} {n : Nat} {zs : List Int} (ha : IRow w 3 1 va n zs) (hb : IRow w 3 1 vb n zs) (hn : n ≤ 1000000) : Calls Tryz.prog 37 #[va, vb] w fun e w' => e = .returned (.bool true) ∧ Turned [] w w' := by
  obtain ⟨aa, ca, rfl⟩ := Row.shape ha
  obtain ⟨ab, cb, rfl⟩ := Row.shape hb
  have HA : Hid _ := ha
  have HB : Hid _ := hb
  clear ha hb
  go_enter Tryz.func37, Tryz.ntmps37
  go_wp2
  go_loopw [5] (fun i wx => ∃ k : Nat, k ≤ n ∧ i = .int .i64 k ∧ Hid (Turned [] w wx)) (fun i _ => n - (intOf i).toNat)
  case atStart => exact ⟨0, Nat.zero_le _, rfl, Turned.refl _ _⟩
  case round =>
    obtain ⟨k, hk, rfl, HT⟩ := hrel
    by_cases hkn : k < n
    · obtain ⟨ga, ca', cua, ea, -, -⟩ := Row.form HA.out (by omega)
      obtain ⟨gb, cb', cub, eb, -, -⟩ := Row.form HB.out (by omega)
      simp only [Value.slice.injEq, true_and] at ea eb
      obtain ⟨rfl, rfl⟩ := ea
      obtain ⟨rfl, rfl⟩ := eb
      have c1 := IRow.cell (Row.keep HA.out HT.out (by simp)) (j := k) (by omega)
      have c2 := IRow.cell (Row.keep HB.out HT.out (by simp)) (j := k) (by omega)
      have hlt : (k : Int) < (n : Int) := by omega
      go_wp2
      go_quiet (fail)
      go_wp2
      exact ⟨⟨k + 1, by omega, by go_num, ⟨HT.out.os, HT.out.tape, HT.out.output, HT.out.size, HT.out.block⟩⟩, by simp [intOf]; omega⟩
    · have : k = n := by omega
      subst this
      go_wp2
      go_ret
      exact ⟨rfl, HT.out⟩
theorem cLSlots {w : World} {va vb : Value} {n : Nat} {zs : List Int} (ha : IRow w 64 7 va n zs) (hb : IRow w 64 7 vb n zs) (hn : n ≤ 1000000) : Calls Tryz.prog 35 #[va, vb] w fun e w' => e = .returned (.bool true) ∧ Turned [] w w' := by
  obtain ⟨aa, ca, rfl⟩ := Row.shape ha
  obtain ⟨ab, cb, rfl⟩ := Row.shape hb
  have HA : Hid _ := ha
  have HB : Hid _ := hb
  clear ha hb
  go_enter Tryz.func35, Tryz.ntmps35
  go_wp2
  go_loopw [5] (fun i wx => ∃ k : Nat, k ≤ n ∧ i = .int .i64 k ∧ Hid (Turned [] w wx)) (fun i _ => n - (intOf i).toNat)
  case atStart => exact ⟨0, Nat.zero_le _, rfl, Turned.refl _ _⟩
  case round =>
    obtain ⟨k, hk, rfl, HT⟩ := hrel
    by_cases hkn : k < n
    · obtain ⟨ga, ca', cua, ea, -, -⟩ := Row.form HA.out (by omega)
      obtain ⟨gb, cb', cub, eb, -, -⟩ := Row.form HB.out (by omega)
      simp only [Value.slice.injEq, true_and] at ea eb
      obtain ⟨rfl, rfl⟩ := ea
      obtain ⟨rfl, rfl⟩ := eb
      have ra := Row.keep HA.out HT.out (by simp)
      have rb := Row.keep HB.out HT.out (by simp)
      have a0 : wr.cell? ⟨ga, k * 7, none⟩ = some (.int .i64 (zs.getD (k * 7) 0)) := IRow.cell ra (j := k * 7) (by omega)
      have a1 : wr.cell? ⟨ga, k * 7 + 1, none⟩ = some (.int .i64 (zs.getD (k * 7 + 1) 0)) := IRow.cell ra (j := k * 7 + 1) (by omega)
      have a2 : wr.cell? ⟨ga, k * 7 + 2, none⟩ = some (.int .i64 (zs.getD (k * 7 + 2) 0)) := IRow.cell ra (j := k * 7 + 2) (by omega)
      have a3 : wr.cell? ⟨ga, k * 7 + 3, none⟩ = some (.int .i64 (zs.getD (k * 7 + 3) 0)) := IRow.cell ra (j := k * 7 + 3) (by omega)
      have a4 : wr.cell? ⟨ga, k * 7 + 4, none⟩ = some (.int .i64 (zs.getD (k * 7 + 4) 0)) := IRow.cell ra (j := k * 7 + 4) (by omega)
      have a5 : wr.cell? ⟨ga, k * 7 + 5, none⟩ = some (.int .i64 (zs.getD (k * 7 + 5) 0)) := IRow.cell ra (j := k * 7 + 5) (by omega)
      have a6 : wr.cell? ⟨ga, k * 7 + 6, none⟩ = some (.int .i64 (zs.getD (k * 7 + 6) 0)) := IRow.cell ra (j := k * 7 + 6) (by omega)
      have b0 : wr.cell? ⟨gb, k * 7, none⟩ = some (.int .i64 (zs.getD (k * 7) 0)) := IRow.cell rb (j := k * 7) (by omega)
      have b1 : wr.cell? ⟨gb, k * 7 + 1, none⟩ = some (.int .i64 (zs.getD (k * 7 + 1) 0)) := IRow.cell rb (j := k * 7 + 1) (by omega)
      have b2 : wr.cell? ⟨gb, k * 7 + 2, none⟩ = some (.int .i64 (zs.getD (k * 7 + 2) 0)) := IRow.cell rb (j := k * 7 + 2) (by omega)
      have b3 : wr.cell? ⟨gb, k * 7 + 3, none⟩ = some (.int .i64 (zs.getD (k * 7 + 3) 0)) := IRow.cell rb (j := k * 7 + 3) (by omega)
      have b4 : wr.cell? ⟨gb, k * 7 + 4, none⟩ = some (.int .i64 (zs.getD (k * 7 + 4) 0)) := IRow.cell rb (j := k * 7 + 4) (by omega)
      have b5 : wr.cell? ⟨gb, k * 7 + 5, none⟩ = some (.int .i64 (zs.getD (k * 7 + 5) 0)) := IRow.cell rb (j := k * 7 + 5) (by omega)
      have b6 : wr.cell? ⟨gb, k * 7 + 6, none⟩ = some (.int .i64 (zs.getD (k * 7 + 6) 0)) := IRow.cell rb (j := k * 7 + 6) (by omega)
      generalize zs.getD (k * 7) 0 = z0 at a0 b0
      generalize zs.getD (k * 7 + 1) 0 = z1 at a1 b1
      generalize zs.getD (k * 7 + 2) 0 = z2 at a2 b2
      generalize zs.getD (k * 7 + 3) 0 = z3 at a3 b3
      generalize zs.getD (k * 7 + 4) 0 = z4 at a4 b4
      generalize zs.getD (k * 7 + 5) 0 = z5 at a5 b5
      generalize zs.getD (k * 7 + 6) 0 = z6 at a6 b6
      have hlt : (k : Int) < (n : Int) := by omega
      clear ra rb
      go_wp2
      go_quiet (fail)
      go_wp2
      exact ⟨⟨k + 1, by omega, by go_num, ⟨HT.out.os, HT.out.tape, HT.out.output, HT.out.size, HT.out.block⟩⟩, by simp [intOf]; omega⟩
    · have : k = n := by omega
      subst this
      go_wp2
      go_ret
      exact ⟨rfl, HT.out⟩
end Go.Proofs.YtaalohcldoakoaaGreatDoor
/- The same with guards that hold. -/
namespace Go.Proofs.YtaalohcldoakoaaGreatDoor
open Go.RowKit
section
variable {P : Program} {ops : Array Oper} {Q : Exit → Act → World → Prop} {G : Type}
theorem wp_region_ghost2 {id : Nat} {a0 : Act} {w : World} (hm : P.follows .mixedOrders = true) (D : List (Option Nat)) (hok : regOk ops D a0.tmps.size = true) (V : G → Nat → Value) (hgu : ∀ (i g : Nat) (b : Bool), (ops[i]?).bind (fun o : Oper => o.guard) = some (g, b) → ∀ γ, V γ g = .bool b) (As : List Nat) (done : G → Nat → Bool) (St : G → World → Prop) (g0 : G) (h0 : St g0 w.drew) (hd0 : ∀ x ∈ As, done g0 x = false) (hlt : As.all (fun x => decide (x < D.length)) = true)
    (hstep : ∀ i, i < D.length → YieldsG P ops D V a0 As done St Q i)
    (hend : ∀ a' w' g, a'.tmps.size = a0.tmps.size → a'.defers = a0.defers → (∀ s, some s ∉ D → a'.tmps[s]? = a0.tmps[s]?) → St g w' → (∀ x ∈ As, done g x = true) → (∀ i d, D.getD i none = some d → a'.eval (.tmp d) = V g i) → Q .normal a' w') :
    (Code.region id ops true).wp P Q a0 w := by
  have hn : ops.size = D.length := by
    unfold regOk at hok
    simp only [Bool.and_eq_true, beq_iff_eq] at hok
    exact hok.1
  have mem : ∀ s i, D.getD i none = some s → some s ∈ D := fun s i e => by
    have hi : i < D.length := by
      apply Classical.byContradiction
      intro h
      rw [List.getD_eq_getElem?_getD, List.getElem?_eq_none (by omega)] at e
      cases e
    rw [List.getD_eq_getElem?_getD, List.getElem?_eq_getElem hi] at e
    have := List.getElem_mem hi
    rw [show D[i] = some s from e] at this
    exact this
  have lt : ∀ i d, D.getD i none = some d → i < D.length := fun i d e => by
    apply Classical.byContradiction
    intro h
    rw [List.getD_eq_getElem?_getD, List.getElem?_eq_none (by omega)] at e
    cases e
  have hoff : ∀ i, on (Array.replicate ops.size false) i = false := fun i => by
    simp only [on, Array.getD_eq_getD_getElem?, Array.getElem?_replicate]
    split <;> rfl
  refine wp_region_inv hm (fun i o ho => (reg_at hok ho).2.2.1) (IGhost ops D V a0 As done St) (fun l a w h => by rw [hn]; exact h.size) ?_ ?_ ?_
  · exact ⟨by simp [hn], rfl, rfl, fun _ _ => rfl, fun i j hh => (by rw [hoff] at hh; cases hh), g0, h0, fun x hx => by rw [hoff, hd0 x hx], fun i d _ hh => (by rw [hoff] at hh; cases hh)⟩
  · intro l a w' h i hi
    obtain ⟨hu, o, ho, hall⟩ := mem_ready.1 hi
    obtain ⟨r1, r2, r3, r4, r5, r6⟩ := reg_at hok ho
    have hoi : on l i = false := by simp only [on]; simp [Array.getD, h.size, r1] at hu ⊢; exact hu
    have hset : ∀ j, on (l.setIfInBounds i true) j = if i = j then true else on l j := fun j => on_set i j (by rw [h.size]; exact r1)
    obtain ⟨g, hg1, hg2, hg3⟩ := h.g
    have hwant : Region.wanted o (yielded ops a.tmps) = true := by
      cases hgd : o.guard with
      | none => simp [Region.wanted, hgd]
      | some gb =>
        obtain ⟨q, bq⟩ := gb
        obtain ⟨h1, h3, h4⟩ := r6 q bq hgd
        obtain ⟨d, hgD⟩ := Option.isSome_iff_exists.1 h4
        have hv := hg3 q d hgD (dep_of hi (waits_map h3))
        rw [hgu i q bq (by rw [ho]; exact hgd) g] at hv
        have hgo : ∃ og, ops[q]? = some og := ⟨ops[q]'(by omega), Array.getElem?_eq_getElem (by omega)⟩
        obtain ⟨og, hog⟩ := hgo
        have hy : yielded ops a.tmps q = some bq := by
          unfold yielded
          rw [hog]
          simp only [Option.bind_some, (reg_at hok hog).2.1, hgD]
          have hlt : d < a.tmps.size := by rw [h.tsize]; exact (reg_at hok hog).2.2.2.1 d hgD
          simp only [Act.eval, Array.getD, hlt, dite_true] at hv
          rw [Array.getElem?_eq_getElem hlt]
          have : a.tmps[d] = .bool bq := hv
          rw [this]
        simp [Region.wanted, hgd, hy]
    unfold wpOp
    simp only [ho]
    rw [if_pos hwant]
    left
    refine hstep i r1 o a w' g _ ho r2 h.tsize (fun s hs => ?_) (fun j d hjd hh => hg3 j d hjd (dep_of hi (waits_map hh))) hg1 (fun x hx hr => ?_) (fun hm => ?_) (fun x hx hr => ?_) ?_
    · simp only [Act.eval, Array.getD_eq_getD_getElem?, h.off s hs]
    · rw [hg2 x hx]
      exact reach_on_ready hi hr h.closed
    · rw [hg2 i hm, hoi]
    · rw [hg2 x hx]
      cases hx2 : on l x with
      | false => rfl
      | true =>
        have := reach_on h.closed ops.size x i hx2 hr
        rw [hoi] at this
        cases this
    · intro g' w2 hS hdn hV
      have hputs : (a.put (D.getD i none) (V g' i)).tmps.size = a0.tmps.size := by
        cases hD : D.getD i none <;> simp [Act.put, h.tsize]
      have hputd : (a.put (D.getD i none) (V g' i)).defers = a0.defers := by
        cases hD : D.getD i none <;> simp [Act.put, h.defers]
      refine ⟨by simp [h.size], hputs, hputd, fun s hs => ?_, fun x y hx hy => ?_, g', hS, fun x hx => ?_, fun j d hjd hh => ?_⟩
      · cases hD : D.getD i none with
        | none => exact h.off s hs
        | some d =>
          have : d ≠ s := fun e => hs (mem s i (by rw [hD, e]))
          simp only [Act.put, Array.getElem?_setIfInBounds, this, if_false]
          exact h.off s hs
      · rw [hset] at hx ⊢
        by_cases e2 : i = y
        · rw [if_pos e2]
        · rw [if_neg e2]
          by_cases e1 : i = x
          · subst e1
            exact dep_of hi (waits_map hy)
          · rw [if_neg e1] at hx
            exact h.closed x y hx hy
      · rw [hdn x hx, hg2 x hx, hset]
        by_cases e : i = x
        · subst e
          simp
        · have e' : ¬ x = i := fun z => e z.symm
          simp [e, e']
      · rw [hset] at hh
        by_cases e : i = j
        · subst e
          rw [hjd, ev_put _ _ _ (by rw [h.tsize]; exact r4 d hjd), if_pos rfl]
        · rw [if_neg e] at hh
          have hVj : V g' j = V g j := hV j (fun z => e z.symm) (by
            cases hr : reachB ops ops.size j i with
            | false => rfl
            | true =>
              have := reach_on h.closed ops.size j i hh hr
              rw [hoi] at this
              cases this)
          rw [hVj]
          cases hD : D.getD i none with
          | none => exact hg3 j d hjd hh
          | some d' =>
            rw [ev_put _ _ _ (by rw [h.tsize]; exact r4 d' hD), if_neg (fun e2 => e (r5 j d (lt j d hjd) (by rw [hD, e2]) hjd))]
            exact hg3 j d hjd hh
  · intro l a w' h hall
    have hal : ∀ i, i < D.length → on l i = true := fun i hi => by
      have := hall i (by rw [hn]; exact hi)
      simp only [on, Array.getD, h.size, hi, dite_true] at this ⊢
      exact this
    obtain ⟨g, hg1, hg2, hg3⟩ := h.g
    exact hend a w' g h.tsize h.defers h.off hg1 (fun x hx => by
      rw [hg2 x hx]
      exact hal x (by simpa using List.all_eq_true.1 hlt x hx)) fun i d hD => hg3 i d hD (hal i (lt i d hD))
end
theorem l_callE {P : Program} {o : Oper} {a : Act} {w : World} {K : Act → World → Prop} {Q : Exit → Act → World → Prop} {f : FuncId} {fn : Func} {c : Code} {args : Array Operand} {tys : Array TypeId} {xs : Array Value} {R : Ending → World → Prop} (h : o.op = .call { callee := .value (.func f), args := args, argTypes := tys }) (hx : args.map a.eval = xs)
    (hf : P.funcs[f]? = some fn) (hname : (fn.name == "runtime.NumGoroutine") = false) (hb : fn.body = some c) (hc : Calls P f xs w R) (hR : ∀ e w', R e w' → ∃ v, e = .returned v ∧ K (a.put o.dst v) w') : o.wp P a w K Q := by
  have hr : (execOp a.eval o).run P w = .ok (.enter f xs) w := by
    simp [execOp, h, resolve, invoke, hx, Deferred.ofValue, Go.MuLone.run_callFunc_enter hf hname hb, Act.eval]
  unfold Oper.wp
  rw [hr, Oper.upon_enter]
  refine hc.mono ?_
  intro e w' k
  obtain ⟨v, rfl, hK⟩ := hR e w' k
  exact hK
end Go.Proofs.YtaalohcldoakoaaGreatDoor
/- The book's kind Ints: single operations. -/
namespace Go.Proofs.YtaalohcldoakoaaGreatDoor
open Go.RowKit
abbrev kcInts : KC := ⟨1, 3, 1, 29, 4⟩
theorem Ints_bs1 (w : World) (a : Option Addr) (n c : Nat) : (Instr.buildSlice 28 1 #[(0, .slice a n c)]).run Tryz.prog w = .ok (.slice (some ⟨w.heap.size, 0, none⟩) 1 1) (w.alloc (.cells #[.slice a n c] 29)) := by
  go_simp
theorem Ints_bs0 (w : World) : (Instr.buildSlice 29 0 #[]).run Tryz.prog w = .ok (.slice (some ⟨w.heap.size, 0, none⟩) 0 0) (w.alloc (.cells #[] 3)) := by
  go_simp
theorem Ints_ld {w : World} {bb i : Nat} {a : Option Addr} {n c : Nat} (h : w.cell? ⟨bb, i, none⟩ = some (.slice a n c)) : (Instr.loadAt 28 (pv bb i)).run Tryz.prog w = .ok (.slice a n c) w := by
  unfold pv
  go_simp
theorem Ints_st {w : World} {bb i : Nat} {a : Option Addr} {n c : Nat} {u : Value} (h : w.cell? ⟨bb, i, none⟩ = some u) (hz : w.frozen? ⟨bb, i, none⟩ = false) : (Instr.storeAt 28 (pv bb i) (.slice a n c)).run Tryz.prog w = .ok () (w.setCell ⟨bb, i, none⟩ (.slice a n c)) := by
  unfold pv
  go_simp
theorem Ints_bs1o (w : World) {y : Value} (hy : ∃ a n c, y = .slice a n c) : (Instr.buildSlice 28 1 #[(0, y)]).run Tryz.prog w = .ok (.slice (some ⟨w.heap.size, 0, none⟩) 1 1) (w.alloc (.cells #[y] 29)) := by
  obtain ⟨a, n, c, rfl⟩ := hy
  exact Ints_bs1 w a n c
theorem Ints_ldo {w : World} {bb i : Nat} {y : Value} (hy : ∃ a n c, y = .slice a n c) (h : w.cell? ⟨bb, i, none⟩ = some y) : (Instr.loadAt 28 (pv bb i)).run Tryz.prog w = .ok y w := by
  obtain ⟨a, n, c, rfl⟩ := hy
  exact Ints_ld h
theorem Ints_sto {w : World} {bb i : Nat} {y u : Value} (hy : ∃ a n c, y = .slice a n c) (h : w.cell? ⟨bb, i, none⟩ = some u) (hz : w.frozen? ⟨bb, i, none⟩ = false) : (Instr.storeAt 28 (pv bb i) y).run Tryz.prog w = .ok () (w.setCell ⟨bb, i, none⟩ y) := by
  obtain ⟨a, n, c, rfl⟩ := hy
  exact Ints_st h hz
theorem Ints_info : (Tryz.prog.info? 3).map (fun i => (i.zero, i.size, i.bytes)) = some (some (.int .i64 0), 1, 8) := by kernel_rfl
theorem Ints_linfo : (Tryz.prog.info? 29).map (fun i => (i.zero, i.size, i.bytes)) = some (some (.slice none 0 0), 1, 24) := by kernel_rfl
theorem Ints_und : Tryz.prog.underlying 29 = some (.slice 3) := by kernel_rfl
theorem Ints_lund : Tryz.prog.underlying 28 = some (.slice 29) := by kernel_rfl
/-- The whole of the kind's state. -/
def FullInts (C : Own) (w : World) (f : Nat → Value) (ot : List Ot) (wn : List Wt) (fr : List Fh) : Prop :=
  KOut C w kcInts f (ot.map (·.o)) (ot.map (·.c)) (wn.map (·.l)) (wn.map (·.c)) (fr.map (·.l)) ((wn.map (·.mark)).map vi) ((wn.map (·.due)).map vi) ((fr.map (·.mark)).map vi) ∧ KRows C w kcInts ot wn fr
end Go.Proofs.YtaalohcldoakoaaGreatDoor
/- Reading a row of numbers. -/
namespace Go.Proofs.YtaalohcldoakoaaGreatDoor
open Go.RowKit
theorem idx_ints {w : World} {g m rc k : Nat} (hlt : (k : Int) < (m : Int)) : (Instr.indexAt 29 (.slice (some ⟨g, 0, none⟩) m rc) (vi (k : Nat))).run Tryz.prog w = .ok (pv g k) w := by
  unfold pv
  go_simp
end Go.Proofs.YtaalohcldoakoaaGreatDoor

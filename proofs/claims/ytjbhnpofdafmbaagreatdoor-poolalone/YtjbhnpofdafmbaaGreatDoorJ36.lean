/- The law's lists held against each other. -/
import Derived.Test.YtjbhnpofdafmbaaGreatDoorJ35
import Derived.BigQuiet
import Derived.Test.YtjbhnpofdafmbaaGreatDoorJ33
import Derived.Test.YtjbhnpofdafmbaaGreatDoorJ24
import Derived.Test.YtjbhnpofdafmbaaGreatDoorJ17
import Derived.Test.YtjbhnpofdafmbaaGreatDoorJ13
namespace Go.Proofs.YtjbhnpofdafmbaaGreatDoor
open Go.RowKit
theorem cLInts {w : World} {va vb : Value} {n : Nat} {zs : List Int} (ha : IRow w 3 1 va n zs) (hb : IRow w 3 1 vb n zs) (hn : n ≤ 1000000) : Calls Tryz.prog 37 #[va, vb] w fun e w' => e = .returned (.bool true) ∧ Turned [] w w' := by
  obtain ⟨aa, ca, rfl⟩ := Row.shape ha
  obtain ⟨ab, cb, rfl⟩ := Row.shape hb
  have HA : Hid _ := ha
  have HB : Hid _ := hb
  clear ha hb
  go_enter Tryz.func37, Tryz.ntmps37
  go_wp2
  go_loopw [5] (fun i wx => ∃ k : Nat, k ≤ n ∧ i = .int .i64 k ∧ Hid (Turned [] w wx)) (fun i _ => n - (intOf i).toNat)
  case atStart => exact ⟨0, Nat.zero_le _, rfl, Turned.refl _ _⟩
  case round =>
    obtain ⟨k, hk, rfl, HT⟩ := hrel
    by_cases hkn : k < n
    · obtain ⟨ga, ca', cua, ea, -, -⟩ := Row.form HA.out (by omega)
      obtain ⟨gb, cb', cub, eb, -, -⟩ := Row.form HB.out (by omega)
      simp only [Value.slice.injEq, true_and] at ea eb
      obtain ⟨rfl, rfl⟩ := ea
      obtain ⟨rfl, rfl⟩ := eb
      have c1 := IRow.cell (Row.keep HA.out HT.out (by simp)) (j := k) (by omega)
      have c2 := IRow.cell (Row.keep HB.out HT.out (by simp)) (j := k) (by omega)
      have hlt : (k : Int) < (n : Int) := by omega
      go_wp2
      go_quiet (fail)
      go_wp2
      exact ⟨⟨k + 1, by omega, by go_num, ⟨HT.out.os, HT.out.tape, HT.out.output, HT.out.size, HT.out.block⟩⟩, by simp [intOf]; omega⟩
    · have : k = n := by omega
      subst this
      go_wp2
      go_ret
      exact ⟨rfl, HT.out⟩
theorem cLSlots {w : World} {va vb : Value} {n : Nat} {zs : List Int} (ha : IRow w 64 7 va n zs) (hb : IRow w 64 7 vb n zs) (hn : n ≤ 1000000) : Calls Tryz.prog 35 #[va, vb] w fun e w' => e = .returned (.bool true) ∧ Turned [] w w' := by
  obtain ⟨aa, ca, rfl⟩ := Row.shape ha
  obtain ⟨ab, cb, rfl⟩ := Row.shape hb
  have HA : Hid _ := ha
  have HB : Hid _ := hb
  clear ha hb
  go_enter Tryz.func35, Tryz.ntmps35
  go_wp2
  go_loopw [5] (fun i wx => ∃ k : Nat, k ≤ n ∧ i = .int .i64 k ∧ Hid (Turned [] w wx)) (fun i _ => n - (intOf i).toNat)
  case atStart => exact ⟨0, Nat.zero_le _, rfl, Turned.refl _ _⟩
  case round =>
    obtain ⟨k, hk, rfl, HT⟩ := hrel
    by_cases hkn : k < n
    · obtain ⟨ga, ca', cua, ea, -, -⟩ := Row.form HA.out (by omega)
      obtain ⟨gb, cb', cub, eb, -, -⟩ := Row.form HB.out (by omega)
      simp only [Value.slice.injEq, true_and] at ea eb
      obtain ⟨rfl, rfl⟩ := ea
      obtain ⟨rfl, rfl⟩ := eb
      have ra := Row.keep HA.out HT.out (by simp)
      have rb := Row.keep HB.out HT.out (by simp)
      have a0 : wr.cell? ⟨ga, k * 7, none⟩ = some (.int .i64 (zs.getD (k * 7) 0)) := IRow.cell ra (j := k * 7) (by omega)
      have a1 : wr.cell? ⟨ga, k * 7 + 1, none⟩ = some (.int .i64 (zs.getD (k * 7 + 1) 0)) := IRow.cell ra (j := k * 7 + 1) (by omega)
      have a2 : wr.cell? ⟨ga, k * 7 + 2, none⟩ = some (.int .i64 (zs.getD (k * 7 + 2) 0)) := IRow.cell ra (j := k * 7 + 2) (by omega)
      have a3 : wr.cell? ⟨ga, k * 7 + 3, none⟩ = some (.int .i64 (zs.getD (k * 7 + 3) 0)) := IRow.cell ra (j := k * 7 + 3) (by omega)
      have a4 : wr.cell? ⟨ga, k * 7 + 4, none⟩ = some (.int .i64 (zs.getD (k * 7 + 4) 0)) := IRow.cell ra (j := k * 7 + 4) (by omega)
      have a5 : wr.cell? ⟨ga, k * 7 + 5, none⟩ = some (.int .i64 (zs.getD (k * 7 + 5) 0)) := IRow.cell ra (j := k * 7 + 5) (by omega)
      have a6 : wr.cell? ⟨ga, k * 7 + 6, none⟩ = some (.int .i64 (zs.getD (k * 7 + 6) 0)) := IRow.cell ra (j := k * 7 + 6) (by omega)
      have b0 : wr.cell? ⟨gb, k * 7, none⟩ = some (.int .i64 (zs.getD (k * 7) 0)) := IRow.cell rb (j := k * 7) (by omega)
      have b1 : wr.cell? ⟨gb, k * 7 + 1, none⟩ = some (.int .i64 (zs.getD (k * 7 + 1) 0)) := IRow.cell rb (j := k * 7 + 1) (by omega)
      have b2 : wr.cell? ⟨gb, k * 7 + 2, none⟩ = some (.int .i64 (zs.getD (k * 7 + 2) 0)) := IRow.cell rb (j := k * 7 + 2) (by omega)
      have b3 : wr.cell? ⟨gb, k * 7 + 3, none⟩ = some (.int .i64 (zs.getD (k * 7 + 3) 0)) := IRow.cell rb (j := k * 7 + 3) (by omega)
      have b4 : wr.cell? ⟨gb, k * 7 + 4, none⟩ = some (.int .i64 (zs.getD (k * 7 + 4) 0)) := IRow.cell rb (j := k * 7 + 4) (by omega)
      have b5 : wr.cell? ⟨gb, k * 7 + 5, none⟩ = some (.int .i64 (zs.getD (k * 7 + 5) 0)) := IRow.cell rb (j := k * 7 + 5) (by omega)
      have b6 : wr.cell? ⟨gb, k * 7 + 6, none⟩ = some (.int .i64 (zs.getD (k * 7 + 6) 0)) := IRow.cell rb (j := k * 7 + 6) (by omega)
      generalize zs.getD (k * 7) 0 = z0 at a0 b0
      generalize zs.getD (k * 7 + 1) 0 = z1 at a1 b1
      generalize zs.getD (k * 7 + 2) 0 = z2 at a2 b2
      generalize zs.getD (k * 7 + 3) 0 = z3 at a3 b3
      generalize zs.getD (k * 7 + 4) 0 = z4 at a4 b4
      generalize zs.getD (k * 7 + 5) 0 = z5 at a5 b5
      generalize zs.getD (k * 7 + 6) 0 = z6 at a6 b6
      have hlt : (k : Int) < (n : Int) := by omega
      clear ra rb
      go_wp2
      go_quiet (fail)
      go_wp2
      exact ⟨⟨k + 1, by omega, by go_num, ⟨HT.out.os, HT.out.tape, HT.out.output, HT.out.size, HT.out.block⟩⟩, by simp [intOf]; omega⟩
    · have : k = n := by omega
      subst this
      go_wp2
      go_ret
      exact ⟨rfl, HT.out⟩
end Go.Proofs.YtjbhnpofdafmbaaGreatDoor
/- The same with guards that hold. -/
namespace Go.Proofs.YtjbhnpofdafmbaaGreatDoor
open Go.RowKit
section
variable {P : Program} {ops : Array Oper} {Q : Exit → Act → World → Prop} {G : Type}
theorem wp_region_ghost2 {id : Nat} {a0 : Act} {w : World} (hm : P.follows .mixedOrders = true) (D : List (Option Nat)) (hok : regOk ops D a0.tmps.size = true) (V : G → Nat → Value) (hgu : ∀ (i g : Nat) (b : Bool), (ops[i]?).bind (fun o : Oper => o.guard) = some (g, b) → ∀ γ, V γ g = .bool b) (As : List Nat) (done : G → Nat → Bool) (St : G → World → Prop) (g0 : G) (h0 : St g0 w.drew) (hd0 : ∀ x ∈ As, done g0 x = false) (hlt : As.all (fun x => decide (x < D.length)) = true)
    (hstep : ∀ i, i < D.length → YieldsG P ops D V a0 As done St Q i)
    (hend : ∀ a' w' g, a'.tmps.size = a0.tmps.size → a'.defers = a0.defers → (∀ s, some s ∉ D → a'.tmps[s]? = a0.tmps[s]?) → St g w' → (∀ x ∈ As, done g x = true) → (∀ i d, D.getD i none = some d → a'.eval (.tmp d) = V g i) → Q .normal a' w') :
    (Code.region id ops true).wp P Q a0 w := by
  have hn : ops.size = D.length := by
    unfold regOk at hok
    simp only [Bool.and_eq_true, beq_iff_eq] at hok
    exact hok.1
  have mem : ∀ s i, D.getD i none = some s → some s ∈ D := fun s i e => by
    have hi : i < D.length := by
      apply Classical.byContradiction
      intro h
      rw [List.getD_eq_getElem?_getD, List.getElem?_eq_none (by omega)] at e
      cases e
    rw [List.getD_eq_getElem?_getD, List.getElem?_eq_getElem hi] at e
    have := List.getElem_mem hi
    rw [show D[i] = some s from e] at this
    exact this
  have lt : ∀ i d, D.getD i none = some d → i < D.length := fun i d e => by
    apply Classical.byContradiction
    intro h
    rw [List.getD_eq_getElem?_getD, List.getElem?_eq_none (by omega)] at e
    cases e
  have hoff : ∀ i, on (Array.replicate ops.size false) i = false := fun i => by
    simp only [on, Array.getD_eq_getD_getElem?, Array.getElem?_replicate]
    split <;> rfl
  refine wp_region_inv hm (fun i o ho => (reg_at hok ho).2.2.1) (IGhost ops D V a0 As done St) (fun l a w h => by rw [hn]; exact h.size) ?_ ?_ ?_
  · exact ⟨by simp [hn], rfl, rfl, fun _ _ => rfl, fun i j hh => (by rw [hoff] at hh; cases hh), g0, h0, fun x hx => by rw [hoff, hd0 x hx], fun i d _ hh => (by rw [hoff] at hh; cases hh)⟩
  · intro l a w' h i hi
    obtain ⟨hu, o, ho, hall⟩ := mem_ready.1 hi
    obtain ⟨r1, r2, r3, r4, r5, r6⟩ := reg_at hok ho
    have hoi : on l i = false := by simp only [on]; simp [Array.getD, h.size, r1] at hu ⊢; exact hu
    have hset : ∀ j, on (l.setIfInBounds i true) j = if i = j then true else on l j := fun j => on_set i j (by rw [h.size]; exact r1)
    obtain ⟨g, hg1, hg2, hg3⟩ := h.g
    have hwant : Region.wanted o (yielded ops a.tmps) = true := by
      cases hgd : o.guard with
      | none => simp [Region.wanted, hgd]
      | some gb =>
        obtain ⟨q, bq⟩ := gb
        obtain ⟨h1, h3, h4⟩ := r6 q bq hgd
        obtain ⟨d, hgD⟩ := Option.isSome_iff_exists.1 h4
        have hv := hg3 q d hgD (dep_of hi (waits_map h3))
        rw [hgu i q bq (by rw [ho]; exact hgd) g] at hv
        have hgo : ∃ og, ops[q]? = some og := ⟨ops[q]'(by omega), Array.getElem?_eq_getElem (by omega)⟩
        obtain ⟨og, hog⟩ := hgo
        have hy : yielded ops a.tmps q = some bq := by
          unfold yielded
          rw [hog]
          simp only [Option.bind_some, (reg_at hok hog).2.1, hgD]
          have hlt : d < a.tmps.size := by rw [h.tsize]; exact (reg_at hok hog).2.2.2.1 d hgD
          simp only [Act.eval, Array.getD, hlt, dite_true] at hv
          rw [Array.getElem?_eq_getElem hlt]
          have : a.tmps[d] = .bool bq := hv
          rw [this]
        simp [Region.wanted, hgd, hy]
    unfold wpOp
    simp only [ho]
    rw [if_pos hwant]
    left
    refine hstep i r1 o a w' g _ ho r2 h.tsize (fun s hs => ?_) (fun j d hjd hh => hg3 j d hjd (dep_of hi (waits_map hh))) hg1 (fun x hx hr => ?_) (fun hm => ?_) (fun x hx hr => ?_) ?_
    · simp only [Act.eval, Array.getD_eq_getD_getElem?, h.off s hs]
    · rw [hg2 x hx]
      exact reach_on_ready hi hr h.closed
    · rw [hg2 i hm, hoi]
    · rw [hg2 x hx]
      cases hx2 : on l x with
      | false => rfl
      | true =>
        have := reach_on h.closed ops.size x i hx2 hr
        rw [hoi] at this
        cases this
    · intro g' w2 hS hdn hV
      have hputs : (a.put (D.getD i none) (V g' i)).tmps.size = a0.tmps.size := by
        cases hD : D.getD i none <;> simp [Act.put, h.tsize]
      have hputd : (a.put (D.getD i none) (V g' i)).defers = a0.defers := by
        cases hD : D.getD i none <;> simp [Act.put, h.defers]
      refine ⟨by simp [h.size], hputs, hputd, fun s hs => ?_, fun x y hx hy => ?_, g', hS, fun x hx => ?_, fun j d hjd hh => ?_⟩
      · cases hD : D.getD i none with
        | none => exact h.off s hs
        | some d =>
          have : d ≠ s := fun e => hs (mem s i (by rw [hD, e]))
          simp only [Act.put, Array.getElem?_setIfInBounds, this, if_false]
          exact h.off s hs
      · rw [hset] at hx ⊢
        by_cases e2 : i = y
        · rw [if_pos e2]
        · rw [if_neg e2]
          by_cases e1 : i = x
          · subst e1
            exact dep_of hi (waits_map hy)
          · rw [if_neg e1] at hx
            exact h.closed x y hx hy
      · rw [hdn x hx, hg2 x hx, hset]
        by_cases e : i = x
        · subst e
          simp
        · have e' : ¬ x = i := fun z => e z.symm
          simp [e, e']
      · rw [hset] at hh
        by_cases e : i = j
        · subst e
          rw [hjd, ev_put _ _ _ (by rw [h.tsize]; exact r4 d hjd), if_pos rfl]
        · rw [if_neg e] at hh
          have hVj : V g' j = V g j := hV j (fun z => e z.symm) (by
            cases hr : reachB ops ops.size j i with
            | false => rfl
            | true =>
              have := reach_on h.closed ops.size j i hh hr
              rw [hoi] at this
              cases this)
          rw [hVj]
          cases hD : D.getD i none with
          | none => exact hg3 j d hjd hh
          | some d' =>
            rw [ev_put _ _ _ (by rw [h.tsize]; exact r4 d' hD), if_neg (fun e2 => e (r5 j d (lt j d hjd) (by rw [hD, e2]) hjd))]
            exact hg3 j d hjd hh
  · intro l a w' h hall
    have hal : ∀ i, i < D.length → on l i = true := fun i hi => by
      have := hall i (by rw [hn]; exact hi)
      simp only [on, Array.getD, h.size, hi, dite_true] at this ⊢
      exact this
    obtain ⟨g, hg1, hg2, hg3⟩ := h.g
    exact hend a w' g h.tsize h.defers h.off hg1 (fun x hx => by
      rw [hg2 x hx]
      exact hal x (by simpa using List.all_eq_true.1 hlt x hx)) fun i d hD => hg3 i d hD (hal i (lt i d hD))
end
theorem l_callE {P : Program} {o : Oper} {a : Act} {w : World} {K : Act → World → Prop} {Q : Exit → Act → World → Prop} {f : FuncId} {fn : Func} {c : Code} {args : Array Operand} {tys : Array TypeId} {xs : Array Value} {R : Ending → World → Prop} (h : o.op = .call { callee := .value (.func f), args := args, argTypes := tys }) (hx : args.map a.eval = xs)
    (hf : P.funcs[f]? = some fn) (hname : (fn.name == "runtime.NumGoroutine") = false) (hb : fn.body = some c) (hc : Calls P f xs w R) (hR : ∀ e w', R e w' → ∃ v, e = .returned v ∧ K (a.put o.dst v) w') : o.wp P a w K Q := by
  have hr : (execOp a.eval o).run P w = .ok (.enter f xs) w := by
    simp [execOp, h, resolve, invoke, hx, Deferred.ofValue, Go.MuLone.run_callFunc_enter hf hname hb, Act.eval]
  unfold Oper.wp
  rw [hr, Oper.upon_enter]
  refine hc.mono ?_
  intro e w' k
  obtain ⟨v, rfl, hK⟩ := hR e w' k
  exact hK
end Go.Proofs.YtjbhnpofdafmbaaGreatDoor
/- The law's 'stands': its regions. -/
namespace Go.Proofs.YtjbhnpofdafmbaaGreatDoor
open Go.RowKit
section
variable {w x x' : World} {b : PairB} {s : PSt} {hs_ : List Int} {it : Nat}
theorem Pair.same (h : Pair w b s hs_ it) (ht : Turned [] w x) : Pair x b s hs_ it := ⟨ht.heap h.obj (by simp), h.pa.keep ht (by simp), h.rp.turned ht (by simp), Row.keep h.row ht (by simp), h.gl, h.good, h.few⟩
theorem Pair.c0 (h : Pair w b s hs_ it) : w.cell? ⟨b.x, 0, none⟩ = some (.pointer (some ⟨b.p, 0, none⟩)) := (cell_at h.obj 0).trans (by simp)
theorem Pair.c1 (h : Pair w b s hs_ it) : w.cell? ⟨b.x, 1, none⟩ = some (.pointer (some ⟨b.r.q, 0, none⟩)) := (cell_at h.obj 1).trans (by simp)
/-- The slots' list of the program, number by number. -/
theorem recs_take (f : Nat → Slot) : ∀ n : Nat, ((List.range (n * 7)).map fun t => sTab f n (t / 7) (t % 7)) = (slotNums f n).map (.int .i64 ·) := by
  have key : ∀ m n : Nat, m ≤ n → ((List.range (m * 7)).map fun t => sTab f n (t / 7) (t % 7)) = (slotNums f m).map (Value.int .i64 ·) := by
    intro m
    induction m with
    | zero => intro n _; rfl
    | succ m ih =>
      intro n hn
      rw [show (m + 1) * 7 = m * 7 + 7 by omega, List.range_add, List.map_append, ih n (by omega)]
      show _ = (slotNums f m ++ srow (f (m + 1))).map (Value.int .i64 ·)
      rw [List.map_append]
      congr 1
      have e : ∀ k, k < 7 → sTab f n ((m * 7 + k) / 7) ((m * 7 + k) % 7) = sfld (f (m + 1)) k := fun k hk => by
        rw [show (m * 7 + k) / 7 = m by omega, show (m * 7 + k) % 7 = k by omega]
        unfold sTab
        rw [if_pos (by omega)]
      simp only [List.range_succ, List.range_zero, List.map_cons, List.map_nil, List.nil_append, List.cons_append]
      rw [e 0 (by omega), e 1 (by omega), e 2 (by omega), e 3 (by omega), e 4 (by omega), e 5 (by omega), e 6 (by omega)]
      rfl
  exact fun n => key n n (Nat.le_refl _)
theorem recs_row {g n B : Nat} {f : Nat → Slot} (h : w.heap[g]? = some (recObj 64 7 (sTab f n) n)) (hB : B ≤ g) (hn : n ≤ 1000000) : w.ownsRow B 64 7 (.slice (some ⟨g, 0, none⟩) n n) n ((slotNums f n).map (.int .i64 ·)) := by
  have e := recs_take f n
  refine ⟨?_, .inr ⟨g, n, _, rfl, hB, h, Nat.le_refl _, by unfold maxLen; omega, by simp, ?_⟩⟩
  · rw [← e]
    simp
  · rw [← e]
    exact List.take_of_length_le (by simp)
end
structure S4 where
  vs : Option Value
  vl : Option Value
def S4V (b : PairB) (g : S4) : Nat → Value
  | 0 => pv b.x 0
  | 1 => pv b.x 0
  | 2 => pv b.x 0
  | 3 => pv b.p 0
  | 4 => g.vs.getD undef
  | 5 => pv b.x 0
  | 6 => pv b.x 0
  | 7 => pv b.x 0
  | 8 => pv b.p 0
  | 9 => g.vl.getD undef
  | 10 => g.vs.getD undef
  | 11 => g.vl.getD undef
  | _ => undef
def s4done (g : S4) : Nat → Bool
  | 4 => g.vs.isSome
  | 9 => g.vl.isSome
  | _ => false
structure S4St (w : World) (s : PSt) (g : S4) (x : World) : Prop where
  turned : Turned [] w x
  a1 : ∀ v, g.vs = some v → x.ownsRow w.heap.size 64 7 v s.n ((slotNums s.slot s.n).map (.int .i64 ·))
  a2 : ∀ v, g.vl = some v → x.ownsRow w.heap.size 3 1 v s.places.length (placesV s.places)
set_option maxRecDepth 100000 in
set_option maxHeartbeats 3200000 in
theorem stands_r4 {K : Act → World → Prop} {Q : Exit → Act → World → Prop} {a : Act} {w : World} {b : PairB} {s : PSt} {hs_ : List Int} {it : Nat} (hs : a.tmps.size = 70) (x0 : a.eval (.tmp 0) = pv b.x 0) (hP : Pair w b s hs_ it)
    (hEnd : ∀ a1 w1 vs vl, a1.tmps.size = a.tmps.size → a1.defers = a.defers → (∀ q : Nat, q < 8 → a1.eval (.tmp q) = a.eval (.tmp q)) → Turned [] w w1 → w1.ownsRow w.heap.size 64 7 vs s.n ((slotNums s.slot s.n).map (.int .i64 ·)) → w1.ownsRow w.heap.size 3 1 vl s.places.length (placesV s.places) → a1.eval (.tmp 8) = vs → a1.eval (.tmp 9) = vl → K a1 w1) :
    (Code.region 4 (opsOf 4 Tryz.f7.body) true).wp Tryz.prog (Exit.then K Q) a w := by
  have hn := hP.good.ok.n2
  have rA : reachB (opsOf 4 Tryz.f7.body) (opsOf 4 Tryz.f7.body).size 10 4 = true := by kernel_rfl
  have rB : reachB (opsOf 4 Tryz.f7.body) (opsOf 4 Tryz.f7.body).size 11 9 = true := by kernel_rfl
  have keep : ∀ (i : Nat) (g : S4), i ∉ [4, 9] → ∀ y ∈ [4, 9], s4done g y = (s4done g y || y == i) := fun i g hi y hy => by
    have : ¬ y = i := fun e => hi (e ▸ hy)
    simp [this]
  refine wp_region_ghost (by kernel_rfl) [some 14, some 15, some 16, some 17, some 18, some 19, some 20, some 21, some 22, some 23, some 8, some 9] (by rw [hs]; kernel_rfl) (by kernel_rfl) (S4V b) [4, 9] s4done (S4St w s) ⟨none, none⟩ ?_ ?_ (by decide) ?_ ?_
  · exact ⟨(Turned.refl _ _).drew, fun v hv => by simp at hv, fun v hv => by simp at hv⟩
  · intro y hy
    simp at hy
    rcases hy with rfl | rfl <;> rfl
  · intro i hi o ac x g K ho hd _ hoff hv hS hin hno hbe hK
    have hx := hP.same hS.turned
    rcases (by simp at hi; omega : i = 0 ∨ i = 1 ∨ i = 2 ∨ i = 3 ∨ i = 4 ∨ i = 5 ∨ i = 6 ∨ i = 7 ∨ i = 8 ∨ i = 9 ∨ i = 10 ∨ i = 11) with rfl | rfl | rfl | rfl | rfl | rfl | rfl | rfl | rfl | rfl | rfl | rfl
    · have hK' := hK g x hS (keep 0 g (by decide)) (fun _ _ _ => rfl)
      exact l_val hd ((x_move (op_is rfl ho)).trans (by rw [(hoff 0 (by decide)).trans x0]; rfl)) hK'
    · have hK' := hK g x hS (keep 1 g (by decide)) (fun _ _ _ => rfl)
      exact l_val hd (x_nil (op_is rfl ho) (hv 0 14 rfl (by kernel_rfl))) hK'
    · have hK' := hK g x hS (keep 2 g (by decide)) (fun _ _ _ => rfl)
      exact l_val hd (x_field (op_is rfl ho) (by rw [hv 1 15 rfl (by kernel_rfl)]; show _ = Result.ok (pv b.x _) _; unfold S4V pv; go_simp)) hK'
    · have hK' := hK g x hS (keep 3 g (by decide)) (fun _ _ _ => rfl)
      exact l_val hd (x_load (op_is rfl ho) (by rw [hv 2 16 rfl (by kernel_rfl)]; exact ld_pool hx.c0)) hK'
    · refine l_callP (M := fun x' => Turned [] x x' ∧ x'.heap[x.heap.size]? = some (recObj 64 7 (sTab s.slot s.n) s.n)) hd (op_is rfl ho) (by simp only [List.map_toArray, List.map_cons, List.map_nil, hv 3 17 rfl (by kernel_rfl)] <;> rfl) Tryz.func14 (by kernel_rfl) (by rfl) (cPSlots hx.pa hn) ?_
      rintro x' ⟨t', h'⟩
      have hsz := hS.turned.size
      refine hK ⟨some (.slice (some ⟨x.heap.size, 0, none⟩) s.n s.n), g.vl⟩ x' ⟨hS.turned.trans t', fun v hv => ?_, fun v hv => Row.keep (hS.a2 v hv) t' (by simp)⟩ (fun y hy => ?_) (fun j hj hr => ?_)
      · simp at hv
        subst hv
        exact recs_row h' hsz (by omega)
      · simp at hy
        rcases hy with rfl | rfl <;> simp [s4done]
      · match j, hj, hr with
        | 0, _, _ => rfl
        | 1, _, _ => rfl
        | 2, _, _ => rfl
        | 3, _, _ => rfl
        | 4, hj, _ => exact absurd rfl hj
        | 5, _, _ => rfl
        | 6, _, _ => rfl
        | 7, _, _ => rfl
        | 8, _, _ => rfl
        | 9, _, _ => rfl
        | 10, _, hr => rw [rA] at hr; cases hr
        | 11, _, _ => rfl
        | q + 12, _, _ => rfl
    · have hK' := hK g x hS (keep 5 g (by decide)) (fun _ _ _ => rfl)
      exact l_val hd ((x_move (op_is rfl ho)).trans (by rw [(hoff 0 (by decide)).trans x0]; rfl)) hK'
    · have hK' := hK g x hS (keep 6 g (by decide)) (fun _ _ _ => rfl)
      exact l_val hd (x_nil (op_is rfl ho) (hv 5 19 rfl (by kernel_rfl))) hK'
    · have hK' := hK g x hS (keep 7 g (by decide)) (fun _ _ _ => rfl)
      exact l_val hd (x_field (op_is rfl ho) (by rw [hv 6 20 rfl (by kernel_rfl)]; show _ = Result.ok (pv b.x _) _; unfold S4V pv; go_simp)) hK'
    · have hK' := hK g x hS (keep 8 g (by decide)) (fun _ _ _ => rfl)
      exact l_val hd (x_load (op_is rfl ho) (by rw [hv 7 21 rfl (by kernel_rfl)]; exact ld_pool hx.c0)) hK'
    · refine l_callE (op_is rfl ho) (by simp only [List.map_toArray, List.map_cons, List.map_nil, hv 8 22 rfl (by kernel_rfl)] <;> rfl) Tryz.func34 (by kernel_rfl) (by rfl) (cPFreeG hx.pa hx.good.ok) ?_
      rintro e x' ⟨v, rfl, t', r'⟩
      rw [hd]
      refine ⟨v, rfl, ?_⟩
      have hsz := hS.turned.size
      refine hK ⟨g.vs, some v⟩ x' ⟨hS.turned.trans t', fun u hu => Row.keep (hS.a1 u hu) t' (by simp), fun u hu => ?_⟩ (fun y hy => ?_) (fun j hj hr => ?_)
      · simp at hu
        subst hu
        exact Row.from (Row.low r') (fun g hg => Nat.le_trans hsz (Row.ge r' hg))
      · simp at hy
        rcases hy with rfl | rfl <;> simp [s4done]
      · match j, hj, hr with
        | 0, _, _ => rfl
        | 1, _, _ => rfl
        | 2, _, _ => rfl
        | 3, _, _ => rfl
        | 4, _, _ => rfl
        | 5, _, _ => rfl
        | 6, _, _ => rfl
        | 7, _, _ => rfl
        | 8, _, _ => rfl
        | 9, hj, _ => exact absurd rfl hj
        | 10, _, _ => rfl
        | 11, _, hr => rw [rB] at hr; cases hr
        | q + 12, _, _ => rfl
    · have hK' := hK g x hS (keep 10 g (by decide)) (fun _ _ _ => rfl)
      exact l_val hd ((x_assign (op_is rfl ho)).trans (by rw [hv 4 18 rfl (by kernel_rfl)]; rfl)) hK'
    · have hK' := hK g x hS (keep 11 g (by decide)) (fun _ _ _ => rfl)
      exact l_val hd ((x_assign (op_is rfl ho)).trans (by rw [hv 9 23 rfl (by kernel_rfl)]; rfl)) hK'
  · intro a1 w1 g g1 g2 g3 hS hd g4
    obtain ⟨vs, vl⟩ := g
    obtain ⟨vs, rfl⟩ := Option.isSome_iff_exists.1 (show vs.isSome = true from hd 4 (by simp))
    obtain ⟨vl, rfl⟩ := Option.isSome_iff_exists.1 (show vl.isSome = true from hd 9 (by simp))
    exact hEnd a1 w1 vs vl g1 g2 (fun q hq => ev_same (g3 q (fun hm => by simp at hm; omega))) hS.turned (hS.a1 vs rfl) (hS.a2 vl rfl) (g4 10 8 rfl) (g4 11 9 rfl)
end Go.Proofs.YtjbhnpofdafmbaaGreatDoor
/- A frame, spelled out. -/
namespace Go.Proofs.YtjbhnpofdafmbaaGreatDoor
open Go.RowKit
def lit81 (c : Nat → Value) : Array Value := #[c 0, c 1, c 2, c 3, c 4, c 5, c 6, c 7, c 8, c 9, c 10, c 11, c 12, c 13, c 14, c 15, c 16, c 17, c 18, c 19, c 20, c 21, c 22, c 23, c 24, c 25, c 26, c 27, c 28, c 29, c 30, c 31, c 32, c 33, c 34, c 35, c 36, c 37, c 38, c 39, c 40, c 41, c 42, c 43, c 44, c 45, c 46, c 47, c 48, c 49, c 50, c 51, c 52, c 53, c 54, c 55, c 56, c 57, c 58, c 59, c 60, c 61, c 62, c 63, c 64, c 65, c 66, c 67, c 68, c 69, c 70, c 71, c 72, c 73, c 74, c 75, c 76, c 77, c 78, c 79, c 80]
set_option maxRecDepth 100000 in
theorem lit81_eq (c : Nat → Value) : lit81 c = ((List.range 81).map c).toArray := by rfl
theorem expand81 {a : Act} (hs : a.tmps.size = 81) (hd : a.defers = []) : ∃ c : Nat → Value, a = ⟨lit81 c, []⟩ ∧ ∀ s, c s = a.eval (.tmp s) := by
  refine ⟨fun s => a.tmps.getD s undef, ?_, fun s => rfl⟩
  obtain ⟨t, d⟩ := a
  simp only at hs hd
  subst hd
  congr 1
  rw [lit81_eq]
  refine Array.ext (by simp [hs]) fun i h1 h2 => ?_
  simp [Array.getD, h1]
end Go.Proofs.YtjbhnpofdafmbaaGreatDoor
/- The law's 'looks'. -/
namespace Go.Proofs.YtjbhnpofdafmbaaGreatDoor
open Go.RowKit
section
variable {w0 x x' x1 : World} {b : PairB} {hs_ : List Int} {s : PSt} {ob tb c c' : Nat} {o_ : OpV} {T T' l : List Nat}
theorem DS.same (h : DS w0 b hs_ s s ob tb o_ T c x) (ht : Turned [] x x') : DS w0 b hs_ s s ob tb o_ T c x' := by
  obtain ⟨L, h1, h2⟩ := h.pa
  exact ⟨ht.heap h.obj (by simp), ht.heap h.op (by simp), ⟨L, h1.keep ht (by simp), h2⟩, h.rp.turned ht (by simp), h.th.turned ht (by simp), h.out, h.new, Row.keep h.row ht (by simp), h.gl, h.old, h.turned.trans (ht.mono (by simp))⟩
/-- Lists of one's own are written. -/
theorem DS.beside (h : DS w0 b hs_ s s ob tb o_ T c x) (hlt : b.r.g < w0.heap.size) (ht : Turned l x x') (hl : ∀ g, g ∈ l → w0.heap.size ≤ g ∧ g ∉ T ∧ ∃ cs : Array Value, x.heap[g]? = some (.cells cs 3 (0, 0))) : DS w0 b hs_ s s ob tb o_ T c x' := by
  obtain ⟨L, h1, h2⟩ := h.pa
  have nt : ∀ y, y ∈ l → ∀ {cs : Array Value} {t : TypeId}, t ≠ 3 → ∀ {z : Nat}, x.heap[z]? = some (.cells cs t (0, 0)) → z ≠ y := fun y hy cs t ht z hz e => by
    subst e
    obtain ⟨-, -, cs', hc⟩ := hl z hy
    rw [hz] at hc
    simp at hc
    exact ht hc.2
  have out : ∀ {cs : Array Value} {t : TypeId} {z : Nat}, t ≠ 3 → x.heap[z]? = some (.cells cs t (0, 0)) → z ∉ l := fun ht hz hm => nt _ hm ht hz rfl
  have hr : ∀ y, y ∈ l → y ∉ b.r.all := fun y hy hm => by
    obtain ⟨a1, a2, cs, hc⟩ := hl y hy
    obtain ⟨cap, e1⟩ := h.rp.mObj
    simp only [RB.all, List.mem_cons, List.not_mem_nil, or_false] at hm
    rcases hm with e | e | e | e | e
    · exact other_type hc h.rp.pool (by decide) e
    · exact other_type hc h.rp.pile (by decide) e
    · exact other_type hc e1 (by decide) e
    · omega
    · exact other_type hc h.rp.slots (by decide) e
  refine ⟨ht.heap h.obj (out (by decide) h.obj), ht.heap h.op (out (by decide) h.op), ⟨L, h1.keep ht (fun y hy => ?_), h2⟩, h.rp.turned ht hr, h.th.turned ht (fun y hy => (hl y hy).2.1), h.out, h.new, Row.keep h.row ht (fun g hg hm => ?_), h.gl, h.old, h.turned.inner ht (fun y hy => .inr (hl y hy).1)⟩
  · obtain ⟨-, -, cs, hc⟩ := hl y hy
    exact h1.ty hc (by decide)
  · have h1 := h.old g hg
    have h2 := (hl g hm).1
    omega
theorem Mine.base {v : Value} {n : Nat} {xs : List Value} (h : Mine x1 T x v n xs) (hs : w0.heap.size ≤ x1.heap.size) : Mine w0 T x v n xs := ⟨h.row, fun g hg => ⟨Nat.le_trans hs (h.new g hg).1, (h.new g hg).2⟩⟩
theorem Mine.rgo {v : Value} {n : Nat} {xs : List Value} (h : Mine w0 T x v n xs) (hlt : ∀ y, y ∈ b.r.all → y < w0.heap.size) {s' : PSt} (hd : RGo b.r T x tb c s' T' x') : Mine w0 T' x' v n xs :=
  ⟨Row.keep h.row hd.did.turned (fun g hg hm => by
    rcases List.mem_append.1 hm with e | e
    · have h1 := (h.new g hg).1
      have h2 := hlt g e
      omega
    · exact (h.new g hg).2 e), fun g hg => ⟨(h.new g hg).1, by
    obtain ⟨cur, hc⟩ := Row.obj h.row hg
    exact hd.did.wide.out (lt_of_heap hc) (h.new g hg).2⟩⟩
theorem DS.upc {c2 : Nat} (h : DS w0 b hs_ s s ob tb o_ T c x) (hc : c ≤ c2) : DS w0 b hs_ s s ob tb o_ T c2 x := ⟨h.obj, h.op, h.pa, h.rp, h.th.up hc, h.out, h.new, h.row, h.gl, h.old, h.turned⟩
theorem ints_IRow {g n : Nat} {f : Nat → Int} (h : x.heap[g]? = some (intsObj (fst_ f n) n)) (hn : n ≤ 1000000) : IRow x 3 1 (.slice (some ⟨g, 0, none⟩) n n) n (numsOf f n) := by
  have := ints_row (B := 0) h (Nat.zero_le _) hn
  rw [fst_all] at this
  exact this
/-- A list of one's own through the document's lines. -/
theorem ints_rgo {s' : PSt} {g : Nat} {f : Nat → Int} {n : Nat} (h : x.heap[g]? = some (intsObj f n)) (hd : RGo b.r T x tb c s' T' x') (hlt : ∀ y, y ∈ b.r.all → y < w0.heap.size) (hg : w0.heap.size ≤ g) (hT : g ∉ T) : x'.heap[g]? = some (intsObj f n) ∧ g ∉ T' :=
  ⟨hd.did.turned.heap h (fun hm => by
    rcases List.mem_append.1 hm with e | e
    · have := hlt g e
      omega
    · exact hT e), hd.did.wide.out (lt_of_heap h) hT⟩
theorem chain_few (f : Nat → Nat) : ∀ (t i : Nat) (L : List Nat), (chain f t i L).length ≤ t + L.length
  | 0, _, L => by simp [chain]
  | t + 1, i, L => by
    unfold chain
    split
    · omega
    · have := chain_few f t (f i) (L ++ [i])
      simp at this
      omega
theorem places_few (s : PSt) : s.places.length ≤ s.n + 1 := by
  have := chain_few s.f (s.n + 1) (idxV s.h).toNat []
  simpa [PSt.places] using this
theorem Mine.ofNew {v : Value} {n : Nat} {xs : List Value} (h : x'.ownsRow x.heap.size 3 1 v n xs) (hs : w0.heap.size ≤ x.heap.size) (hT : ∀ y, y ∈ T → y < x.heap.size) : Mine w0 T x' v n xs :=
  ⟨Row.low h, fun g hg => by
    have := Row.ge h hg
    exact ⟨by omega, fun hm => by have := hT g hm; omega⟩⟩
theorem Mine.ofObj {g n : Nat} {f : Nat → Int} (h : x'.heap[g]? = some (intsObj f n)) (hg : x.heap.size ≤ g) (hn : n ≤ 1000000) (hs : w0.heap.size ≤ x.heap.size) (hT : ∀ y, y ∈ T → y < x.heap.size) : Mine w0 T x' (.slice (some ⟨g, 0, none⟩) n n) n ((List.range n).map fun j => .int .i64 (f j)) := Mine.ofNew (ints_row h hg hn) hs hT
theorem IRow.ofMine {v : Value} {n : Nat} {zs : List Int} (h : Mine w0 T x v n (zs.map (.int .i64 ·))) : IRow x 3 1 v n zs := h.row
end
end Go.Proofs.YtjbhnpofdafmbaaGreatDoor
/- The law's 'looks', whole. -/
namespace Go.Proofs.YtjbhnpofdafmbaaGreatDoor
open Go.RowKit
def placesZ (L : List Nat) : List Int := L.map fun (i : Nat) => (i : Int)
theorem places_z (L : List Nat) : placesV L = (placesZ L).map (.int .i64 ·) := by simp [placesV, placesZ]
section
variable {w0 w : World} {b : PairB} {hs_ : List Int} {s : PSt} {ob tb c : Nat} {o_ : OpV} {T : List Nat}
structure LKI (w0 : World) (b : PairB) (hs_ : List Int) (s : PSt) (ob tb c : Nat) (o_ : OpV) (a' : Act) (w' : World) : Prop where
  ex : ∃ (k : Nat) (T1 : List Nat), k ≤ 2 ∧ a'.tmps.size = 81 ∧ a'.defers = [] ∧ a'.eval (.tmp 0) = pv b.x 0 ∧ a'.eval (.tmp 1) = pv tb 0 ∧ a'.eval (.tmp 5) = .int .i64 (k : Nat) ∧ DS w0 b hs_ s s ob tb o_ T1 (c + 25000 * k) w'
structure LKA (w0 : World) (b : PairB) (hs_ : List Int) (s : PSt) (ob tb c : Nat) (o_ : OpV) (k : Nat) (T1 : List Nat) (b1 c1 m : Nat) (lv : Value) (a' : Act) (w' : World) : Prop where
  ex : ∃ (j : Nat) (fa fb : Nat → Int) (xl : List Value), j ≤ s.n ∧ a'.tmps.size = 81 ∧ a'.defers = [] ∧ a'.eval (.tmp 0) = pv b.x 0 ∧ a'.eval (.tmp 1) = pv tb 0 ∧ a'.eval (.tmp 5) = .int .i64 (k : Nat) ∧ a'.eval (.tmp 6) = .slice (some ⟨b1, 0, none⟩) s.n s.n ∧ a'.eval (.tmp 7) = .slice (some ⟨c1, 0, none⟩) s.n s.n ∧ a'.eval (.tmp 10) = lv ∧ a'.eval (.tmp 11) = .int .i64 (j : Nat) ∧ w'.heap[b1]? = some (intsObj fa s.n) ∧ w'.heap[c1]? = some (intsObj fb s.n) ∧ Mine w0 T1 w' lv m xl ∧ DS w0 b hs_ s s ob tb o_ T1 (c + 25000 * (k + 1)) w'
structure LKB (w0 : World) (b : PairB) (hs_ : List Int) (s : PSt) (ob tb c : Nat) (o_ : OpV) (k : Nat) (T1 : List Nat) (m : Nat) (lv : Value) (a' : Act) (w' : World) : Prop where
  ex : ∃ (j : Nat) (xl : List Value), j ≤ m ∧ a'.tmps.size = 81 ∧ a'.defers = [] ∧ a'.eval (.tmp 0) = pv b.x 0 ∧ a'.eval (.tmp 1) = pv tb 0 ∧ a'.eval (.tmp 5) = .int .i64 (k : Nat) ∧ a'.eval (.tmp 10) = lv ∧ a'.eval (.tmp 12) = .int .i64 (j : Nat) ∧ Mine w0 T1 w' lv m xl ∧ DS w0 b hs_ s s ob tb o_ T1 (c + 25000 * (k + 1)) w'
set_option maxRecDepth 100000 in
set_option maxHeartbeats 3200000 in
theorem cLLooks (hD : DS w0 b hs_ s s ob tb o_ T c w) (hok : s.Ok) (hc : c ≤ 1000) (hlt : ∀ y, y ∈ b.r.all → y < w0.heap.size) : Calls Tryz.prog 31 #[.pointer (some ⟨b.x, 0, none⟩), .pointer (some ⟨tb, 0, none⟩)] w fun e w' => e = .returned (.bool true) ∧ ∃ T', DS w0 b hs_ s s ob tb o_ T' (c + 50000) w' := by
  have hn := hok.n2
  have hltg : b.r.g < w0.heap.size := hlt b.r.g (by simp [RB.all])
  have HD : Hid _ := hD
  clear hD
  go_enter Tryz.func31, Tryz.ntmps31
  go_wp2
  refine wp_loop (LKI w0 b hs_ s ob tb c o_) (fun a' _ => 2 - (intOf (a'.eval (.tmp 5))).toNat) ?_ ?_
  · exact ⟨0, T, by omega, rfl, rfl, rfl, rfl, rfl, HD.out⟩
  clear HD
  rintro a2 w2 ⟨k, T1, hk, hs2, hd2, x0, x1, x5, hD⟩
  obtain ⟨cc, rfl, hcc⟩ := expand81 hs2 hd2
  have y0 : cc 0 = .pointer (some ⟨b.x, 0, none⟩) := (hcc 0).trans x0
  have y1 : cc 1 = .pointer (some ⟨tb, 0, none⟩) := (hcc 1).trans x1
  have y5 : cc 5 = .int .i64 (k : Nat) := (hcc 5).trans x5
  rw [x5, show (intOf (.int .i64 (k : Nat))).toNat = k by simp [intOf]]
  clear hcc x0 x1 x5 hs2 hd2
  unfold lit81
  simp only [y0, y1, y5]
  clear y0 y1 y5
  by_cases hlk : k < 2
  · have hl2 : (k : Int) < 2 := by omega
    have c0 := hD.c0
    obtain ⟨L, hpa, -⟩ := hD.pa
    have H1 := cPGens hpa hn
    have sz2 := hD.turned.size
    have HD2 : Hid _ := hD
    clear hD hpa
    go_wp2_with (first
      | (go_at_call 85; refine H1.mono ?_; clear H1 c0; rintro e w3 ⟨b1, c1, rfl, t3, hb1, hc1, hbc, ob1, oc1⟩; have d3 := HD2.out.same t3; have q1 := d3.c1; have H2 := cRGens d3.th d3.rp hn (by omega) d3.out; have HD3 : Hid _ := d3; have HSz : Hid (w0.heap.size ≤ w3.heap.size) := d3.turned.size; have HO1 : Hid _ := ob1; have HO2 : Hid _ := oc1; have HN1 : Hid (b1 ∉ T1) := (fun hm => (by have := HD2.out.th.lt b1 hm; omega)); have HN2 : Hid (c1 ∉ T1) := (fun hm => (by have := HD2.out.th.lt c1 hm; omega)); clear d3 t3 ob1 oc1)
      | (go_at_call 86; refine H2.mono ?_; clear H2 q1; rintro e w4 ⟨v6, v7, T4, rfl, g4, m6, m7, -⟩; have d4 := HD3.out.ref g4; have q0 := d4.c0; have M34 : Hid _ := m6; have M44 : Hid _ := m7; obtain ⟨L4, hpa4, -⟩ := d4.pa; have H3 := cPLook hpa4 hok; have HD4 : Hid _ := d4; have HO14 : Hid _ := ints_rgo HO1.out g4 hlt (by omega) HN1.out; have HO24 : Hid _ := ints_rgo HO2.out g4 hlt (by omega) HN2.out; clear d4 g4 m6 m7 hpa4 HD3 HO1 HO2 HN1 HN2)
      | (go_at_call 87; refine H3.mono ?_; clear H3 q0; rintro e w5 ⟨vl, rfl, t5, r5⟩; have d5 := HD4.out.same t5; have o1 := t5.heap HO14.out.1 (by simp); have o2 := t5.heap HO24.out.1 (by simp); have HI1 := cLInts (ints_IRow o1 (by omega)) (IRow.ofMine (M34.out.turned t5 (by simp))) (by omega); have HR2 : Hid _ := ints_IRow o2 (by omega); have M45 : Hid _ := M44.out.turned t5 (by simp); have ML5 : Hid _ := Mine.ofNew r5 HD4.out.turned.size HD4.out.th.lt; have HLn : Hid (∀ g, vl.ownBlock = some g → w4.heap.size ≤ g) := (fun g hg => Row.ge r5 hg); have HD5 : Hid _ := d5; have HO15 : Hid _ := o1; have HO25 : Hid _ := o2; have HL1 : Hid (b1 < w4.heap.size) := lt_of_heap HO14.out.1; have HL2 : Hid (c1 < w4.heap.size) := lt_of_heap HO24.out.1; clear d5 t5 r5 o1 o2)
      | (go_at_call 37; refine HI1.mono ?_; clear HI1; rintro e w6 ⟨rfl, t6⟩; have HI2 := cLInts (Row.keep HR2.out t6 (by simp)) (IRow.ofMine (M45.out.turned t6 (by simp))) (by omega); have HT6 : Hid _ := t6; clear t6 HR2 M45)
      | (go_at_call 37; refine HI2.mono ?_; clear HI2; rintro e w7 ⟨rfl, t7⟩; have d7 := HD5.out.same (HT6.out.trans t7); have q7 := d7.c1; have H4 := cRLook d7.th d7.rp (by omega) d7.out hok; have HD7 : Hid _ := d7; have ML7 : Hid _ := ML5.out.turned (HT6.out.trans t7) (by simp); have HO17 : Hid _ := (HT6.out.trans t7).heap HO15.out (by simp); have HO27 : Hid _ := (HT6.out.trans t7).heap HO25.out (by simp); clear t7 d7 HD5 ML5 HO15 HO25)
      | (go_at_call 88; refine H4.mono ?_; clear H4 q7; rintro e w8 ⟨ve, T8, rfl, g8, m8⟩; have d8 := HD7.out.ref g8; have ml8 := ML7.out.rgo hlt g8; rw [places_z] at ml8 m8; have HI3 := cLInts (IRow.ofMine ml8) (IRow.ofMine m8) (by have := places_few s; omega); have HD8 : Hid _ := d8; have ML8 : Hid _ := ml8; have HO18 : Hid _ := ints_rgo HO17.out g8 hlt (by omega) HO14.out.2; have HO28 : Hid _ := ints_rgo HO27.out g8 hlt (by omega) HO24.out.2; clear d8 g8 m8 ml8 HD7 ML7 HO17 HO27)
      | (go_at_call 37; refine HI3.mono ?_; clear HI3; rintro e w9 ⟨rfl, t9⟩; have HT9 : Hid _ := t9; clear t9))
    have d9 := HD8.out.same HT9.out
    have hvl := HLn.out
    have hl1 := HL1.out
    have hl2' := HL2.out
    refine wp_loop (LKA w0 b hs_ s ob tb c o_ k T8 b1 c1 s.places.length vl) (fun a' _ => s.n - (intOf (a'.eval (.tmp 11))).toNat) ?_ ?_
    · exact ⟨0, _, _, _, Nat.zero_le _, rfl, rfl, rfl, rfl, rfl, rfl, rfl, rfl, rfl, HT9.out.heap HO18.out.1 (by simp), HT9.out.heap HO28.out.1 (by simp), ML8.out.turned HT9.out (by simp), d9.upc (by omega)⟩
    have hb0 : w0.heap.size ≤ b1 := by omega
    have hc0 : w0.heap.size ≤ c1 := by omega
    have HNb : Hid (b1 ∉ T8) := HO18.out.2
    have HNc : Hid (c1 ∉ T8) := HO28.out.2
    clear d9 HT9 HO18 HO28 ML8 HD8 HL1 HL2 HLn M44 M34 HD4 HSz HD2
    rintro a3 w10 ⟨j, fa, fb, xl, hj, hs2, hd2, x0, x1, x5, x6, x7, x10, x11, hA, hB, hM, hD⟩
    obtain ⟨cc, rfl, hcc⟩ := expand81 hs2 hd2
    have y0 : cc 0 = .pointer (some ⟨b.x, 0, none⟩) := (hcc 0).trans x0
    have y1 : cc 1 = .pointer (some ⟨tb, 0, none⟩) := (hcc 1).trans x1
    have y5 : cc 5 = .int .i64 (k : Nat) := (hcc 5).trans x5
    have y6 : cc 6 = .slice (some ⟨b1, 0, none⟩) s.n s.n := (hcc 6).trans x6
    have y7 : cc 7 = .slice (some ⟨c1, 0, none⟩) s.n s.n := (hcc 7).trans x7
    have y10 : cc 10 = vl := (hcc 10).trans x10
    have y11 : cc 11 = .int .i64 (j : Nat) := (hcc 11).trans x11
    rw [x11, show (intOf (.int .i64 (j : Nat))).toNat = j by simp [intOf]]
    clear hcc x0 x1 x5 x6 x7 x10 x11 hs2 hd2
    unfold lit81
    simp only [y0, y1, y5, y6, y7, y10, y11]
    clear y0 y1 y5 y6 y7 y10 y11
    have HD : Hid _ := hD
    have HM : Hid _ := hM
    have HA : Hid _ := hA
    have HB : Hid _ := hB
    by_cases hjn : j < s.n
    · have hjl : (j : Int) < (s.n : Int) := by omega
      have u1 := ints_cell hA hjn
      have u2 := ints_cell hB hjn
      have z1 := froz_at hA j
      have z2 := froz_at hB j
      have hcb : ¬ c1 = b1 := fun e => hbc e.symm
      have tS : Turned [b1, c1] w10 ((w10.setCell ⟨b1, j, none⟩ (.int .i64 (-1))).setCell ⟨c1, j, none⟩ (.int .i64 (-1))) := ((Turned.refl [b1, c1] w10).set (.inl (by simp)) _ _).set (.inl (by simp)) _ _
      have oA : ((w10.setCell ⟨b1, j, none⟩ (.int .i64 (-1))).setCell ⟨c1, j, none⟩ (.int .i64 (-1))).heap[b1]? = some (intsObj (updI fa j (-1)) s.n) := by rw [blk_other hbc, ints_put hA]
      have oB : ((w10.setCell ⟨b1, j, none⟩ (.int .i64 (-1))).setCell ⟨c1, j, none⟩ (.int .i64 (-1))).heap[c1]? = some (intsObj (updI fb j (-1)) s.n) := by rw [ints_put ((blk_other hcb _ _).trans hB)]
      have HS : Hid _ := tS
      have HOA : Hid _ := oA
      have HOB : Hid _ := oB
      clear hA hB hM hD tS oA oB
      go_wp2
      refine ⟨⟨j + 1, _, _, _, by omega, rfl, rfl, rfl, rfl, rfl, rfl, rfl, rfl, by show Value.int .i64 ((j : Int) + 1) = .int .i64 ((j + 1 : Nat) : Int); simp, HOA.out, HOB.out, HM.out.turned HS.out (fun g hg hm => ?_), HD.out.beside hltg HS.out (fun g hg => ?_)⟩, ?_⟩
      · have := hvl g hg
        simp at hm
        omega
      · simp at hg
        rcases hg with rfl | rfl
        · exact ⟨hb0, HNb.out, _, HA.out⟩
        · exact ⟨hc0, HNc.out, _, HB.out⟩
      · have e : (intOf (Value.int .i64 ((j : Int) + 1))).toNat = j + 1 := by simp [intOf]
        change s.n - (intOf (Value.int .i64 ((j : Int) + 1))).toNat < _
        rw [e]
        omega
    · obtain rfl : j = s.n := by omega
      have hjl : ¬ (s.n : Int) < (s.n : Int) := by omega
      clear hA hB hM hD
      go_wp2
      refine wp_loop (LKB w0 b hs_ s ob tb c o_ k T8 s.places.length vl) (fun a' _ => s.places.length - (intOf (a'.eval (.tmp 12))).toNat) ?_ ?_
      · exact ⟨0, _, Nat.zero_le _, rfl, rfl, rfl, rfl, rfl, rfl, rfl, HM.out, HD.out⟩
      clear HM HD HA HB
      rintro a4 w11 ⟨i, xl, hi, hs2, hd2, x0, x1, x5, x10, x12, hM, hD⟩
      obtain ⟨cc, rfl, hcc⟩ := expand81 hs2 hd2
      have y0 : cc 0 = .pointer (some ⟨b.x, 0, none⟩) := (hcc 0).trans x0
      have y1 : cc 1 = .pointer (some ⟨tb, 0, none⟩) := (hcc 1).trans x1
      have y5 : cc 5 = .int .i64 (k : Nat) := (hcc 5).trans x5
      obtain ⟨la, lc, rfl⟩ := Row.shape hM.row
      have y10 : cc 10 = .slice la s.places.length lc := (hcc 10).trans x10
      have y12 : cc 12 = .int .i64 (i : Nat) := (hcc 12).trans x12
      rw [x12, show (intOf (.int .i64 (i : Nat))).toNat = i by simp [intOf]]
      clear hcc x0 x1 x5 x10 x12 hs2 hd2
      unfold lit81
      simp only [y0, y1, y5, y10, y12]
      clear y0 y1 y5 y10 y12
      have HD : Hid _ := hD
      have HM : Hid _ := hM
      have hm5 : s.places.length ≤ 4097 := by have := places_few s; omega
      generalize hmm : s.places.length = m at *
      by_cases hin : i < m
      · obtain ⟨gl, cap, cur, e, hgl, hcap⟩ := Row.form hM.row (by omega)
        simp only [Value.slice.injEq, true_and] at e
        obtain ⟨rfl, rfl⟩ := e
        have hil : (i : Int) < (m : Int) := by omega
        have st := (World.ownsRow.stored hM.row i (.int .i64 (-1))).1
        have hxl := hM.row.1
        obtain ⟨u, hu⟩ : ∃ u, w11.cell? ⟨gl, i, none⟩ = some u := ⟨xl[i]'(by omega), (World.ownsRow.cellAt hM.row i (by omega)).trans (List.getElem?_eq_getElem (by omega))⟩
        have z := froz_at hgl i
        have HS : Hid (Turned [gl] w11 (w11.setCell ⟨gl, i, none⟩ (.int .i64 (-1)))) := (Turned.refl [gl] w11).set (.inl (by simp)) _ _
        have HST : Hid _ := st
        have HGL : Hid _ := hgl
        clear hM hD st hgl
        go_wp2
        refine ⟨⟨i + 1, _, by omega, rfl, rfl, rfl, rfl, rfl, rfl, by show Value.int .i64 ((i : Int) + 1) = .int .i64 ((i + 1 : Nat) : Int); simp, ⟨HST.out, HM.out.new⟩, HD.out.beside hltg HS.out (fun g hg => ?_)⟩, ?_⟩
        · simp at hg
          subst hg
          exact ⟨(HM.out.new g rfl).1, (HM.out.new g rfl).2, _, HGL.out⟩
        · have e : (intOf (Value.int .i64 ((i : Int) + 1))).toNat = i + 1 := by simp [intOf]
          change m - (intOf (Value.int .i64 ((i : Int) + 1))).toNat < _
          rw [e]
          omega
      · obtain rfl : i = m := by omega
        have hil : ¬ (i : Int) < (i : Int) := by omega
        clear hM hD
        go_wp2
        refine ⟨⟨k + 1, _, by omega, rfl, rfl, rfl, rfl, by show Value.int .i64 ((k : Int) + 1) = .int .i64 ((k + 1 : Nat) : Int); simp, HD.out⟩, ?_⟩
        have e : (intOf (Value.int .i64 ((k : Int) + 1))).toNat = k + 1 := by simp [intOf]
        change 2 - (intOf (Value.int .i64 ((k : Int) + 1))).toNat < _
        rw [e]
        omega
  · obtain rfl : k = 2 := by omega
    have hl2 : ¬ ((2 : Nat) : Int) < 2 := by omega
    have HD2 : Hid _ := hD
    clear hD
    go_wp2
    go_ret
    exact ⟨rfl, _, HD2.out.upc (by omega)⟩
end
end Go.Proofs.YtjbhnpofdafmbaaGreatDoor
/- A frame, spelled out. -/
namespace Go.Proofs.YtjbhnpofdafmbaaGreatDoor
open Go.RowKit
def lit316 (c : Nat → Value) : Array Value := #[c 0, c 1, c 2, c 3, c 4, c 5, c 6, c 7, c 8, c 9, c 10, c 11, c 12, c 13, c 14, c 15, c 16, c 17, c 18, c 19, c 20, c 21, c 22, c 23, c 24, c 25, c 26, c 27, c 28, c 29, c 30, c 31, c 32, c 33, c 34, c 35, c 36, c 37, c 38, c 39, c 40, c 41, c 42, c 43, c 44, c 45, c 46, c 47, c 48, c 49, c 50, c 51, c 52, c 53, c 54, c 55, c 56, c 57, c 58, c 59, c 60, c 61, c 62, c 63, c 64, c 65, c 66, c 67, c 68, c 69, c 70, c 71, c 72, c 73, c 74, c 75, c 76, c 77, c 78, c 79, c 80, c 81, c 82, c 83, c 84, c 85, c 86, c 87, c 88, c 89, c 90, c 91, c 92, c 93, c 94, c 95, c 96, c 97, c 98, c 99, c 100, c 101, c 102, c 103, c 104, c 105, c 106, c 107, c 108, c 109, c 110, c 111, c 112, c 113, c 114, c 115, c 116, c 117, c 118, c 119, c 120, c 121, c 122, c 123, c 124, c 125, c 126, c 127, c 128, c 129, c 130, c 131, c 132, c 133, c 134, c 135, c 136, c 137, c 138, c 139, c 140, c 141, c 142, c 143, c 144, c 145, c 146, c 147, c 148, c 149, c 150, c 151, c 152, c 153, c 154, c 155, c 156, c 157, c 158, c 159, c 160, c 161, c 162, c 163, c 164, c 165, c 166, c 167, c 168, c 169, c 170, c 171, c 172, c 173, c 174, c 175, c 176, c 177, c 178, c 179, c 180, c 181, c 182, c 183, c 184, c 185, c 186, c 187, c 188, c 189, c 190, c 191, c 192, c 193, c 194, c 195, c 196, c 197, c 198, c 199, c 200, c 201, c 202, c 203, c 204, c 205, c 206, c 207, c 208, c 209, c 210, c 211, c 212, c 213, c 214, c 215, c 216, c 217, c 218, c 219, c 220, c 221, c 222, c 223, c 224, c 225, c 226, c 227, c 228, c 229, c 230, c 231, c 232, c 233, c 234, c 235, c 236, c 237, c 238, c 239, c 240, c 241, c 242, c 243, c 244, c 245, c 246, c 247, c 248, c 249, c 250, c 251, c 252, c 253, c 254, c 255, c 256, c 257, c 258, c 259, c 260, c 261, c 262, c 263, c 264, c 265, c 266, c 267, c 268, c 269, c 270, c 271, c 272, c 273, c 274, c 275, c 276, c 277, c 278, c 279, c 280, c 281, c 282, c 283, c 284, c 285, c 286, c 287, c 288, c 289, c 290, c 291, c 292, c 293, c 294, c 295, c 296, c 297, c 298, c 299, c 300, c 301, c 302, c 303, c 304, c 305, c 306, c 307, c 308, c 309, c 310, c 311, c 312, c 313, c 314, c 315]
set_option maxRecDepth 100000 in
theorem lit316_eq (c : Nat → Value) : lit316 c = ((List.range 316).map c).toArray := by rfl
theorem expand316 {a : Act} (hs : a.tmps.size = 316) (hd : a.defers = []) : ∃ c : Nat → Value, a = ⟨lit316 c, []⟩ ∧ ∀ s, c s = a.eval (.tmp s) := by
  refine ⟨fun s => a.tmps.getD s undef, ?_, fun s => rfl⟩
  obtain ⟨t, d⟩ := a
  simp only at hs hd
  subst hd
  congr 1
  rw [lit316_eq]
  refine Array.ext (by simp [hs]) fun i h1 h2 => ?_
  simp [Array.getD, h1]
end Go.Proofs.YtjbhnpofdafmbaaGreatDoor

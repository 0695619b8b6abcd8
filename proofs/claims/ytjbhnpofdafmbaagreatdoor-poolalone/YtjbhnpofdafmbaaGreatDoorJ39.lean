/- The law's 'stands': its second region. -/
import Derived.Test.YtjbhnpofdafmbaaGreatDoorJ36
import Derived.Test.YtjbhnpofdafmbaaGreatDoorJ38
import Derived.Test.YtjbhnpofdafmbaaGreatDoorJ37
namespace Go.Proofs.YtjbhnpofdafmbaaGreatDoor
open Go.RowKit
structure S5 where
  vs : Option Value
  b6 : Bool
  vl : Option Value
  b15 : Bool
def S5V (b : PairB) (s : PSt) (vs0 vl0 : Value) (g : S5) : Nat → Value
  | 0 => vs0
  | 1 => pv b.x 0
  | 2 => pv b.x 0
  | 3 => pv b.x 1
  | 4 => pv b.r.q 0
  | 5 => g.vs.getD undef
  | 6 => .bool true
  | 7 => .bool false
  | 8 => .bool false
  | 9 => vl0
  | 10 => pv b.x 0
  | 11 => pv b.x 0
  | 12 => pv b.x 1
  | 13 => pv b.r.q 0
  | 14 => g.vl.getD undef
  | 15 => .bool true
  | 16 => .bool false
  | 17 => .bool false
  | 18 => .bool false
  | 19 => pv b.x 0
  | 20 => pv b.x 0
  | 21 => pv b.x 0
  | 22 => pv b.p 0
  | 23 => vi s.faults
  | 24 => pv b.x 0
  | 25 => pv b.x 0
  | 26 => pv b.x 1
  | 27 => pv b.r.q 0
  | 28 => vi s.faults
  | 29 => .bool false
  | 30 => .bool false
  | _ => undef
def s5done (g : S5) : Nat → Bool
  | 5 => g.vs.isSome
  | 6 => g.b6
  | 14 => g.vl.isSome
  | 15 => g.b15
  | _ => false
structure S5St (w : World) (s : PSt) (g : S5) (x : World) : Prop where
  turned : Turned [] w x
  a1 : ∀ v, g.vs = some v → IRow x 64 7 v s.n (slotNums s.slot s.n)
  a2 : ∀ v, g.vl = some v → IRow x 3 1 v s.places.length (placesZ s.places)
theorem x_neqI {ρ : Operand → Value} {o : Oper} {w : World} {x y : Operand} {t : TypeId} {a b : Int} (h : o.op = .binOp .neq 3 x y t) (hx : ρ x = .int .i64 a) (hy : ρ y = .int .i64 b) : (execOp ρ o).run Tryz.prog w = .ok (.value (.bool (a != b))) w := by
  simp [execOp, h, hx, hy, eqGuard, binOp, Op.intCmp]
set_option maxRecDepth 100000 in
set_option maxHeartbeats 3200000 in
theorem stands_r5 {K : Act → World → Prop} {Q : Exit → Act → World → Prop} {a : Act} {w : World} {b : PairB} {s : PSt} {hs_ : List Int} {it : Nat} {vs0 vl0 : Value} (hs : a.tmps.size = 70) (x0 : a.eval (.tmp 0) = pv b.x 0) (x8 : a.eval (.tmp 8) = vs0) (x9 : a.eval (.tmp 9) = vl0) (hP : Pair w b s hs_ it) (hvs : IRow w 64 7 vs0 s.n (slotNums s.slot s.n)) (hvl : IRow w 3 1 vl0 s.places.length (placesZ s.places))
    (hEnd : ∀ a1 w1, a1.tmps.size = a.tmps.size → a1.defers = a.defers → (∀ q : Nat, q < 10 → a1.eval (.tmp q) = a.eval (.tmp q)) → Turned [] w w1 → a1.eval (.tmp 54) = .bool false → K a1 w1) :
    (Code.region 5 (opsOf 5 Tryz.f7.body) true).wp Tryz.prog (Exit.then K Q) a w := by
  have hn := hP.good.ok.n2
  have hpf := places_few s
  have rA : reachB (opsOf 5 Tryz.f7.body) (opsOf 5 Tryz.f7.body).size 6 5 = true := by kernel_rfl
  have rB : reachB (opsOf 5 Tryz.f7.body) (opsOf 5 Tryz.f7.body).size 15 14 = true := by kernel_rfl
  have keep : ∀ (i : Nat) (g : S5), i ∉ [5, 6, 14, 15] → ∀ y ∈ [5, 6, 14, 15], s5done g y = (s5done g y || y == i) := fun i g hi y hy => by
    have : ¬ y = i := fun e => hi (e ▸ hy)
    simp [this]
  refine wp_region_ghost2 (by kernel_rfl) [some 24, some 25, some 26, some 27, some 28, some 29, some 30, some 31, some 32, some 33, some 34, some 35, some 36, some 37, some 38, some 39, some 40, some 41, some 42, some 43, some 44, some 45, some 46, some 47, some 48, some 49, some 50, some 51, some 52, some 53, some 54] (by rw [hs]; kernel_rfl) (S5V b s vs0 vl0) ?_ [5, 6, 14, 15] s5done (S5St w s) ⟨none, false, none, false⟩ ?_ ?_ (by decide) ?_ ?_
  · intro i q bq h γ
    rcases two_guards (g0 := 8) (b0 := false) (g1 := 18) (b1 := false) (by kernel_rfl) h with ⟨rfl, rfl⟩ | ⟨rfl, rfl⟩ <;> rfl
  · exact ⟨(Turned.refl _ _).drew, fun v hv => by simp at hv, fun v hv => by simp at hv⟩
  · intro y hy
    simp at hy
    rcases hy with rfl | rfl | rfl | rfl <;> rfl
  · intro i hi o ac x g K ho hd _ hoff hv hS hin hno hbe hK
    have hx := hP.same hS.turned
    rcases (by simp at hi; omega : i = 0 ∨ i = 1 ∨ i = 2 ∨ i = 3 ∨ i = 4 ∨ i = 5 ∨ i = 6 ∨ i = 7 ∨ i = 8 ∨ i = 9 ∨ i = 10 ∨ i = 11 ∨ i = 12 ∨ i = 13 ∨ i = 14 ∨ i = 15 ∨ i = 16 ∨ i = 17 ∨ i = 18 ∨ i = 19 ∨ i = 20 ∨ i = 21 ∨ i = 22 ∨ i = 23 ∨ i = 24 ∨ i = 25 ∨ i = 26 ∨ i = 27 ∨ i = 28 ∨ i = 29 ∨ i = 30) with rfl | rfl | rfl | rfl | rfl | rfl | rfl | rfl | rfl | rfl | rfl | rfl | rfl | rfl | rfl | rfl | rfl | rfl | rfl | rfl | rfl | rfl | rfl | rfl | rfl | rfl | rfl | rfl | rfl | rfl | rfl
    · have hK' := hK g x hS (keep 0 g (by decide)) (fun _ _ _ => rfl)
      exact l_val hd ((x_move (op_is rfl ho)).trans (by rw [(hoff 8 (by decide)).trans x8]; rfl)) hK'
    · have hK' := hK g x hS (keep 1 g (by decide)) (fun _ _ _ => rfl)
      exact l_val hd ((x_move (op_is rfl ho)).trans (by rw [(hoff 0 (by decide)).trans x0]; rfl)) hK'
    · have hK' := hK g x hS (keep 2 g (by decide)) (fun _ _ _ => rfl)
      exact l_val hd (x_nil (op_is rfl ho) (hv 1 25 rfl (by kernel_rfl))) hK'
    · have hK' := hK g x hS (keep 3 g (by decide)) (fun _ _ _ => rfl)
      exact l_val (v := pv b.x 1) hd (x_field (op_is rfl ho) (by rw [hv 2 26 rfl (by kernel_rfl)]; show (Instr.fieldAt _ (pv b.x 0) 1).run _ _ = _; unfold pv; go_simp)) hK'
    · have hK' := hK g x hS (keep 4 g (by decide)) (fun _ _ _ => rfl)
      exact l_val hd (x_load (op_is rfl ho) (by rw [hv 3 27 rfl (by kernel_rfl)]; exact ld_rpool hx.c1)) hK'
    · refine l_callE (op_is rfl ho) (by simp only [List.map_toArray, List.map_cons, List.map_nil, hv 4 28 rfl (by kernel_rfl)] <;> rfl) Tryz.func36 (by kernel_rfl) (by rfl) (cRSlots hx.rp hn) ?_
      rintro e x' ⟨v, rfl, t', r'⟩
      rw [hd]
      refine ⟨v, rfl, ?_⟩
      refine hK ⟨some v, g.b6, g.vl, g.b15⟩ x' ⟨hS.turned.trans t', fun u hu => ?_, fun u hu => Row.keep (hS.a2 u hu) t' (by simp)⟩ (fun y hy => ?_) (fun j hj hr => ?_)
      · simp at hu
        subst hu
        exact Row.low r'
      · simp at hy
        rcases hy with rfl | rfl | rfl | rfl <;> simp [s5done]
      · match j, hj, hr with
        | 0, _, _ => rfl
        | 1, _, _ => rfl
        | 2, _, _ => rfl
        | 3, _, _ => rfl
        | 4, _, _ => rfl
        | 5, hj, _ => exact absurd rfl hj
        | 6, _, _ => rfl
        | 7, _, _ => rfl
        | 8, _, _ => rfl
        | 9, _, _ => rfl
        | 10, _, _ => rfl
        | 11, _, _ => rfl
        | 12, _, _ => rfl
        | 13, _, _ => rfl
        | 14, _, _ => rfl
        | 15, _, _ => rfl
        | 16, _, _ => rfl
        | 17, _, _ => rfl
        | 18, _, _ => rfl
        | 19, _, _ => rfl
        | 20, _, _ => rfl
        | 21, _, _ => rfl
        | 22, _, _ => rfl
        | 23, _, _ => rfl
        | 24, _, _ => rfl
        | 25, _, _ => rfl
        | 26, _, _ => rfl
        | 27, _, _ => rfl
        | 28, _, _ => rfl
        | 29, _, _ => rfl
        | 30, _, _ => rfl
        | q + 31, _, _ => rfl
    · obtain ⟨v, hvv⟩ := Option.isSome_iff_exists.1 (show g.vs.isSome = true from hin 5 (by simp) rA)
      refine l_callP (M := fun x' => Turned [] x x') hd (op_is rfl ho) (by simp only [List.map_toArray, List.map_cons, List.map_nil, hv 0 24 rfl (by kernel_rfl), hv 5 29 rfl (by kernel_rfl)] <;> rfl) Tryz.func35 (by kernel_rfl) (by rfl) (cLSlots (n := s.n) (zs := slotNums s.slot s.n) (Row.keep hvs hS.turned (by simp)) (by show IRow x _ _ (g.vs.getD undef) _ _; rw [hvv]; exact hS.a1 v hvv) (by omega)) ?_
      intro x' t'
      refine hK ⟨g.vs, true, g.vl, g.b15⟩ x' ⟨hS.turned.trans t', fun u hu => Row.keep (hS.a1 u hu) t' (by simp), fun u hu => Row.keep (hS.a2 u hu) t' (by simp)⟩ (fun y hy => ?_) (fun j _ _ => rfl)
      · simp at hy
        rcases hy with rfl | rfl | rfl | rfl <;> simp [s5done]
    · have hK' := hK g x hS (keep 7 g (by decide)) (fun _ _ _ => rfl)
      exact l_val (v := .bool false) hd ((x_not (op_is rfl ho) (hv 6 30 rfl (by kernel_rfl))).trans rfl) hK'
    · have hK' := hK g x hS (keep 8 g (by decide)) (fun _ _ _ => rfl)
      exact l_val hd ((x_move (op_is rfl ho)).trans (by rw [hv 7 31 rfl (by kernel_rfl)]; rfl)) hK'
    · have hK' := hK g x hS (keep 9 g (by decide)) (fun _ _ _ => rfl)
      exact l_val hd ((x_move (op_is rfl ho)).trans (by rw [(hoff 9 (by decide)).trans x9]; rfl)) hK'
    · have hK' := hK g x hS (keep 10 g (by decide)) (fun _ _ _ => rfl)
      exact l_val hd ((x_move (op_is rfl ho)).trans (by rw [(hoff 0 (by decide)).trans x0]; rfl)) hK'
    · have hK' := hK g x hS (keep 11 g (by decide)) (fun _ _ _ => rfl)
      exact l_val hd (x_nil (op_is rfl ho) (hv 10 34 rfl (by kernel_rfl))) hK'
    · have hK' := hK g x hS (keep 12 g (by decide)) (fun _ _ _ => rfl)
      exact l_val (v := pv b.x 1) hd (x_field (op_is rfl ho) (by rw [hv 11 35 rfl (by kernel_rfl)]; show (Instr.fieldAt _ (pv b.x 0) 1).run _ _ = _; unfold pv; go_simp)) hK'
    · have hK' := hK g x hS (keep 13 g (by decide)) (fun _ _ _ => rfl)
      exact l_val hd (x_load (op_is rfl ho) (by rw [hv 12 36 rfl (by kernel_rfl)]; exact ld_rpool hx.c1)) hK'
    · refine l_callE (op_is rfl ho) (by simp only [List.map_toArray, List.map_cons, List.map_nil, hv 13 37 rfl (by kernel_rfl)] <;> rfl) Tryz.func38 (by kernel_rfl) (by rfl) (cRList hx.rp hx.good.ok) ?_
      rintro e x' ⟨v, rfl, t', r'⟩
      rw [hd]
      refine ⟨v, rfl, ?_⟩
      refine hK ⟨g.vs, g.b6, some v, g.b15⟩ x' ⟨hS.turned.trans t', fun u hu => Row.keep (hS.a1 u hu) t' (by simp), fun u hu => ?_⟩ (fun y hy => ?_) (fun j hj hr => ?_)
      · simp at hu
        subst hu
        rw [places_z] at r'
        exact Row.low r'
      · simp at hy
        rcases hy with rfl | rfl | rfl | rfl <;> simp [s5done]
      · match j, hj, hr with
        | 0, _, _ => rfl
        | 1, _, _ => rfl
        | 2, _, _ => rfl
        | 3, _, _ => rfl
        | 4, _, _ => rfl
        | 5, _, _ => rfl
        | 6, _, _ => rfl
        | 7, _, _ => rfl
        | 8, _, _ => rfl
        | 9, _, _ => rfl
        | 10, _, _ => rfl
        | 11, _, _ => rfl
        | 12, _, _ => rfl
        | 13, _, _ => rfl
        | 14, hj, _ => exact absurd rfl hj
        | 15, _, _ => rfl
        | 16, _, _ => rfl
        | 17, _, _ => rfl
        | 18, _, _ => rfl
        | 19, _, _ => rfl
        | 20, _, _ => rfl
        | 21, _, _ => rfl
        | 22, _, _ => rfl
        | 23, _, _ => rfl
        | 24, _, _ => rfl
        | 25, _, _ => rfl
        | 26, _, _ => rfl
        | 27, _, _ => rfl
        | 28, _, _ => rfl
        | 29, _, _ => rfl
        | 30, _, _ => rfl
        | q + 31, _, _ => rfl
    · obtain ⟨v, hvv⟩ := Option.isSome_iff_exists.1 (show g.vl.isSome = true from hin 14 (by simp) rB)
      refine l_callP (M := fun x' => Turned [] x x') hd (op_is rfl ho) (by simp only [List.map_toArray, List.map_cons, List.map_nil, hv 9 33 rfl (by kernel_rfl), hv 14 38 rfl (by kernel_rfl)] <;> rfl) Tryz.func37 (by kernel_rfl) (by rfl) (cLInts (n := s.places.length) (zs := placesZ s.places) (Row.keep hvl hS.turned (by simp)) (by show IRow x _ _ (g.vl.getD undef) _ _; rw [hvv]; exact hS.a2 v hvv) (by omega)) ?_
      intro x' t'
      refine hK ⟨g.vs, g.b6, g.vl, true⟩ x' ⟨hS.turned.trans t', fun u hu => Row.keep (hS.a1 u hu) t' (by simp), fun u hu => Row.keep (hS.a2 u hu) t' (by simp)⟩ (fun y hy => ?_) (fun j _ _ => rfl)
      · simp at hy
        rcases hy with rfl | rfl | rfl | rfl <;> simp [s5done]
    · have hK' := hK g x hS (keep 16 g (by decide)) (fun _ _ _ => rfl)
      exact l_val (v := .bool false) hd ((x_not (op_is rfl ho) (hv 15 39 rfl (by kernel_rfl))).trans rfl) hK'
    · have hK' := hK g x hS (keep 17 g (by decide)) (fun _ _ _ => rfl)
      exact l_val (v := .bool false) hd ((x_pick (op_is (p := .pick (.tmp 32) (.const (.bool true)) (.tmp 40)) rfl ho) (hv 8 32 rfl (by kernel_rfl))).trans (by show Result.ok (Next.value (ac.eval (.tmp 40))) _ = _; rw [hv 16 40 rfl (by kernel_rfl)]; rfl)) hK'
    · have hK' := hK g x hS (keep 18 g (by decide)) (fun _ _ _ => rfl)
      exact l_val hd ((x_move (op_is rfl ho)).trans (by rw [hv 17 41 rfl (by kernel_rfl)]; rfl)) hK'
    · have hK' := hK g x hS (keep 19 g (by decide)) (fun _ _ _ => rfl)
      exact l_val hd ((x_move (op_is rfl ho)).trans (by rw [(hoff 0 (by decide)).trans x0]; rfl)) hK'
    · have hK' := hK g x hS (keep 20 g (by decide)) (fun _ _ _ => rfl)
      exact l_val hd (x_nil (op_is rfl ho) (hv 19 43 rfl (by kernel_rfl))) hK'
    · have hK' := hK g x hS (keep 21 g (by decide)) (fun _ _ _ => rfl)
      exact l_val (v := pv b.x 0) hd (x_field (op_is rfl ho) (by rw [hv 20 44 rfl (by kernel_rfl)]; show (Instr.fieldAt _ (pv b.x 0) 0).run _ _ = _; unfold pv; go_simp)) hK'
    · have hK' := hK g x hS (keep 22 g (by decide)) (fun _ _ _ => rfl)
      exact l_val hd (x_load (op_is rfl ho) (by rw [hv 21 45 rfl (by kernel_rfl)]; exact ld_pool hx.c0)) hK'
    · have hK' := hK g x hS (keep 23 g (by decide)) (fun _ _ _ => rfl)
      exact l_call hd (op_is rfl ho) (by simp only [List.map_toArray, List.map_cons, List.map_nil, hv 22 46 rfl (by kernel_rfl)] <;> rfl) Tryz.func16 (by kernel_rfl) (by rfl) (cPFaults hx.pa) hK'
    · have hK' := hK g x hS (keep 24 g (by decide)) (fun _ _ _ => rfl)
      exact l_val hd ((x_move (op_is rfl ho)).trans (by rw [(hoff 0 (by decide)).trans x0]; rfl)) hK'
    · have hK' := hK g x hS (keep 25 g (by decide)) (fun _ _ _ => rfl)
      exact l_val hd (x_nil (op_is rfl ho) (hv 24 48 rfl (by kernel_rfl))) hK'
    · have hK' := hK g x hS (keep 26 g (by decide)) (fun _ _ _ => rfl)
      exact l_val (v := pv b.x 1) hd (x_field (op_is rfl ho) (by rw [hv 25 49 rfl (by kernel_rfl)]; show (Instr.fieldAt _ (pv b.x 0) 1).run _ _ = _; unfold pv; go_simp)) hK'
    · have hK' := hK g x hS (keep 27 g (by decide)) (fun _ _ _ => rfl)
      exact l_val hd (x_load (op_is rfl ho) (by rw [hv 26 50 rfl (by kernel_rfl)]; exact ld_rpool hx.c1)) hK'
    · have hK' := hK g x hS (keep 28 g (by decide)) (fun _ _ _ => rfl)
      exact l_call hd (op_is rfl ho) (by simp only [List.map_toArray, List.map_cons, List.map_nil, hv 27 51 rfl (by kernel_rfl)] <;> rfl) Tryz.func39 (by kernel_rfl) (by rfl) (cRFaults hx.rp) hK'
    · have hK' := hK g x hS (keep 29 g (by decide)) (fun _ _ _ => rfl)
      exact l_val (v := .bool false) hd ((x_neqI (op_is rfl ho) (hv 23 47 rfl (by kernel_rfl)) (hv 28 52 rfl (by kernel_rfl))).trans (by simp)) hK'
    · have hK' := hK g x hS (keep 30 g (by decide)) (fun _ _ _ => rfl)
      exact l_val (v := .bool false) hd ((x_pick (op_is (p := .pick (.tmp 42) (.const (.bool true)) (.tmp 53)) rfl ho) (hv 18 42 rfl (by kernel_rfl))).trans (by show Result.ok (Next.value (ac.eval (.tmp 53))) _ = _; rw [hv 29 53 rfl (by kernel_rfl)]; rfl)) hK'
  · intro a1 w1 g g1 g2 g3 hS hd g4
    exact hEnd a1 w1 g1 g2 (fun q hq => ev_same (g3 q (fun hm => by simp at hm; omega))) hS.turned (g4 30 54 rfl)
end Go.Proofs.YtjbhnpofdafmbaaGreatDoor
/- The law's 'stands', whole. -/
namespace Go.Proofs.YtjbhnpofdafmbaaGreatDoor
open Go.RowKit
section
variable {w x x' : World} {b : PairB} {s : PSt} {hs_ : List Int} {it : Nat} {p sb pb nb : Nat} {L : Nat → Nat}
theorem Row.same {B e sz n : Nat} {v : Value} {xs : List Value} (h : x.ownsRow B e sz v n xs) (hk : ∀ g, v.ownBlock = some g → x'.heap[g]? = x.heap[g]?) : x'.ownsRow B e sz v n xs := by
  refine ⟨h.1, ?_⟩
  rcases h.2 with hx | ⟨g, cap, cur, rfl, h1, h2, h3⟩
  · exact .inl hx
  · exact .inr ⟨g, cap, cur, rfl, h1, (hk g rfl).trans h2, h3⟩
theorem PA.sameB (h : PA x p sb pb nb L s) (hk : ∀ y, y ∈ blocks p sb pb nb L s.n → x'.heap[y]? = x.heap[y]?) : PA x' p sb pb nb L s :=
  ⟨(hk _ (by simp [blocks])).trans h.pool, (hk _ (by simp [blocks])).trans h.slots, fun i hi => (hk _ (mem_life hi)).trans (h.life i hi), ⟨(hk _ (by simp [blocks])).trans h.pile.head, (hk _ (by simp [blocks])).trans h.pile.next, h.pile.ne⟩, h.once⟩
theorem Pair.sameF (h : Pair x b s hs_ it) (hk : ∀ y, y ∈ b.F s.n → x'.heap[y]? = x.heap[y]?) : Pair x' b s hs_ it :=
  ⟨(hk _ (List.mem_append_left _ List.mem_cons_self)).trans h.obj, h.pa.sameB (fun y hy => hk y (List.mem_append_right _ hy)), h.rp.same (fun y hy => hk y (List.mem_append_left _ (List.mem_cons_of_mem _ (List.mem_append_left _ hy)))), Row.same h.row (fun g hg => hk g (List.mem_append_left _ (List.mem_cons_of_mem _ (List.mem_append_right _ (by simp [hg]))))), h.gl, h.good, h.few⟩
theorem Pair.lt' (h : Pair x b s hs_ it) : ∀ y, y ∈ b.F s.n → y < x.heap.size := fun y hy => by
  rcases List.mem_append.1 hy with e | e
  · rcases List.mem_cons.1 e with e | e
    · rw [e]
      exact lt_of_heap h.obj
    · rcases List.mem_append.1 e with e | e
      · exact h.rp.lt y e
      · obtain ⟨cur, hc⟩ := Row.obj h.row (by simpa using e)
        exact lt_of_heap hc
  · exact h.pa.lt y e
variable {bb turn deep si ss : Nat} {C C' : Own} {aa ab : Bool}
theorem BSt.fit (h : BSt aa ab bb C turn deep si ss x) : Fit C x bb := by
  obtain ⟨f, oi, wi, fi, os, ws, fs, hF, -⟩ := h.ex
  exact hF
theorem BSt.fresh (h : BSt aa ab bb C turn deep si ss x) {g : Nat} (hg : x.heap.size ≤ g) : C g = none := by
  cases hc : C g with
  | none => rfl
  | some t =>
    have := h.fit.dom g (by rw [hc]; simp)
    omega
theorem BFr.on (h : BFr C w C' x) (ht : Turned [] x x') : BFr C w C' x' := ⟨ht.os.trans h.os, ht.tape.trans h.tape, ht.output.trans h.output, Nat.le_trans h.size ht.size, fun g hg hc => by
  obtain ⟨h1, h2⟩ := h.blk g hg hc
  exact ⟨(ht.block g (Nat.lt_of_lt_of_le hg h.size) (by simp)).trans h1, h2⟩⟩
/-- A list that is new was lent. -/
theorem BFr.lent {κ id : Nat} {l : Value} {C2 : Own} (h : BFr C w C2 x) (f : BFr (lend C2 κ id l) x C' x') (hl : ∀ g, l.ownBlock = some g → w.heap.size ≤ g) : BFr C w C' x' :=
  ⟨f.os.trans h.os, f.tape.trans h.tape, f.output.trans h.output, Nat.le_trans h.size f.size, fun g hg hc => by
    have hne : l.ownBlock ≠ some g := fun e => by have := hl g e; omega
    obtain ⟨h1, h2⟩ := h.blk g hg hc
    obtain ⟨f1, f2⟩ := f.blk g (Nat.lt_of_lt_of_le hg h.size) (by unfold lend; rw [if_neg hne]; exact h2)
    exact ⟨f1.trans h1, f2⟩⟩
/-- What was not lent, and not the book's, stays. -/
theorem BFr.row {κ id : Nat} {l v : Value} {B e sz n : Nat} {xs : List Value} (f : BFr (lend C κ id l) x C' x') (hr : x.ownsRow B e sz v n xs) (hc : ∀ g, v.ownBlock = some g → C g = none) (hne : ∀ g, v.ownBlock = some g → l.ownBlock ≠ some g) : x'.ownsRow B e sz v n xs ∧ ∀ g, v.ownBlock = some g → C' g = none :=
  have k : ∀ g, v.ownBlock = some g → x'.heap[g]? = x.heap[g]? ∧ C' g = none := fun g hg => by
    obtain ⟨cur, ho⟩ := Row.obj hr hg
    exact f.blk g (lt_of_heap ho) (by unfold lend; rw [if_neg (hne g hg)]; exact hc g hg)
  ⟨Row.same hr (fun g hg => (k g hg).1), fun g hg => (k g hg).2⟩
theorem BFr.heap (h : BFr C x C' x') {g : Nat} (hg : g < x.heap.size) (hc : C g = none) : x'.heap[g]? = x.heap[g]? := (h.blk g hg hc).1
structure SI (w : World) (b : PairB) (bb : Nat) (C : Own) (turn si ss : Nat) (mark : Int) (a' : Act) (w' : World) : Prop where
  ex : ∃ (k : Nat) (C' : Own), k ≤ 2 ∧ a'.tmps.size = 70 ∧ a'.defers = [] ∧ a'.eval (.tmp 0) = pv b.x 0 ∧ a'.eval (.tmp 1) = pv bb 0 ∧ a'.eval (.tmp 2) = vi mark ∧ a'.eval (.tmp 7) = .int .i64 (k : Nat) ∧ BSt true true bb C' (turn + 2 * k) 0 (si + k) (ss + k) w' ∧ BFr C w C' w'
set_option maxRecDepth 100000 in
set_option maxHeartbeats 3200000 in
theorem cStands {mark : Int} (hP : Pair w b s hs_ it) (hB : BSt true true bb C turn 0 si ss w) (hC : ∀ y, y ∈ b.F s.n → C y = none) (hm : -1000000 ≤ mark ∧ mark ≤ 1000000) (hsi : si ≤ 38000) (hss : ss ≤ 38000) (htn : turn ≤ 900000) : Calls Tryz.prog 7 #[.pointer (some ⟨b.x, 0, none⟩), .pointer (some ⟨bb, 0, none⟩), .int .i64 mark] w fun e w' => e = .returned (.bool true) ∧ ∃ C', BSt true true bb C' (turn + 4) 0 (si + 2) (ss + 2) w' ∧ BFr C w C' w' := by
  have hn := hP.good.ok.n2
  have hpf := places_few s
  have HP : Hid _ := hP
  have HB0 : Hid _ := hB
  have hltF := hP.lt'
  clear hP hB
  go_enter Tryz.func7, Tryz.ntmps7
  go_wp2
  refine wp_loop (SI w b bb C turn si ss mark) (fun a' _ => 2 - (intOf (a'.eval (.tmp 7))).toNat) ?_ ?_
  · exact ⟨0, C, by omega, rfl, rfl, rfl, rfl, rfl, rfl, HB0.out, BFr.refl _ _⟩
  clear HB0
  rintro a2 w2 ⟨k, C2, hk, hs2, hd2, x0, x1, x2, x7, hB, hF⟩
  obtain ⟨cc, rfl, hcc⟩ := expand70 hs2 hd2
  have y0 : cc 0 = .pointer (some ⟨b.x, 0, none⟩) := (hcc 0).trans x0
  have y1 : cc 1 = .pointer (some ⟨bb, 0, none⟩) := (hcc 1).trans x1
  have y2 : cc 2 = .int .i64 mark := (hcc 2).trans x2
  have y7 : cc 7 = .int .i64 (k : Nat) := (hcc 7).trans x7
  rw [x7, show (intOf (.int .i64 (k : Nat))).toNat = k by simp [intOf]]
  clear hcc x0 x1 x2 x7 hs2 hd2
  unfold lit70
  simp only [y0, y1, y2, y7]
  clear y0 y1 y2 y7
  have HB : Hid _ := hB
  have HF : Hid _ := hF
  by_cases hlk : k < 2
  · have hl2 : (k : Int) < 2 := by omega
    have hP2 := HP.out.sameF (fun y hy => hF.heap (hltF y hy) (hC y hy))
    have HP2 : Hid _ := hP2
    clear hB hF hP2
    go_wp2
    rename_i K1 hK1 K2 hK2
    refine stands_r4 rfl rfl HP2.out ?_
    intro a3 w3 vs vl s3 d3 e3 t3 rs rl z8 z9
    have hP3 := HP2.out.same t3
    refine hK2 _ _ ?_
    refine wp_seq ?_
    refine wp_seq ?_
    refine (show (Code.region 5 (opsOf 5 Tryz.f7.body) true).wp Tryz.prog _ a3 w3 from ?_)
    refine stands_r5 (s3.trans rfl) ((e3 0 (by omega)).trans rfl) z8 z9 hP3 (Row.low rs) (by have := Row.low rl; rw [places_z] at this; exact this) ?_
    intro a4 w4 s4 d4 e4 t4 z54
    refine wp_cond_false (z54.trans rfl) ?_
    refine wp_skip ?_
    have hB4 := (HB.out.turned (t3.trans t4)).1
    have rs4 := Row.keep rs t4 (by simp)
    have rl4 := Row.keep rl t4 (by simp)
    have hsz := HF.out.size
    have hnewS : ∀ g, vs.ownBlock = some g → w2.heap.size ≤ g := fun g hg => Row.ge rs4 hg
    have hnewL : ∀ g, vl.ownBlock = some g → w2.heap.size ≤ g := fun g hg => Row.ge rl4 hg
    have HSl := bSlots (mark := mark + 10 * (k : Int)) (zs := slotNums s.slot s.n) hB4 (by omega) (by omega) (by omega) (Row.low rs4) (by omega) (fun g hg => HB.out.fresh (hnewS g hg)) (by unfold small; omega)
    have hvne : Hid (∀ g, vl.ownBlock = some g → vs.ownBlock ≠ some g) := fun g hg h2 => by
      obtain ⟨c1, h1⟩ := Row.obj rl4 hg
      obtain ⟨c2, h2⟩ := Row.obj rs4 h2
      exact other_type h1 h2 (by decide) rfl
    have HT4 : Hid (Turned [] w2 w4) := t3.trans t4
    have HRl : Hid _ := rl4
    have HRs : Hid _ := rs4
    have HNS : Hid _ := hnewS
    have HNL : Hid _ := hnewL
    obtain ⟨c4, rfl, hcc⟩ := expand70 (s4.trans s3) (d4.trans d3)
    have y0 : c4 0 = .pointer (some ⟨b.x, 0, none⟩) := (hcc 0).trans ((e4 0 (by omega)).trans (e3 0 (by omega)))
    have y1 : c4 1 = .pointer (some ⟨bb, 0, none⟩) := (hcc 1).trans ((e4 1 (by omega)).trans (e3 1 (by omega)))
    have y2 : c4 2 = .int .i64 mark := (hcc 2).trans ((e4 2 (by omega)).trans (e3 2 (by omega)))
    have y7 : c4 7 = .int .i64 (k : Nat) := (hcc 7).trans ((e4 7 (by omega)).trans (e3 7 (by omega)))
    have y8 : c4 8 = vs := (hcc 8).trans ((e4 8 (by omega)).trans z8)
    have y9 : c4 9 = vl := (hcc 9).trans ((e4 9 (by omega)).trans z9)
    clear hcc e3 e4 s3 s4 d3 d4 z8 z9 z54 hP3 t3 t4 rs rl rs4 rl4 hB4 hK2 hnewS hnewL
    unfold lit70
    simp only [y0, y1, y2, y7, y8, y9]
    clear y0 y1 y2 y7 y8 y9
    have HF4 : Hid (BFr C w C2 w4) := HF.out.on HT4.out
    have HCl : Hid (∀ g, vl.ownBlock = some g → C2 g = none) := fun g hg => HB.out.fresh (HNL.out g hg)
    have HWs : Hid (∀ g, vs.ownBlock = some g → w.heap.size ≤ g) := fun g hg => Nat.le_trans hsz (HNS.out g hg)
    have HWl : Hid (∀ g, vl.ownBlock = some g → w.heap.size ≤ g) := fun g hg => Nat.le_trans hsz (HNL.out g hg)
    obtain ⟨sa, sc, rfl⟩ := Row.shape HRs.out
    obtain ⟨ma, mc, rfl⟩ := Row.shape HRl.out
    show Code.wp _ _ _ _ _
    go_wp2_with (first
      | (go_at_call 40; refine HSl.mono ?_; clear HSl; rintro e w5 ⟨rfl, C5, id5, b5, f5⟩; obtain ⟨r5, n5⟩ := f5.row HRl.out HCl.out hvne.out; have HI := bInts (mark := mark + 10 * (k : Int) + 5) (zs := placesZ s.places) b5 (by omega) (by omega) (by omega) (by have := Row.low r5; rw [places_z] at this; exact this) (by omega) n5 (by unfold small; omega); have HF5 : Hid _ := HF4.out.lent f5 HWs.out; clear b5 f5 r5 n5)
      | (go_at_call 41; refine HI.mono ?_; clear HI; rintro e w6 ⟨rfl, C6, id6, b6, f6⟩; have HB6 : Hid _ := b6; have HF6 : Hid _ := HF5.out.lent f6 HWl.out; clear b6 f6))
    refine ⟨⟨k + 1, C6, by omega, rfl, rfl, rfl, rfl, rfl, by show Value.int .i64 ((k : Int) + 1) = .int .i64 ((k + 1 : Nat) : Int); simp, HB6.out, HF6.out⟩, ?_⟩
    have e : (intOf (Value.int .i64 ((k : Int) + 1))).toNat = k + 1 := by simp [intOf]
    change 2 - (intOf (Value.int .i64 ((k : Int) + 1))).toNat < _
    rw [e]
    omega
  · obtain rfl : k = 2 := by omega
    have hl2 : ¬ ((2 : Nat) : Int) < 2 := by omega
    clear hB hF
    go_wp2
    go_ret
    exact ⟨rfl, C2, HB.out, HF.out⟩
end
end Go.Proofs.YtjbhnpofdafmbaaGreatDoor
/- The law's 'begun'. -/
namespace Go.Proofs.YtjbhnpofdafmbaaGreatDoor
open Go.RowKit
section
variable {w : World}
set_option maxRecDepth 100000 in
set_option maxHeartbeats 1600000 in
theorem cPNewBad (x : Int) (h : x < 1 ∨ 4096 < x) : ∃ v : Nat, v = 101 ∧ Calls Tryz.prog 9 #[.int .i64 x] w fun e w' => e = .returned (.tuple #[.pointer none, .int .i64 (v : Nat)]) ∧ w' = w := by
  refine ⟨101, rfl, ?_⟩
  have HN := cNewPileBad (w := w) x 0 (by omega)
  go_enter Tryz.func9, Tryz.ntmps9
  go_wp2_with (go_at_call 53; refine HN.mono ?_; rintro e w2 ⟨rfl, hw⟩; obtain rfl := hw.symm)
  go_ret2
  exact ⟨rfl, rfl⟩
set_option maxRecDepth 100000 in
set_option maxHeartbeats 1600000 in
theorem cNum' (x : Int) : Calls Tryz.prog 10 #[.int .i64 x] w fun e w' => e = .returned (.int .i64 x) ∧ w' = w := by
  go_enter Tryz.func10, Tryz.ntmps10
  go_wp2
  go_ret
  exact ⟨rfl, rfl⟩
set_option maxRecDepth 100000 in
set_option maxHeartbeats 1600000 in
theorem cBegunBad (x : Int) (h : x < 1 ∨ 4096 < x) : Calls Tryz.prog 5 #[.int .i64 x] w fun e w' => e = .returned (.tuple #[.pointer none, .bool true]) ∧ Turned [] w w' := by
  obtain ⟨v, rfl, HN⟩ := cPNewBad (w := w) x h
  have HT : Hid (∀ o, Turned [] w (w.alloc o)) := fun o => (Turned.refl [] w).alloc o
  go_enter Tryz.func5, Tryz.ntmps5
  go_wp2_with (first
    | (go_at_call 9; refine HN.mono ?_; rintro e w2 ⟨rfl, hw⟩; obtain rfl := hw.symm)
    | (go_at_call 17; refine (cRMem _).mono ?_; rintro e w2 ⟨rfl, -, hw⟩; obtain rfl := hw.symm)
    | (go_at_call 18; refine (cRNew10Bad h).mono ?_; rintro e w2 ⟨rfl, hw⟩; obtain rfl := hw.symm)
    | (go_at_call 10; refine (cNum' _).mono ?_; rintro e w2 ⟨rfl, hw⟩; obtain rfl := hw.symm))
  go_ret2
  exact ⟨rfl, HT.out _⟩
/-- Both pools, begun. -/
structure Beg (w : World) (n : Nat) (v : Value) (w' : World) : Prop where
  ex : ∃ b : PairB, v = .pointer (some ⟨b.x, 0, none⟩) ∧ Pair w' b (PSt.new n) [] 0 ∧ Turned [] w w' ∧ ∀ y, y ∈ b.F n → w.heap.size ≤ y
theorem Beg.of {n : Nat} {w1 w2 : World} {mb : Nat} {r : RB} (h1 : 1 ≤ n) (h2 : n ≤ 4096) (t1 : Turned [] w w1) (hp : PA w1 (w.heap.size + 3) (w.heap.size + 2) (w.heap.size + 1) w.heap.size (fun _ => w.heap.size + 4) (PSt.new n)) (hm : mb = w1.heap.size) (hr : r.m = mb) (rp : RP w2 r (PSt.new n)) (t2 : Turned [mb] (w1.alloc (.cells #[.slice none 0 0] 128 (0, 0))) w2) (hn : ∀ x, x ∈ r.all → x = mb ∨ (w1.alloc (.cells #[.slice none 0 0] 128 (0, 0))).heap.size ≤ x) : Beg w n (.pointer (some ⟨w2.heap.size, 0, none⟩)) (w2.alloc (.cells #[.pointer (some ⟨w.heap.size + 3, 0, none⟩), .pointer (some ⟨r.q, 0, none⟩), .pointer (some ⟨w1.heap.size, 0, none⟩), .slice none 0 0] 70 (0, 0))) := by
  have s1 := t1.size
  have s2 := t2.size
  have sa : (w1.alloc (.cells #[.slice none 0 0] 128 (0, 0))).heap.size = w1.heap.size + 1 := by simp
  rw [sa] at s2 hn
  have t3 : Turned [] w1 w2 := ((Turned.refl [] w1).alloc _).inner t2 (fun x hx => .inr (by simp at hx; omega))
  have t4 := t3.alloc (.cells #[.pointer (some ⟨w.heap.size + 3, 0, none⟩), .pointer (some ⟨r.q, 0, none⟩), .pointer (some ⟨w1.heap.size, 0, none⟩), .slice none 0 0] 70 (0, 0))
  refine ⟨⟨w2.heap.size, w.heap.size + 3, w.heap.size + 2, w.heap.size + 1, w.heap.size, fun _ => w.heap.size + 4, r, .slice none 0 0⟩, rfl, ⟨?_, hp.keep t4 (by simp), rp.turned ((Turned.refl [] w2).alloc _) (by simp), World.ownsRow_nil _ _ _ _, by simp [Value.ownBlock], Good.new h1 h2, Nat.le_refl _⟩, t1.trans t4, fun y hy => ?_⟩
  · have := blk_new w2 (pairObj ⟨w2.heap.size, w.heap.size + 3, w.heap.size + 2, w.heap.size + 1, w.heap.size, fun _ => w.heap.size + 4, r, .slice none 0 0⟩)
    simp only [pairObj, hr, hm] at this
    simp only [pairObj, hr, hm]
    exact this
  · rcases List.mem_append.1 hy with e | e
    · rcases List.mem_cons.1 e with e | e
      · subst e; show w.heap.size ≤ w2.heap.size; omega
      · rcases List.mem_append.1 e with e | e
        · rcases hn y e with e | e <;> omega
        · simp [Value.ownBlock] at e
    · rcases mem_blocks e with e | e | e | e | ⟨k, hk, e⟩
      · exact e ▸ (by show w.heap.size ≤ w.heap.size + 3; omega)
      · exact e ▸ (by show w.heap.size ≤ w.heap.size + 2; omega)
      · exact e ▸ (by show w.heap.size ≤ w.heap.size + 1; omega)
      · exact e ▸ Nat.le_refl _
      · exact e ▸ (by show w.heap.size ≤ w.heap.size + 4; omega)
set_option maxRecDepth 100000 in
set_option maxHeartbeats 1600000 in
theorem cBegun (n : Nat) (h1 : 1 ≤ n) (h2 : n ≤ 4096) : Calls Tryz.prog 5 #[.int .i64 (n : Nat)] w fun e w' => ∃ v, e = .returned (.tuple #[v, .bool true]) ∧ Beg w n v w' := by
  have HN := cPNew w n h1 h2
  go_enter Tryz.func5, Tryz.ntmps5
  go_wp2_with (first
    | (go_at_call 9; refine HN.mono ?_; clear HN; rintro e w1 ⟨rfl, t1, p1⟩; have HT1 : Hid _ := t1; have HP1 : Hid _ := p1; clear t1 p1)
    | (go_at_call 17; refine (cRMem _).mono ?_; rintro e w2 ⟨rfl, m2, hw⟩; obtain rfl := hw.symm; have HR := cRNew10 m2 h1 h2; clear m2 hw)
    | (go_at_call 18; refine HR.mono ?_; clear HR; rintro e w3 ⟨r, rfl, r1, r2, r3, r4⟩; have HB : Hid _ := Beg.of h1 h2 HT1.out HP1.out rfl r1 r2 r3 r4; clear HT1 HP1 r1 r2 r3 r4)
    | (go_at_call 10; refine (cNum' _).mono ?_; rintro e w4 ⟨rfl, hw⟩; obtain rfl := hw.symm))
  go_ret2
  exact ⟨_, rfl, HB.out⟩
end
end Go.Proofs.YtjbhnpofdafmbaaGreatDoor
/- The law's 'does': a lemma a kind. -/
namespace Go.Proofs.YtjbhnpofdafmbaaGreatDoor
open Go.RowKit
/-- What a call leaves. -/
structure DPost (w0 : World) (b : PairB) (s : PSt) (it : Nat) (w' : World) : Prop where
  ex : ∃ (b' : PairB) (s' : PSt) (hs' : List Int), b'.x = b.x ∧ s'.n = s.n ∧ Pair w' b' s' hs' (it + 1) ∧ Turned (b.F s.n) w0 w' ∧ Wider (b.F s.n) (b'.F s.n) w0
theorem DS.post {w0 x : World} {b : PairB} {hs_ : List Int} {s s2 : PSt} {ob tb c it : Nat} {o_ : OpV} {T : List Nat} (h : DS w0 b hs_ s2 s2 ob tb o_ T c x) (hG : Good s2 (it + 1)) (hf : hs_.length ≤ it) (hn : s2.n = s.n) : DPost w0 b s it x := by
  obtain ⟨b', h1, h2, h3⟩ := h.pair hG hf
  exact ⟨b', s2, hs_, h1, hn, h2, hn ▸ h.turned, hn ▸ h3⟩
set_option maxRecDepth 100000 in
set_option maxHeartbeats 3200000 in
theorem does_k3 {Q : Exit → Act → World → Prop} {a : Act} {w : World} {w0 : World} {b : PairB} {hs_ : List Int} {s : PSt} {ob tb it : Nat} {o_ : OpV} {T : List Nat} {hh : Int} (hs : a.tmps.size = 316) (hd : a.defers = []) (x0 : a.eval (.tmp 0) = pv b.x 0) (x3 : a.eval (.tmp 3) = pv ob 0) (x5 : a.eval (.tmp 5) = pv tb 0) (x6 : a.eval (.tmp 6) = vi hh) (hG : Good s it) (hit : it ≤ 1000) (hf : hs_.length ≤ it) (hD : DS w0 b hs_ s s ob tb o_ T 0 w)
    (hQ : ∀ a' w', a'.defers = [] → a'.eval (.tmp 4) = .bool true → DPost w0 b s it w' → Q .ret a' w') : (atc Tryz.f6.body [1, 1, 1, 1, 0, 1, 0, 1, 1, 1, 1, 1, 0]).wp Tryz.prog Q a w := by
  obtain ⟨na, nb_, nc, nd, z, s2, hG2, hn2, HB, HC⟩ := bothRead hG hit hh
  have c0 := hD.c0
  have H1 := hD.callP hn2 (fun h => HB h)
  have HD : Hid _ := hD
  clear hD
  obtain ⟨cc, rfl, hcc⟩ := expand316 hs hd
  have y0 : cc 0 = .pointer (some ⟨b.x, 0, none⟩) := (hcc 0).trans x0
  have y3 : cc 3 = .pointer (some ⟨ob, 0, none⟩) := (hcc 3).trans x3
  have y5 : cc 5 = .pointer (some ⟨tb, 0, none⟩) := (hcc 5).trans x5
  have y6 : cc 6 = .int .i64 hh := (hcc 6).trans x6
  clear hcc x0 x3 x5 x6 hs hd
  conv => arg 2; whnf
  unfold lit316
  simp only [y0, y3, y5, y6]
  clear y0 y3 y5 y6
  go_wp2_with (first
    | (go_at_call 15; refine H1.mono ?_; clear H1 c0; rintro e w1 ⟨rfl, d1⟩; have d1' := d1.alloc (nodeObj na nb_ nc nd); have c1 := d1'.c1; have H2 := HC d1'.th d1'.rp d1'.out (by omega); have HD1 : Hid _ := d1'; clear d1 d1')
    | (go_at_call 22; refine H2.mono ?_; clear H2 c1; rintro e w2 ⟨rfl, T2, g2⟩; have hN2 := g2.other HD1.out.th HD1.out.rp (blk_new w1 (nodeObj na nb_ nc nd)) (by decide); have hl2 := lt_of_heap hN2; have hne2 : ¬ w1.heap.size = w2.heap.size := (by omega); obtain ⟨n0, n1, n2, n3⟩ := ld_nodeI (S := ⟨0, 0, 0, na, nb_, nc, nd⟩) hN2; have HD2 : Hid _ := HD1.out.ref g2; clear g2 hN2 HD1)
    | (go_at_call 10; refine (cNum _ _).mono ?_; rintro e w' ⟨rfl, hw⟩; obtain rfl := hw.symm))
  exact hQ _ _ rfl rfl ((HD2.out.alloc _).post hG2 hf hn2)
set_option maxRecDepth 100000 in
set_option maxHeartbeats 3200000 in
theorem does_k4 {Q : Exit → Act → World → Prop} {a : Act} {w : World} {w0 : World} {b : PairB} {hs_ : List Int} {s : PSt} {ob tb it : Nat} {o_ : OpV} {T : List Nat} {hh : Int} (hs : a.tmps.size = 316) (hd : a.defers = []) (x0 : a.eval (.tmp 0) = pv b.x 0) (x3 : a.eval (.tmp 3) = pv ob 0) (x5 : a.eval (.tmp 5) = pv tb 0) (x6 : a.eval (.tmp 6) = vi hh) (hG : Good s it) (hit : it ≤ 1000) (hf : hs_.length ≤ it) (hD : DS w0 b hs_ s s ob tb o_ T 0 w)
    (hQ : ∀ a' w', a'.defers = [] → a'.eval (.tmp 4) = .bool true → DPost w0 b s it w' → Q .ret a' w') : (atc Tryz.f6.body [1, 1, 1, 1, 0, 1, 0, 1, 1, 1, 1, 1, 1, 1, 0]).wp Tryz.prog Q a w := by
  obtain ⟨v, z, s2, hG2, hn2, HB, HC⟩ := bothMark hG hit hh
  have c0 := hD.c0
  have H1 := hD.callP hn2 (fun h => HB h)
  have HD : Hid _ := hD
  clear hD
  obtain ⟨cc, rfl, hcc⟩ := expand316 hs hd
  have y0 : cc 0 = .pointer (some ⟨b.x, 0, none⟩) := (hcc 0).trans x0
  have y3 : cc 3 = .pointer (some ⟨ob, 0, none⟩) := (hcc 3).trans x3
  have y5 : cc 5 = .pointer (some ⟨tb, 0, none⟩) := (hcc 5).trans x5
  have y6 : cc 6 = .int .i64 hh := (hcc 6).trans x6
  clear hcc x0 x3 x5 x6 hs hd
  conv => arg 2; whnf
  unfold lit316
  simp only [y0, y3, y5, y6]
  clear y0 y3 y5 y6
  go_wp2_with (first
    | (go_at_call 23; refine H1.mono ?_; clear H1 c0; rintro e w1 ⟨rfl, d1⟩; have c1 := d1.c1; have H2 := d1.callR (HC d1.th d1.rp d1.out (by omega)); clear d1)
    | (go_at_call 24; refine H2.mono ?_; clear H2 c1; rintro e w2 ⟨rfl, T2, d2⟩; have HD2 : Hid _ := d2; clear d2)
    | (go_at_call 10; refine (cNum _ _).mono ?_; rintro e w' ⟨rfl, hw⟩; obtain rfl := hw.symm))
  exact hQ _ _ rfl rfl (HD2.out.post hG2 hf hn2)
set_option maxRecDepth 100000 in
set_option maxHeartbeats 3200000 in
theorem does_k6 {Q : Exit → Act → World → Prop} {a : Act} {w : World} {w0 : World} {b : PairB} {hs_ : List Int} {s : PSt} {ob tb it : Nat} {o_ : OpV} {T : List Nat} {hh : Int} (hs : a.tmps.size = 316) (hd : a.defers = []) (x0 : a.eval (.tmp 0) = pv b.x 0) (x3 : a.eval (.tmp 3) = pv ob 0) (x5 : a.eval (.tmp 5) = pv tb 0) (x6 : a.eval (.tmp 6) = vi hh) (hG : Good s it) (hit : it ≤ 1000) (hf : hs_.length ≤ it) (hD : DS w0 b hs_ s s ob tb o_ T 0 w)
    (hQ : ∀ a' w', a'.defers = [] → a'.eval (.tmp 4) = .bool true → DPost w0 b s it w' → Q .ret a' w') : (atc Tryz.f6.body [1, 1, 1, 1, 0, 1, 0, 1, 1, 1, 1, 1, 1, 1, 1, 1, 1, 1, 0]).wp Tryz.prog Q a w := by
  obtain ⟨v, z, s2, hG2, hn2, HB, HC⟩ := bothLink hG hit hh
  have c0 := hD.c0
  have H1 := hD.callP hn2 (fun h => HB h)
  have HD : Hid _ := hD
  clear hD
  obtain ⟨cc, rfl, hcc⟩ := expand316 hs hd
  have y0 : cc 0 = .pointer (some ⟨b.x, 0, none⟩) := (hcc 0).trans x0
  have y3 : cc 3 = .pointer (some ⟨ob, 0, none⟩) := (hcc 3).trans x3
  have y5 : cc 5 = .pointer (some ⟨tb, 0, none⟩) := (hcc 5).trans x5
  have y6 : cc 6 = .int .i64 hh := (hcc 6).trans x6
  clear hcc x0 x3 x5 x6 hs hd
  conv => arg 2; whnf
  unfold lit316
  simp only [y0, y3, y5, y6]
  clear y0 y3 y5 y6
  go_wp2_with (first
    | (go_at_call 27; refine H1.mono ?_; clear H1 c0; rintro e w1 ⟨rfl, d1⟩; have c1 := d1.c1; have H2 := d1.callR (HC d1.th d1.rp d1.out (by omega)); clear d1)
    | (go_at_call 28; refine H2.mono ?_; clear H2 c1; rintro e w2 ⟨rfl, T2, d2⟩; have HD2 : Hid _ := d2; clear d2)
    | (go_at_call 10; refine (cNum _ _).mono ?_; rintro e w' ⟨rfl, hw⟩; obtain rfl := hw.symm))
  exact hQ _ _ rfl rfl (HD2.out.post hG2 hf hn2)
end Go.Proofs.YtjbhnpofdafmbaaGreatDoor
/- The law's 'does': a lemma a kind. -/
namespace Go.Proofs.YtjbhnpofdafmbaaGreatDoor
open Go.RowKit
set_option maxRecDepth 100000 in
set_option maxHeartbeats 3200000 in
theorem does_k5 {Q : Exit → Act → World → Prop} {a : Act} {w : World} {w0 : World} {b : PairB} {hs_ : List Int} {s : PSt} {ob tb it : Nat} {o_ : OpV} {T : List Nat} {hh : Int} (hs : a.tmps.size = 316) (hd : a.defers = []) (x0 : a.eval (.tmp 0) = pv b.x 0) (x3 : a.eval (.tmp 3) = pv ob 0) (x5 : a.eval (.tmp 5) = pv tb 0) (x6 : a.eval (.tmp 6) = vi hh) (hG : Good s it) (hit : it ≤ 1000) (hf : hs_.length ≤ it) (hD : DS w0 b hs_ s s ob tb o_ T 0 w)
    (hQ : ∀ a' w', a'.defers = [] → a'.eval (.tmp 4) = .bool true → DPost w0 b s it w' → Q .ret a' w') : (atc Tryz.f6.body [1, 1, 1, 1, 0, 1, 0, 1, 1, 1, 1, 1, 1, 1, 1, 1, 0]).wp Tryz.prog Q a w := by
  obtain ⟨u, z, s2, hG2, hn2, HB, HC⟩ := bothCas hG hit hh o_.a o_.v
  refine wp_seq_k fun K hK => ?_
  refine (show (Code.region 23 (opsOf 23 Tryz.f6.body) true).wp Tryz.prog _ a w from ?_)
  refine does_r23 hs x0 x3 x6 hn2 hD (fun h => HB h) ?_
  intro a1 w1 s1 d1 e1 z0 z1 hD1
  refine hK _ _ ?_
  refine wp_seq_k fun K2 hK2 => ?_
  refine (show (Code.region 24 (opsOf 24 Tryz.f6.body) true).wp Tryz.prog _ a1 w1 from ?_)
  refine does_r24 (s1.trans hs) ((e1 0 (by omega)).trans x0) ((e1 3 (by omega)).trans x3) ((e1 5 (by omega)).trans x5) ((e1 6 (by omega)).trans x6) (by omega) hD1 (fun h1 h2 h3 h4 => HC h1 h2 h3 h4) ?_
  rintro a2 w2 s2_ d2 e2 z2 z3 ⟨T2, hD2⟩
  refine hK2 _ _ ?_
  obtain ⟨cc, rfl, hcc⟩ := expand316 (s2_.trans (s1.trans hs)) (d2.trans (d1.trans hd))
  have y19 : cc 19 = .bool u := (hcc 19).trans ((e2 19 (by omega)).trans z0)
  have y20 : cc 20 = .int .i64 z := (hcc 20).trans ((e2 20 (by omega)).trans z1)
  have y21 : cc 21 = .bool u := (hcc 21).trans (z2)
  have y22 : cc 22 = .int .i64 z := (hcc 22).trans (z3)
  have HD2 : Hid _ := hD2
  clear hcc e1 e2 z0 z1 z2 z3 s1 s2_ d1 d2 hs hd x0 x3 x5 x6 hD hD1 hD2 hK hK2
  conv => arg 2; whnf
  unfold lit316
  simp only [y19, y20, y21, y22]
  clear y19 y20 y21 y22
  go_wp2_with ((go_at_call 10; refine (cNum _ _).mono ?_; rintro e w' ⟨rfl, hw⟩; obtain rfl := hw.symm))
  exact hQ _ _ rfl rfl (HD2.out.post hG2 hf hn2)
set_option maxRecDepth 100000 in
set_option maxHeartbeats 3200000 in
theorem does_k7 {Q : Exit → Act → World → Prop} {a : Act} {w : World} {w0 : World} {b : PairB} {hs_ : List Int} {s : PSt} {ob tb it : Nat} {o_ : OpV} {T : List Nat} {hh : Int} (hs : a.tmps.size = 316) (hd : a.defers = []) (x0 : a.eval (.tmp 0) = pv b.x 0) (x3 : a.eval (.tmp 3) = pv ob 0) (x5 : a.eval (.tmp 5) = pv tb 0) (x6 : a.eval (.tmp 6) = vi hh) (hG : Good s it) (hit : it ≤ 1000) (hf : hs_.length ≤ it) (hD : DS w0 b hs_ s s ob tb o_ T 0 w)
    (hQ : ∀ a' w', a'.defers = [] → a'.eval (.tmp 4) = .bool true → DPost w0 b s it w' → Q .ret a' w') : (atc Tryz.f6.body [1, 1, 1, 1, 0, 1, 0, 1, 1, 1, 1, 1, 1, 1, 1, 1, 1, 1, 1, 1, 0]).wp Tryz.prog Q a w := by
  obtain ⟨v, z, s2, hG2, hn2, HB, HC⟩ := bothSwap hG hit hh o_.v
  refine wp_seq_k fun K hK => ?_
  refine (show (Code.region 31 (opsOf 31 Tryz.f6.body) true).wp Tryz.prog _ a w from ?_)
  refine does_r31 hs x0 x3 x6 hn2 hD (fun h => HB h) ?_
  intro a1 w1 s1 d1 e1 z0 z1 hD1
  refine hK _ _ ?_
  refine wp_seq_k fun K2 hK2 => ?_
  refine (show (Code.region 32 (opsOf 32 Tryz.f6.body) true).wp Tryz.prog _ a1 w1 from ?_)
  refine does_r32 (s1.trans hs) ((e1 0 (by omega)).trans x0) ((e1 3 (by omega)).trans x3) ((e1 5 (by omega)).trans x5) ((e1 6 (by omega)).trans x6) (by omega) hD1 (fun h1 h2 h3 h4 => HC h1 h2 h3 h4) ?_
  rintro a2 w2 s2_ d2 e2 z2 z3 ⟨T2, hD2⟩
  refine hK2 _ _ ?_
  obtain ⟨cc, rfl, hcc⟩ := expand316 (s2_.trans (s1.trans hs)) (d2.trans (d1.trans hd))
  have y27 : cc 27 = .int .i64 v := (hcc 27).trans ((e2 27 (by omega)).trans z0)
  have y28 : cc 28 = .int .i64 z := (hcc 28).trans ((e2 28 (by omega)).trans z1)
  have y29 : cc 29 = .int .i64 v := (hcc 29).trans (z2)
  have y30 : cc 30 = .int .i64 z := (hcc 30).trans (z3)
  have HD2 : Hid _ := hD2
  clear hcc e1 e2 z0 z1 z2 z3 s1 s2_ d1 d2 hs hd x0 x3 x5 x6 hD hD1 hD2 hK hK2
  conv => arg 2; whnf
  unfold lit316
  simp only [y27, y28, y29, y30]
  clear y27 y28 y29 y30
  go_wp2_with ((go_at_call 10; refine (cNum _ _).mono ?_; rintro e w' ⟨rfl, hw⟩; obtain rfl := hw.symm))
  exact hQ _ _ rfl rfl (HD2.out.post hG2 hf hn2)
end Go.Proofs.YtjbhnpofdafmbaaGreatDoor
/- The law's 'does': a lemma a kind. -/
namespace Go.Proofs.YtjbhnpofdafmbaaGreatDoor
open Go.RowKit
set_option maxRecDepth 100000 in
set_option maxHeartbeats 3200000 in
theorem does_k2 {Q : Exit → Act → World → Prop} {a : Act} {w : World} {w0 : World} {b : PairB} {hs_ : List Int} {s : PSt} {ob tb it : Nat} {o_ : OpV} {T : List Nat} {hh : Int} (hs : a.tmps.size = 316) (hd : a.defers = []) (x0 : a.eval (.tmp 0) = pv b.x 0) (x5 : a.eval (.tmp 5) = pv tb 0) (x6 : a.eval (.tmp 6) = vi hh) (hG : Good s it) (hit : it ≤ 1000) (hf : hs_.length ≤ it) (hD : DS w0 b hs_ s s ob tb o_ T 0 w)
    (hQ : ∀ a' w', a'.defers = [] → a'.eval (.tmp 4) = .bool true → DPost w0 b s it w' → Q .ret a' w') : (atc Tryz.f6.body [1, 1, 1, 1, 0, 1, 0, 1, 1, 1, 0]).wp Tryz.prog Q a w := by
  obtain ⟨z, s2, hG2, hn2, HB, HC⟩ := bothGive hG hit hh
  refine wp_seq_k fun K hK => ?_
  refine (show (Code.region 13 (opsOf 13 Tryz.f6.body) true).wp Tryz.prog _ a w from ?_)
  refine does_r13 hs x0 x5 x6 hn2 (by omega) hD (fun h => HB h) (fun h1 h2 h3 h4 => HC h1 h2 h3 h4) ?_
  rintro a1 w1 s1 d1 e1 z4 ⟨T1, hD1⟩
  refine hK _ _ (wp_ret ?_)
  exact hQ _ _ (d1.trans hd) z4 (hD1.post hG2 hf hn2)
set_option maxRecDepth 100000 in
set_option maxHeartbeats 3200000 in
theorem does_k9 {Q : Exit → Act → World → Prop} {a : Act} {w : World} {w0 : World} {b : PairB} {hs_ : List Int} {s : PSt} {ob tb it : Nat} {o_ : OpV} {T : List Nat} (hs : a.tmps.size = 316) (hd : a.defers = []) (x0 : a.eval (.tmp 0) = pv b.x 0) (x3 : a.eval (.tmp 3) = pv ob 0) (x5 : a.eval (.tmp 5) = pv tb 0) (hG : Good s it) (hit : it ≤ 1000) (hf : hs_.length ≤ it) (hD : DS w0 b hs_ s s ob tb o_ T 0 w)
    (hQ : ∀ a' w', a'.defers = [] → a'.eval (.tmp 4) = .bool true → DPost w0 b s it w' → Q .ret a' w') : (atc Tryz.f6.body [1, 1, 1, 1, 0, 1, 0, 1, 1, 1, 1, 1, 1, 1, 1, 1, 1, 1, 1, 1, 1, 1, 1, 1, 0]).wp Tryz.prog Q a w := by
  obtain ⟨z, s2, hG2, hn2, HB, HC⟩ := bothBack hG hit o_.a o_.v
  refine wp_seq_k fun K hK => ?_
  refine (show (Code.region 37 (opsOf 37 Tryz.f6.body) true).wp Tryz.prog _ a w from ?_)
  refine does_r37 hs x0 x3 x5 hn2 (by omega) hD (fun h => HB h) (fun h1 h2 h3 h4 => HC h1 h2 h3 h4) ?_
  rintro a1 w1 s1 d1 e1 z4 ⟨T1, hD1⟩
  refine hK _ _ (wp_ret ?_)
  exact hQ _ _ (d1.trans hd) z4 (hD1.post hG2 hf hn2)
end Go.Proofs.YtjbhnpofdafmbaaGreatDoor
/- The law's 'does': a lemma a kind. -/
namespace Go.Proofs.YtjbhnpofdafmbaaGreatDoor
open Go.RowKit
theorem DS.grow {w0 x w4 : World} {b : PairB} {hs_ : List Int} {s s2 : PSt} {ob tb c it : Nat} {o_ : OpV} {T : List Nat} {v : Int} {v' : Value} {q : Obj} (h : DS w0 b hs_ s2 s2 ob tb o_ T c x) (hG : Good s2 (it + 1)) (hf : hs_.length ≤ it) (hn : s2.n = s.n) (hr4 : w4.ownsRow 0 3 1 v' (hs_.length + 1) (hs_.map (.int .i64 ·) ++ [.int .i64 v])) (hG4 : Grew (x.alloc q) w4 b.lv v') :
    w4.heap[b.x]? = some (pairObj b) ∧ DPost w0 b s it (w4.setCell ⟨b.x, 3, none⟩ v') := by
  obtain ⟨L, hp, hw⟩ := h.pa
  have hbx : b.lv.ownBlock ≠ some b.x := Row.apart h.row h.obj (by decide)
  have ho4 := hG4.heap (blk_old h.obj q) hbx
  have hne4 : v'.ownBlock ≠ some b.x := Row.apart hr4 ho4 (by decide)
  have t1 : Turned (b.lv.ownBlock.toList ++ [b.x]) x (w4.setCell ⟨b.x, 3, none⟩ v') := ((((Turned.refl _ x).alloc q).trans ((Turned.grew hG4.1).mono (fun y hy => List.mem_append_left _ hy)))).set (.inl (by simp)) _ _
  have hsz := h.turned.size
  have off : ∀ y, y ∈ b.lv.ownBlock.toList ++ [b.x] → y ∉ blocks b.p b.sb b.pb b.nb L s2.n := fun y hy => by
    rcases List.mem_append.1 hy with e | e
    · exact hp.offRow h.row (by simpa using e)
    · simp at e
      subst e
      exact hp.ty h.obj (by decide)
  have offr : ∀ y, y ∈ b.lv.ownBlock.toList ++ [b.x] → y ∉ b.r.all := fun y hy => by
    rcases List.mem_append.1 hy with e | e
    · exact h.rp.offRow h.row h.gl (by simpa using e)
    · simp at e
      subst e
      exact h.rp.offT h.obj (by decide)
  have nb4 : ∀ g, v'.ownBlock = some g → b.lv.ownBlock = some g ∨ x.heap.size ≤ g := fun g hg => by
    rcases hG4.2 with e | ⟨g', e, e2⟩
    · exact .inl (e ▸ hg)
    · rw [hg] at e
      injection e with e
      subst e
      simp at e2
      exact .inr (by omega)
  refine ⟨ho4, { b with L := L, lv := v' }, s2, hs_ ++ [v], rfl, hn, ⟨?_, hp.keep t1 off, h.rp.turned t1 offr, ?_, ?_, hG, by simp; omega⟩, ?_, ?_⟩
  · have := blk_set ho4 3 v'
    simpa using this
  · have := Row.keep hr4 ((Turned.refl [b.x] w4).set (r := b.x) (.inl (by simp)) 3 v') (fun g hg e => by
      simp at e
      subst e
      exact hne4 hg)
    rw [List.length_append, List.map_append]
    exact this
  · intro e
    rcases nb4 _ e with h1 | h1
    · exact h.gl h1
    · have h2 := h.rp.lt b.r.g (by simp [RB.all])
      have h3 : x.heap.size ≤ b.r.g := h1
      omega
  · rw [← hn]
    refine h.turned.inner t1 (fun y hy => .inl ?_)
    rcases List.mem_append.1 hy with e | e
    · exact List.mem_append_left _ (List.mem_cons_of_mem _ (List.mem_append_right _ e))
    · simp at e
      exact List.mem_append_left _ (by rw [e]; exact List.mem_cons_self)
  · rw [← hn]
    intro y hy
    rcases List.mem_append.1 hy with e | e
    · rcases List.mem_cons.1 e with e | e
      · exact .inl (List.mem_append_left _ (by rw [e]; exact List.mem_cons_self))
      · rcases List.mem_append.1 e with e | e
        · exact .inl (List.mem_append_left _ (List.mem_cons_of_mem _ (List.mem_append_left _ e)))
        · rcases nb4 y (by simpa using e) with h1 | h1
          · exact .inl (List.mem_append_left _ (List.mem_cons_of_mem _ (List.mem_append_right _ (by simp [h1]))))
          · exact .inr (by omega)
    · rcases hw y e with e | e
      · exact .inl (List.mem_append_right _ e)
      · exact .inr e
set_option maxRecDepth 100000 in
set_option maxHeartbeats 3200000 in
theorem does_k1 {Q : Exit → Act → World → Prop} {a : Act} {w : World} {w0 : World} {b : PairB} {hs_ : List Int} {s : PSt} {ob tb it : Nat} {o_ : OpV} {T : List Nat} (hs : a.tmps.size = 316) (hd : a.defers = []) (x0 : a.eval (.tmp 0) = pv b.x 0) (x3 : a.eval (.tmp 3) = pv ob 0) (x5 : a.eval (.tmp 5) = pv tb 0) (hG : Good s it) (hit : it ≤ 1000) (hf : hs_.length ≤ it) (hD : DS w0 b hs_ s s ob tb o_ T 0 w)
    (hQ : ∀ a' w', a'.defers = [] → a'.eval (.tmp 4) = .bool true → DPost w0 b s it w' → Q .ret a' w') : (atc Tryz.f6.body [1, 1, 1, 1, 0, 1, 0, 1, 0]).wp Tryz.prog Q a w := by
  obtain ⟨v, z, s2, hG2, hn2, HB, HC⟩ := bothTake hG hit o_.x0 o_.x1 o_.x2 o_.x3 o_.v
  refine wp_seq_k fun K hK => ?_
  refine (show (Code.region 7 (opsOf 7 Tryz.f6.body) true).wp Tryz.prog _ a w from ?_)
  refine does_r7 hs x0 x3 hn2 hD (fun h => HB h) ?_
  intro a1 w1 s1 d1 e1 z0 z1 hD1
  refine hK _ _ ?_
  refine wp_seq_k fun K2 hK2 => ?_
  refine (show (Code.region 8 (opsOf 8 Tryz.f6.body) true).wp Tryz.prog _ a1 w1 from ?_)
  refine does_r8 (s1.trans hs) ((e1 0 (by omega)).trans x0) ((e1 3 (by omega)).trans x3) ((e1 5 (by omega)).trans x5) (by omega) hD1 (fun h1 h2 h3 h4 => HC h1 h2 h3 h4) ?_
  rintro a2 w2 s2_ d2 e2 z2 z3 ⟨T2, hD2⟩
  refine hK2 _ _ ?_
  by_cases hz : z = 0
  · subst hz
    have c3 := hD2.c3
    obtain ⟨la, lc, hla⟩ := Row.shape hD2.row
    rw [hla] at c3
    have hrow := hD2.row
    rw [hla] at hrow
    obtain ⟨cc, rfl, hcc⟩ := expand316 (s2_.trans (s1.trans hs)) (d2.trans (d1.trans hd))
    have y0 : cc 0 = .pointer (some ⟨b.x, 0, none⟩) := (hcc 0).trans ((e2 0 (by omega)).trans ((e1 0 (by omega)).trans x0))
    have y7 : cc 7 = .int .i64 v := (hcc 7).trans ((e2 7 (by omega)).trans z0)
    have y8 : cc 8 = .int .i64 0 := (hcc 8).trans ((e2 8 (by omega)).trans z1)
    have y9 : cc 9 = .int .i64 v := (hcc 9).trans (z2)
    have y10 : cc 10 = .int .i64 0 := (hcc 10).trans (z3)
    have HD2 : Hid _ := hD2
    clear hcc e1 e2 z0 z1 z2 z3 s1 s2_ d1 d2 hs hd x0 x3 x5 hD hD1 hD2 hK hK2
    conv => arg 2; whnf
    unfold lit316
    simp only [y0, y7, y8, y9, y10]
    clear y0 y7 y8 y9 y10
    have HRow : Hid _ := hrow
    have hfl : hs_.length ≤ it := hf
    clear hrow
    go_wp2_with (first
      | (at_builtin; refine wpList_push rfl _ _ 29 rfl 0 3 (.int .i64 0) 8 rUndInts rInfoInt rfl (.slice la hs_.length lc) hs_.length (hs_.map (.int .i64 ·)) rfl (Row.alloc HRow.out _) ⟨_, 0, none⟩ 1 (.int .i64 v) rfl (by go_simp) rfl (by unfold maxLen; omega) (by omega) (by omega) ?_; intro v' w4 hr4 hG4; obtain ⟨a4, c4, rfl⟩ := Row.shape hr4; obtain ⟨ho4, hp4⟩ := HD2.out.grow (s := s) hG2 hf hn2 hr4 (hla ▸ hG4); have z4 := froz_at ho4 3; have q4 := cell_at ho4 3; simp at q4; have HP4 : Hid _ := hp4; clear hr4 hG4 ho4 hp4)
      | (go_at_call 10; refine (cNum _ _).mono ?_; rintro e w' ⟨rfl, hw⟩; obtain rfl := hw.symm))
    exact hQ _ _ rfl rfl HP4.out
  · have hz2 : (z == 0) = false := by simp [hz]
    obtain ⟨cc, rfl, hcc⟩ := expand316 (s2_.trans (s1.trans hs)) (d2.trans (d1.trans hd))
    have y0 : cc 0 = .pointer (some ⟨b.x, 0, none⟩) := (hcc 0).trans ((e2 0 (by omega)).trans ((e1 0 (by omega)).trans x0))
    have y7 : cc 7 = .int .i64 v := (hcc 7).trans ((e2 7 (by omega)).trans z0)
    have y8 : cc 8 = .int .i64 z := (hcc 8).trans ((e2 8 (by omega)).trans z1)
    have y9 : cc 9 = .int .i64 v := (hcc 9).trans (z2)
    have y10 : cc 10 = .int .i64 z := (hcc 10).trans (z3)
    have HD2 : Hid _ := hD2
    clear hcc e1 e2 z0 z1 z2 z3 s1 s2_ d1 d2 hs hd x0 x3 x5 hD hD1 hD2 hK hK2
    conv => arg 2; whnf
    unfold lit316
    simp only [y0, y7, y8, y9, y10]
    clear y0 y7 y8 y9 y10
    go_wp2_with ((go_at_call 10; refine (cNum _ _).mono ?_; rintro e w' ⟨rfl, hw⟩; obtain rfl := hw.symm))
    exact hQ _ _ rfl rfl (HD2.out.post hG2 hf hn2)
end Go.Proofs.YtjbhnpofdafmbaaGreatDoor

/- The document's pool: made. -/
import Derived.Test.YtjbhnpofdafmbaaGreatDoorJ33
import Derived.Test.YtjbhnpofdafmbaaGreatDoorJ28
namespace Go.Proofs.YtjbhnpofdafmbaaGreatDoor
open Go.RowKit
theorem x_box {ρ : Operand → Value} {o : Oper} {w w' : World} {x : Operand} {t : TypeId} {v : Value} (h : o.op = .box t x) (hr : (Instr.box t (ρ x)).run Tryz.prog w = .ok v w') : (execOp ρ o).run Tryz.prog w = .ok (.value v) w' := by simp [execOp, h, hr, Result.andThen]
theorem x_make {ρ : Operand → Value} {o : Oper} {w w' : World} {x y : Operand} {t : TypeId} {v : Value} (h : o.op = .makeSlice t x y) (hr : (Instr.makeSlice t (ρ x) (ρ y)).run Tryz.prog w = .ok v w') : (execOp ρ o).run Tryz.prog w = .ok (.value v) w' := by simp [execOp, h, hr, Result.andThen]
structure NG where
  bw : Bool
  lv : Value
  sb : Option Nat
  qb : Option Nat
abbrev newC (mb pb n b : Nat) : Array Value := #[.pointer (some ⟨mb, 0, none⟩), .pointer (some ⟨pb, 0, none⟩), .int .i64 ((n : Int) + 2), .int .i64 (n : Nat), .slice (some ⟨b, 0, none⟩) (n + 1) (n + 1), .int .i64 0]
structure NSt (w1 : World) (mb pb n : Nat) (lv0 : Value) (g : NG) (x : World) : Prop where
  turned : Turned (mb :: lv0.ownBlock.toList) w1 x
  mem0 : g.bw = false → MemF x mb g.lv (n + 2) (w8 (n - 1))
  mem1 : g.bw = true → MemF x mb g.lv (2 * n + 3) (memF (PSt.new n))
  new : ∀ b, g.lv.ownBlock = some b → lv0.ownBlock = some b ∨ w1.heap.size ≤ b
  slots : ∀ b, g.sb = some b → w1.heap.size ≤ b ∧ x.heap[b]? = some (.cells (madeCells zeros7 ((n + 1) * 7)) 64 (0, 0))
  pool : ∀ b, g.qb = some b → w1.heap.size ≤ b ∧ x.heap[b]? = some (.cells (newC mb pb n (g.sb.getD 0)) 132 (0, 0))
def NV (mb pb n : Nat) (g : NG) : Nat → Value
  | 0 => pv mb 0
  | 1 => pv pb 0
  | 2 => pv mb 0
  | 3 => vi (n : Nat)
  | 4 => vi ((n : Int) + 1)
  | 5 => vi ((n : Int) + 2)
  | 6 => vi (n : Nat)
  | 7 => vi (n : Nat)
  | 8 => vi ((n : Int) + 1)
  | 9 => .slice (some ⟨g.sb.getD 0, 0, none⟩) (n + 1) (n + 1)
  | 10 => .agg (newC mb pb n (g.sb.getD 0))
  | 11 => pv (g.qb.getD 0) 0
  | 12 => pv (g.qb.getD 0) 0
  | _ => undef
def ndone (g : NG) : Nat → Bool
  | 5 => g.bw
  | 9 => g.sb.isSome
  | 11 => g.qb.isSome
  | _ => false
theorem bld_pool (w : World) (mb pb n b : Nat) : (Instr.build 132 #[(0, pv mb 0), (1, pv pb 0), (2, vi ((n : Int) + 2)), (3, vi (n : Nat)), (4, .slice (some ⟨b, 0, none⟩) (n + 1) (n + 1))]).run Tryz.prog w = .ok (.agg (newC mb pb n b)) w := by
  unfold pv
  go_simp
theorem box_pool (w : World) (mb pb n b : Nat) : (Instr.box 132 (.agg (newC mb pb n b))).run Tryz.prog w = .ok (pv w.heap.size 0) (w.alloc (.cells (newC mb pb n b) 132 (0, 0))) := by
  unfold pv
  go_simp
set_option maxRecDepth 100000 in
set_option maxHeartbeats 1600000 in
theorem rnew_r4 {K : Act → World → Prop} {Q : Exit → Act → World → Prop} {a : Act} {w : World} {mb pb n : Nat} {lv : Value} (hs : a.tmps.size = 23) (x0 : a.eval (.tmp 0) = pv mb 0) (x1 : a.eval (.tmp 1) = vi (n : Nat)) (x5 : a.eval (.tmp 5) = pv pb 0) (h1 : 1 ≤ n) (h2 : n ≤ 4096) (hM : MemF w mb lv (n + 2) (w8 (n - 1)))
    (HWa : ∀ (x : World) (lv : Value), MemF x mb lv (n + 2) (w8 (n - 1)) → Calls Tryz.prog 69 #[.pointer (some ⟨mb, 0, none⟩), .int .i64 ((n : Int) + 1), .int .i64 0] x fun e w' => e = .returned (.int .i64 ((n : Int) + 2)) ∧ ∃ lv', MemF w' mb lv' (2 * n + 3) (memF (PSt.new n)) ∧ Turned (mb :: lv.ownBlock.toList) x w' ∧ (∀ g, lv'.ownBlock = some g → lv.ownBlock = some g ∨ x.heap.size ≤ g))
    (hEnd : ∀ a1 w1 g, a1.tmps.size = a.tmps.size → a1.defers = a.defers → NSt w mb pb n lv g w1 → g.bw = true → g.sb.isSome = true → g.qb.isSome = true → a1.eval (.tmp 4) = pv (g.qb.getD 0) 0 → K a1 w1) :
    (Code.region 4 (opsOf 4 Tryz.f18.body) true).wp Tryz.prog (Exit.then K Q) a w := by
  have hmk := run_makeASlots (n + 1) (by omega)
  rw [show ((n + 1 : Nat) : Int) = (n : Int) + 1 by omega] at hmk
  have rA : reachB (opsOf 4 Tryz.f18.body) (opsOf 4 Tryz.f18.body).size 10 9 = true := by kernel_rfl
  have rB : reachB (opsOf 4 Tryz.f18.body) (opsOf 4 Tryz.f18.body).size 12 11 = true := by kernel_rfl
  have rC : reachB (opsOf 4 Tryz.f18.body) (opsOf 4 Tryz.f18.body).size 11 5 = true := by kernel_rfl
  have rD : reachB (opsOf 4 Tryz.f18.body) (opsOf 4 Tryz.f18.body).size 11 9 = true := by kernel_rfl
  have keep : ∀ (i : Nat) (g : NG), i ∉ [5, 9, 11] → ∀ x ∈ [5, 9, 11], ndone g x = (ndone g x || x == i) := fun i g hi x hx => by
    have : ¬ x = i := fun e => hi (e ▸ hx)
    simp [this]
  refine wp_region_ghost (by kernel_rfl) [some 11, some 12, some 13, some 14, some 15, some 16, some 17, some 18, some 19, some 20, some 21, some 22, some 4] (by rw [hs]; kernel_rfl) (by kernel_rfl) (NV mb pb n) [5, 9, 11] ndone (NSt w mb pb n lv) ⟨false, lv, none, none⟩ ?_ ?_ (by decide) ?_ ?_
  · exact ⟨(Turned.refl _ _).drew, fun _ => hM.keep (Turned.refl [] w).drew (by simp) (by simp), fun h => by simp at h, fun b hb => .inl hb, fun b hb => by simp at hb, fun b hb => by simp at hb⟩
  · intro x hx
    simp at hx
    rcases hx with rfl | rfl | rfl <;> rfl
  · intro i hi o ac x g K ho hd _ hoff hv hS hin hno hbe hK
    rcases (by simp at hi; omega : i = 0 ∨ i = 1 ∨ i = 2 ∨ i = 3 ∨ i = 4 ∨ i = 5 ∨ i = 6 ∨ i = 7 ∨ i = 8 ∨ i = 9 ∨ i = 10 ∨ i = 11 ∨ i = 12) with rfl | rfl | rfl | rfl | rfl | rfl | rfl | rfl | rfl | rfl | rfl | rfl | rfl
    · have hK' := hK g x hS (keep 0 g (by decide)) (fun _ _ _ => rfl)
      exact l_val hd ((x_move (op_is rfl ho)).trans (by rw [(hoff 0 (by decide)).trans x0]; rfl)) hK'
    · have hK' := hK g x hS (keep 1 g (by decide)) (fun _ _ _ => rfl)
      exact l_val hd ((x_move (op_is rfl ho)).trans (by rw [(hoff 5 (by decide)).trans x5]; rfl)) hK'
    · have hK' := hK g x hS (keep 2 g (by decide)) (fun _ _ _ => rfl)
      exact l_val hd ((x_move (op_is rfl ho)).trans (by rw [(hoff 0 (by decide)).trans x0]; rfl)) hK'
    · have hK' := hK g x hS (keep 3 g (by decide)) (fun _ _ _ => rfl)
      exact l_val hd ((x_move (op_is rfl ho)).trans (by rw [(hoff 1 (by decide)).trans x1]; rfl)) hK'
    · have hK' := hK g x hS (keep 4 g (by decide)) (fun _ _ _ => rfl)
      exact l_val (v := vi ((n : Int) + 1)) hd (x_addc (op_is rfl ho) (hv 3 14 rfl (by kernel_rfl)) rfl (by omega) (by omega)) hK'
    · have hb : g.bw = false := hno (by simp)
      have hq : g.qb.isSome = false := hbe 11 (by simp) rC
      have hm := hS.mem0 hb
      refine l_callP (M := fun x' => ∃ lv', MemF x' mb lv' (2 * n + 3) (memF (PSt.new n)) ∧ Turned (mb :: g.lv.ownBlock.toList) x x' ∧ (∀ b, lv'.ownBlock = some b → g.lv.ownBlock = some b ∨ x.heap.size ≤ b)) hd (op_is rfl ho) (by simp only [List.map_toArray, List.map_cons, List.map_nil, hv 2 13 rfl (by kernel_rfl), hv 4 15 rfl (by kernel_rfl)] <;> rfl) Tryz.func69 (by kernel_rfl) (by rfl) (HWa x g.lv hm) ?_
      rintro x' ⟨lv', m', t', n'⟩
      have hsz := hS.turned.size
      refine hK ⟨true, lv', g.sb, g.qb⟩ x' ⟨hS.turned.inner t' (fun b hb => ?_), fun h => by simp at h, fun _ => m', fun b hb => ?_, fun b hb => ⟨(hS.slots b hb).1, t'.heap (hS.slots b hb).2 (fun hx => ?_)⟩, fun b hb => ?_⟩ (fun y hy => ?_) (fun j hj _ => ?_)
      · rcases List.mem_cons.1 hb with e | e
        · exact .inl (by simp [e])
        · rcases hS.new b (by simpa using e) with e | e
          · exact .inl (by simp [e])
          · exact .inr e
      · rcases n' b hb with e | e
        · exact hS.new b e
        · exact .inr (by omega)
      · rcases List.mem_cons.1 hx with e | e
        · exact other_type (hS.slots b hb).2 hm.obj (by decide) e
        · exact Row.apart hm.row (hS.slots b hb).2 (by decide) (by simpa using e)
      · have hb' : g.qb = some b := hb
        rw [hb'] at hq
        cases hq
      · simp at hy
        rcases hy with rfl | rfl | rfl
        · simp [ndone]
        · simp [ndone]
        · simp [ndone]
      · rfl
    · have hK' := hK g x hS (keep 6 g (by decide)) (fun _ _ _ => rfl)
      exact l_val hd ((x_move (op_is rfl ho)).trans (by rw [(hoff 1 (by decide)).trans x1]; rfl)) hK'
    · have hK' := hK g x hS (keep 7 g (by decide)) (fun _ _ _ => rfl)
      exact l_val hd ((x_move (op_is rfl ho)).trans (by rw [(hoff 1 (by decide)).trans x1]; rfl)) hK'
    · have hK' := hK g x hS (keep 8 g (by decide)) (fun _ _ _ => rfl)
      exact l_val (v := vi ((n : Int) + 1)) hd (x_addc (op_is rfl ho) (hv 7 18 rfl (by kernel_rfl)) rfl (by omega) (by omega)) hK'
    · have hq : g.qb.isSome = false := hbe 11 (by simp) rD
      have hsz := hS.turned.size
      have hmlt : ∀ b, g.sb = some b → False := fun b hb => by
        have h9 : g.sb.isSome = false := hno (by simp)
        rw [hb] at h9
        cases h9
      refine l_val hd (x_make (op_is rfl ho) (by rw [hv 8 19 rfl (by kernel_rfl)]; exact hmk x)) (hK ⟨g.bw, g.lv, some x.heap.size, g.qb⟩ (x.alloc (.cells (madeCells zeros7 ((n + 1) * 7)) 64)) ⟨hS.turned.alloc _, fun h => (hS.mem0 h).keep ((Turned.refl [] x).alloc _) (by simp) (by simp), fun h => (hS.mem1 h).keep ((Turned.refl [] x).alloc _) (by simp) (by simp), hS.new, fun b hb => ?_, fun b hb => ?_⟩ (fun y hy => ?_) (fun j hj hr => ?_))
      · simp at hb
        subst hb
        exact ⟨hsz, blk_new x _⟩
      · have hb' : g.qb = some b := hb
        rw [hb'] at hq
        cases hq
      · simp at hy
        rcases hy with rfl | rfl | rfl
        · simp [ndone]
        · simp [ndone]
        · simp [ndone]
      · match j, hj, hr with
        | 0, _, _ => rfl
        | 1, _, _ => rfl
        | 2, _, _ => rfl
        | 3, _, _ => rfl
        | 4, _, _ => rfl
        | 5, _, _ => rfl
        | 6, _, _ => rfl
        | 7, _, _ => rfl
        | 8, _, _ => rfl
        | 9, hj, _ => exact absurd rfl hj
        | 10, _, hr => rw [rA] at hr; cases hr
        | 11, _, _ => rfl
        | 12, _, _ => rfl
        | k + 13, _, _ => rfl
    · have hK' := hK g x hS (keep 10 g (by decide)) (fun _ _ _ => rfl)
      exact l_val hd (x_build1 (op_is rfl ho) (by simp only [List.map_toArray, List.map_cons, List.map_nil, hv 0 11 rfl (by kernel_rfl), hv 1 12 rfl (by kernel_rfl), hv 5 16 rfl (by kernel_rfl), hv 6 17 rfl (by kernel_rfl), hv 9 20 rfl (by kernel_rfl)]; rfl) (bld_pool x mb pb n (g.sb.getD 0))) hK'
    · have hsz := hS.turned.size
      refine l_val hd (x_box (op_is rfl ho) (by rw [hv 10 21 rfl (by kernel_rfl)]; exact box_pool x mb pb n (g.sb.getD 0))) (hK ⟨g.bw, g.lv, g.sb, some x.heap.size⟩ (x.alloc (.cells (newC mb pb n (g.sb.getD 0)) 132 (0, 0))) ⟨hS.turned.alloc _, fun h => (hS.mem0 h).keep ((Turned.refl [] x).alloc _) (by simp) (by simp), fun h => (hS.mem1 h).keep ((Turned.refl [] x).alloc _) (by simp) (by simp), hS.new, fun b hb => ⟨(hS.slots b hb).1, blk_old (hS.slots b hb).2 _⟩, fun b hb => ?_⟩ (fun y hy => ?_) (fun j hj hr => ?_))
      · simp at hb
        subst hb
        exact ⟨hsz, blk_new x _⟩
      · simp at hy
        rcases hy with rfl | rfl | rfl
        · simp [ndone]
        · simp [ndone]
        · simp [ndone]
      · match j, hj, hr with
        | 0, _, _ => rfl
        | 1, _, _ => rfl
        | 2, _, _ => rfl
        | 3, _, _ => rfl
        | 4, _, _ => rfl
        | 5, _, _ => rfl
        | 6, _, _ => rfl
        | 7, _, _ => rfl
        | 8, _, _ => rfl
        | 9, _, _ => rfl
        | 10, _, _ => rfl
        | 11, hj, _ => exact absurd rfl hj
        | 12, _, hr => rw [rB] at hr; cases hr
        | k + 13, _, _ => rfl
    · have hK' := hK g x hS (keep 12 g (by decide)) (fun _ _ _ => rfl)
      exact l_val hd ((x_assign (op_is rfl ho)).trans (by rw [hv 11 22 rfl (by kernel_rfl)]; rfl)) hK'
  · intro a1 w1 g g1 g2 _ hS hd g4
    exact hEnd a1 w1 g g1 g2 hS (hd 5 (by simp)) (hd 9 (by simp)) (hd 11 (by simp)) (g4 12 4 rfl)
section
variable {w : World} {mb n : Nat}
set_option maxRecDepth 100000 in
set_option maxHeartbeats 3200000 in
theorem cRNew10 (h : MemF w mb (.slice none 0 0) 0 (fun _ => 0)) (h1 : 1 ≤ n) (h2 : n ≤ 4096) : Calls Tryz.prog 18 #[.pointer (some ⟨mb, 0, none⟩), .int .i64 (n : Nat)] w fun e w' => ∃ r : RB, e = .returned (.pointer (some ⟨r.q, 0, none⟩)) ∧ r.m = mb ∧ RP w' r (PSt.new n) ∧ Turned [mb] w w' ∧ (∀ x, x ∈ r.all → x = mb ∨ w.heap.size ≤ x) := by
  have HN := cRNew8 h h1 h2
  clear h
  have HWa : ∀ (x : World) (lv : Value), MemF x mb lv (n + 2) (w8 (n - 1)) → Calls Tryz.prog 69 #[.pointer (some ⟨mb, 0, none⟩), .int .i64 ((n : Int) + 1), .int .i64 0] x fun e w' => e = .returned (.int .i64 ((n : Int) + 2)) ∧ ∃ lv', MemF w' mb lv' (2 * n + 3) (memF (PSt.new n)) ∧ Turned (mb :: lv.ownBlock.toList) x w' ∧ (∀ g, lv'.ownBlock = some g → lv.ownBlock = some g ∨ x.heap.size ≤ g) := fun x lv hm => by
    have hw := cRWords (n := n + 1) (v := 0) hm (by omega) (by omega)
    rw [show ((n + 1 : Nat) : Int) = (n : Int) + 1 by omega, show ((n + 2 : Nat) : Int) = (n : Int) + 2 by omega, show n + 2 + (n + 1) = 2 * n + 3 by omega] at hw
    refine hw.mono ?_
    rintro e w' ⟨he, lv', m, t, nn⟩
    exact ⟨he, lv', m.congr (fun j hj => memF_new h1 hj), t, nn⟩
  go_enter Tryz.func18, Tryz.ntmps18
  go_wp2_with (go_at_call 68; refine HN.mono ?_; rintro e w1 ⟨pb, lv, rfl, hpb, hp, hm, hT, hnew⟩; have HM : Hid _ := hm; have HP : Hid _ := hp; have HT : Hid _ := hT; have HNw : Hid _ := hnew; clear hm hp hT hnew HN)
  rename_i K hK
  refine rnew_r4 (lv := lv) rfl rfl rfl rfl h1 h2 HM.out HWa ?_
  intro a1 w2 g s1 d1 hS hb hsb hqb x4
  obtain ⟨bw, lv2, sb, qb⟩ := g
  obtain ⟨sb, rfl⟩ := Option.isSome_iff_exists.1 hsb
  obtain ⟨qb, rfl⟩ := Option.isSome_iff_exists.1 hqb
  have hm2 := hS.mem1 hb
  obtain ⟨gg, hgg, hat⟩ := hm2.at_ (by omega)
  obtain ⟨q1, q2⟩ := hS.pool qb rfl
  obtain ⟨b1, b2⟩ := hS.slots sb rfl
  have hsz := HT.out.size
  have hpl : RPile w2 pb mb 0 1 n := hS.turned.heap HP.out (fun hx => by
    rcases List.mem_cons.1 hx with e | e
    · exact other_type HP.out HM.out.obj (by decide) e
    · exact Row.apart HM.out.row HP.out (by decide) (by simpa using e))
  have HF : Hid (∃ r : RB, Ending.returned (Value.pointer (some ⟨qb, 0, none⟩)) = .returned (.pointer (some ⟨r.q, 0, none⟩)) ∧ r.m = mb ∧ RP w2 r (PSt.new n) ∧ Turned [mb] w w2 ∧ (∀ x, x ∈ r.all → x = mb ∨ w.heap.size ≤ x)) := by
    refine ⟨⟨qb, pb, mb, gg, sb⟩, rfl, rfl, ⟨?_, hpl, hat, b2.trans (congrArg some (zero_rows n))⟩, HT.out.inner hS.turned (fun x hx => ?_), fun x hx => ?_⟩
    · rw [q2]
      show some (Obj.cells (newC mb pb n sb) _ _) = some (rpoolObj ⟨qb, pb, mb, gg, sb⟩ n 0)
      simp
    · rcases List.mem_cons.1 hx with e | e
      · exact .inl (by simp [e])
      · exact .inr (HNw.out x (by simpa using e))
    · simp only [RB.all, List.mem_cons, List.not_mem_nil, or_false] at hx
      rcases hx with rfl | rfl | rfl | rfl | rfl
      · exact .inr (by omega)
      · exact .inr hpb
      · exact .inl rfl
      · rcases hS.new _ hgg with e | e
        · exact .inr (HNw.out _ e)
        · exact .inr (by omega)
      · exact .inr (by omega)
  refine hK _ _ (wp_ret ?_)
  have e4 : a1.tmps[4]? = some (.pointer (some ⟨qb, 0, none⟩)) := by
    have hs4 : 4 < a1.tmps.size := by rw [s1]; simp
    have := x4
    simp only [Act.eval, Array.getD, hs4, dite_true] at this
    rw [Array.getElem?_eq_getElem hs4]
    exact congrArg some this
  refine bodyPost_ret (v := .pointer (some ⟨qb, 0, none⟩)) ?_ d1 HF.out
  simp [results, Tryz.results18, go_sem, e4]
end
end Go.Proofs.YtjbhnpofdafmbaaGreatDoor
/- Package pool's Gens, alone, by contract. -/
namespace Go.Proofs.YtjbhnpofdafmbaaGreatDoor
open Go.RowKit
abbrev intsObj (f : Nat → Int) (n : Nat) : Obj := .cells ((List.range n).map fun j => Value.int .i64 (f j)).toArray 3 (0, 0)
theorem made_ints (n : Nat) : (.cells (madeCells #[.int .i64 0] n) 3 : Obj) = intsObj (fun _ => 0) n := by
  unfold intsObj
  congr 1
  apply Array.ext
  · simp [madeCells]
  · intro i h1 h2
    simp [madeCells, Nat.mod_one]
theorem run_makeInts (n : Nat) (h : n ≤ 1000000) (w : World) :
    (Instr.makeSlice 29 (.int .i64 (n : Nat)) (.int .i64 (n : Nat))).run Tryz.prog w = .ok (.slice (some ⟨w.heap.size, 0, none⟩) n n) (w.alloc (intsObj (fun _ => 0) n)) := by
  obtain ⟨i, hi, hzz⟩ := Option.map_eq_some_iff.1 rInfoInt
  simp only [Prod.mk.injEq] at hzz
  obtain ⟨hz, hs, hb⟩ := hzz
  have hr := run_make (P := Tryz.prog) w 29 3 i _ rUndInts hi hz .i64 .i64 ((n : Nat) : Int) ((n : Nat) : Int) (by omega) (Int.le_refl _) (by rw [hb]; omega) (by omega)
  simp only [Int.toNat_natCast, hs, Nat.mul_one] at hr
  rw [← made_ints]
  exact hr
theorem ints_cell {w : World} {g n j : Nat} {f : Nat → Int} (h : w.heap[g]? = some (intsObj f n)) (hj : j < n) : w.cell? ⟨g, j, none⟩ = some (.int .i64 (f j)) := by
  rw [cell_at h, List.getElem?_toArray, List.getElem?_map, List.getElem?_range hj]; rfl
theorem ints_put {w : World} {g n j : Nat} {f : Nat → Int} (h : w.heap[g]? = some (intsObj f n)) (v : Int) : (w.setCell ⟨g, j, none⟩ (.int .i64 v)).heap[g]? = some (intsObj (updI f j v) n) := by
  rw [blk_set h]
  congr 2
  apply Array.ext
  · simp
  · intro i h1 h2
    simp only [List.size_toArray, List.length_map, List.length_range] at h2
    by_cases e : j = i
    · subst e; simp [updI]
    · have e' : ¬ i = j := fun x => e x.symm
      simp [updI, e, e']
theorem ints_row {w : World} {g n B : Nat} {f : Nat → Int} (h : w.heap[g]? = some (intsObj f n)) (hB : B ≤ g) (hn : n ≤ 1000000) : w.ownsRow B 3 1 (.slice (some ⟨g, 0, none⟩) n n) n ((List.range n).map fun j => .int .i64 (f j)) :=
  ⟨by simp, .inr ⟨g, n, _, rfl, hB, h, Nat.le_refl _, by unfold maxLen; omega, by simp, List.take_of_length_le (by simp)⟩⟩
structure GG where
  s1 : Option Nat
  s2 : Option Nat
structure GSt (w : World) (n : Nat) (g : GG) (x : World) : Prop where
  turned : Turned [] w x
  a1 : ∀ b, g.s1 = some b → w.heap.size ≤ b ∧ x.heap[b]? = some (intsObj (fun _ => 0) n)
  a2 : ∀ b, g.s2 = some b → w.heap.size ≤ b ∧ x.heap[b]? = some (intsObj (fun _ => 0) n)
  ne : ∀ b c, g.s1 = some b → g.s2 = some c → b ≠ c
def GV (n : Nat) (g : GG) : Nat → Value
  | 0 => vi (n : Nat)
  | 1 => .slice (some ⟨g.s1.getD 0, 0, none⟩) n n
  | 2 => vi (n : Nat)
  | 3 => .slice (some ⟨g.s2.getD 0, 0, none⟩) n n
  | 4 => .slice (some ⟨g.s1.getD 0, 0, none⟩) n n
  | 5 => .slice (some ⟨g.s2.getD 0, 0, none⟩) n n
  | _ => undef
def gdone (g : GG) : Nat → Bool
  | 1 => g.s1.isSome
  | 3 => g.s2.isSome
  | _ => false
set_option maxRecDepth 100000 in
set_option maxHeartbeats 1600000 in
theorem pgens_r2 {K : Act → World → Prop} {Q : Exit → Act → World → Prop} {a : Act} {w : World} {n : Nat} (hs : a.tmps.size = 49) (x6 : a.eval (.tmp 6) = vi (n : Nat)) (h2 : n ≤ 4096)
    (hEnd : ∀ a1 w1 b c, a1.tmps.size = a.tmps.size → a1.defers = a.defers → (∀ s : Nat, s < 7 → a1.eval (.tmp s) = a.eval (.tmp s)) → Turned [] w w1 → w.heap.size ≤ b → w.heap.size ≤ c → b ≠ c → w1.heap[b]? = some (intsObj (fun _ => 0) n) → w1.heap[c]? = some (intsObj (fun _ => 0) n) → a1.eval (.tmp 7) = .slice (some ⟨b, 0, none⟩) n n → a1.eval (.tmp 8) = .slice (some ⟨c, 0, none⟩) n n → K a1 w1) :
    (Code.region 2 (opsOf 2 Tryz.f85.body) true).wp Tryz.prog (Exit.then K Q) a w := by
  have hmk := run_makeInts n (by omega)
  have rA : reachB (opsOf 2 Tryz.f85.body) (opsOf 2 Tryz.f85.body).size 4 1 = true := by kernel_rfl
  have rB : reachB (opsOf 2 Tryz.f85.body) (opsOf 2 Tryz.f85.body).size 5 3 = true := by kernel_rfl
  have keep : ∀ (i : Nat) (g : GG), i ∉ [1, 3] → ∀ x ∈ [1, 3], gdone g x = (gdone g x || x == i) := fun i g hi x hx => by
    have : ¬ x = i := fun e => hi (e ▸ hx)
    simp [this]
  refine wp_region_ghost (by kernel_rfl) [some 17, some 18, some 19, some 20, some 7, some 8] (by rw [hs]; kernel_rfl) (by kernel_rfl) (GV n) [1, 3] gdone (GSt w n) ⟨none, none⟩ ?_ ?_ (by decide) ?_ ?_
  · exact ⟨(Turned.refl _ _).drew, fun b hb => by simp at hb, fun b hb => by simp at hb, fun b c hb => by simp at hb⟩
  · intro x hx
    simp at hx
    rcases hx with rfl | rfl <;> rfl
  · intro i hi o ac x g K ho hd _ hoff hv hS hin hno hbe hK
    rcases (by simp at hi; omega : i = 0 ∨ i = 1 ∨ i = 2 ∨ i = 3 ∨ i = 4 ∨ i = 5) with rfl | rfl | rfl | rfl | rfl | rfl
    · have hK' := hK g x hS (keep 0 g (by decide)) (fun _ _ _ => rfl)
      exact l_val hd ((x_move (op_is rfl ho)).trans (by rw [(hoff 6 (by decide)).trans x6]; rfl)) hK'
    · have hsz := hS.turned.size
      refine l_val hd (x_make (op_is rfl ho) (by rw [hv 0 17 rfl (by kernel_rfl)]; exact hmk x)) (hK ⟨some x.heap.size, g.s2⟩ (x.alloc (intsObj (fun _ => 0) n)) ⟨hS.turned.alloc _, fun b hb => (by simp at hb; subst hb; exact ⟨hsz, blk_new x _⟩), fun b hb => ⟨(hS.a2 b hb).1, blk_old (hS.a2 b hb).2 _⟩, fun b c hb hc => (by simp at hb; subst hb; have := lt_of_heap (hS.a2 c hc).2; omega)⟩ (fun y hy => ?_) (fun j hj hr => ?_))
      · simp at hy
        rcases hy with rfl | rfl <;> simp [gdone]
      · match j, hj, hr with
        | 0, _, _ => rfl
        | 1, hj, _ => exact absurd rfl hj
        | 2, _, _ => rfl
        | 3, _, _ => rfl
        | 4, _, hr => rw [rA] at hr; cases hr
        | 5, _, _ => rfl
        | k + 6, _, _ => rfl
    · have hK' := hK g x hS (keep 2 g (by decide)) (fun _ _ _ => rfl)
      exact l_val hd ((x_move (op_is rfl ho)).trans (by rw [(hoff 6 (by decide)).trans x6]; rfl)) hK'
    · have hsz := hS.turned.size
      refine l_val hd (x_make (op_is rfl ho) (by rw [hv 2 19 rfl (by kernel_rfl)]; exact hmk x)) (hK ⟨g.s1, some x.heap.size⟩ (x.alloc (intsObj (fun _ => 0) n)) ⟨hS.turned.alloc _, fun b hb => ⟨(hS.a1 b hb).1, blk_old (hS.a1 b hb).2 _⟩, fun b hb => (by simp at hb; subst hb; exact ⟨hsz, blk_new x _⟩), fun b c hb hc => (by simp at hc; subst hc; have := lt_of_heap (hS.a1 b hb).2; omega)⟩ (fun y hy => ?_) (fun j hj hr => ?_))
      · simp at hy
        rcases hy with rfl | rfl <;> simp [gdone]
      · match j, hj, hr with
        | 0, _, _ => rfl
        | 1, _, _ => rfl
        | 2, _, _ => rfl
        | 3, hj, _ => exact absurd rfl hj
        | 4, _, _ => rfl
        | 5, _, hr => rw [rB] at hr; cases hr
        | k + 6, _, _ => rfl
    · have hK' := hK g x hS (keep 4 g (by decide)) (fun _ _ _ => rfl)
      exact l_val hd ((x_assign (op_is rfl ho)).trans (by rw [hv 1 18 rfl (by kernel_rfl)]; rfl)) hK'
    · have hK' := hK g x hS (keep 5 g (by decide)) (fun _ _ _ => rfl)
      exact l_val hd ((x_assign (op_is rfl ho)).trans (by rw [hv 3 20 rfl (by kernel_rfl)]; rfl)) hK'
  · intro a1 w1 g g1 g2 g3 hS hd g4
    obtain ⟨s1, s2⟩ := g
    obtain ⟨b, rfl⟩ := Option.isSome_iff_exists.1 (show s1.isSome = true from hd 1 (by simp))
    obtain ⟨c, rfl⟩ := Option.isSome_iff_exists.1 (show s2.isSome = true from hd 3 (by simp))
    exact hEnd a1 w1 b c g1 g2 (fun s hs' => ev_same (g3 s (fun hm => by simp at hm; omega))) hS.turned (hS.a1 b rfl).1 (hS.a2 c rfl).1 (hS.ne b c rfl rfl) (hS.a1 b rfl).2 (hS.a2 c rfl).2 (g4 4 7 rfl) (g4 5 8 rfl)
theorem ix_ints {w : World} {g n i : Nat} (h : i < n) : (Instr.indexAt 29 (.slice (some ⟨g, 0, none⟩) n n) (vi (i : Nat))).run Tryz.prog w = .ok (pv g i) w := by
  have hlt : (i : Int) < (n : Int) := by omega
  unfold pv
  go_simp
set_option maxRecDepth 100000 in
set_option maxHeartbeats 1600000 in
theorem pgens_r8 {K : Act → World → Prop} {Q : Exit → Act → World → Prop} {a : Act} {w : World} {b c n i xb : Nat} {S : Slot} {f g : Nat → Int} (hs : a.tmps.size = 49) (x7 : a.eval (.tmp 7) = Value.slice (some ⟨b, 0, none⟩) n n) (x8 : a.eval (.tmp 8) = Value.slice (some ⟨c, 0, none⟩) n n) (x9 : a.eval (.tmp 9) = vi (i : Nat)) (x10 : a.eval (.tmp 10) = pv xb 0) (hi : i < n) (hbc : b ≠ c) (hb : w.heap[b]? = some (intsObj f n)) (hc : w.heap[c]? = some (intsObj g n)) (hx : w.heap[xb]? = some (.cells (toldC S) 64 (0, 0)))
    (hEnd : ∀ a1 w1, a1.tmps.size = a.tmps.size → a1.defers = a.defers → (∀ s : Nat, s < 36 → a1.eval (.tmp s) = a.eval (.tmp s)) → (w1 = (w.drew.setCell ⟨b, i, none⟩ (vi S.gen)).setCell ⟨c, i, none⟩ (vi S.mark)) → K a1 w1) :
    (Code.region 8 (opsOf 8 Tryz.f85.body) true).wp Tryz.prog (Exit.then K Q) a w := by
  have hc2 : (w.drew.setCell ⟨b, i, none⟩ (vi S.gen)).heap[c]? = some (intsObj g n) := (blk_other hbc.symm _ _).trans hc
  have hx1 : (w.drew.setCell ⟨b, i, none⟩ (vi S.gen)).heap[xb]? = some (.cells (toldC S) 64 (0, 0)) := (blk_other (other_type hx hb (by decide)) _ _).trans hx
  refine wp_region_chainP (by kernel_rfl) [some 36, some 37, some 38, some 39, some 40, some 41, some 42, some 43, some 44, none, some 45, none] (fun kk => match kk with
      | 0 => Value.slice (some ⟨b, 0, none⟩) n n
      | 1 => vi (i : Nat)
      | 2 => Value.slice (some ⟨c, 0, none⟩) n n
      | 3 => vi (i : Nat)
      | 4 => pv xb 0
      | 5 => vi S.gen
      | 6 => pv xb 5
      | 7 => vi S.mark
      | 8 => pv b i
      | 9 => undef
      | 10 => pv c i
      | 11 => undef
      | _ => undef) (by rw [hs]; kernel_rfl) [9, 11] (fun jj => match jj with
      | 0 => fun x => x = w.drew
      | 1 => fun x => x = w.drew.setCell ⟨b, i, none⟩ (vi S.gen)
      | _ => fun x => x = (w.drew.setCell ⟨b, i, none⟩ (vi S.gen)).setCell ⟨c, i, none⟩ (vi S.mark)) rfl (by decide) (by decide +kernel) ?_ ?_ ?_
  · intro kk gg bq h
    exact (no_guard (by kernel_rfl) h).elim
  · intro kk hk hgd o ac wa M K ho hd _ hoff hv hpre hL hK
    rcases (by simp at hk; omega : kk = 0 ∨ kk = 1 ∨ kk = 2 ∨ kk = 3 ∨ kk = 4 ∨ kk = 5 ∨ kk = 6 ∨ kk = 7 ∨ kk = 8 ∨ kk = 9 ∨ kk = 10 ∨ kk = 11) with rfl | rfl | rfl | rfl | rfl | rfl | rfl | rfl | rfl | rfl | rfl | rfl
    · obtain ⟨hM, jw, hjw, hW, hjR⟩ := hL.off (by decide)
      replace hK := hK _ hM
      exact l_val hd ((x_move (op_is rfl ho)).trans (by rw [(hoff 7 (by decide)).trans x7]; rfl)) hK
    · obtain ⟨hM, jw, hjw, hW, hjR⟩ := hL.off (by decide)
      replace hK := hK _ hM
      exact l_val hd ((x_move (op_is rfl ho)).trans (by rw [(hoff 9 (by decide)).trans x9]; rfl)) hK
    · obtain ⟨hM, jw, hjw, hW, hjR⟩ := hL.off (by decide)
      replace hK := hK _ hM
      exact l_val hd ((x_move (op_is rfl ho)).trans (by rw [(hoff 8 (by decide)).trans x8]; rfl)) hK
    · obtain ⟨hM, jw, hjw, hW, hjR⟩ := hL.off (by decide)
      replace hK := hK _ hM
      exact l_val hd ((x_move (op_is rfl ho)).trans (by rw [(hoff 9 (by decide)).trans x9]; rfl)) hK
    · obtain ⟨hM, jw, hjw, hW, hjR⟩ := hL.off (by decide)
      replace hK := hK _ hM
      exact l_val hd (x_field (op_is rfl ho) (by rw [(hoff 10 (by decide)).trans x10]; unfold pv; go_simp)) hK
    · obtain ⟨hM, jw, hjw, hW, hjR⟩ := hL.off (by decide)
      replace hK := hK _ hM
      have hj := hjR 0 9 rfl (by decide +kernel)
      obtain rfl : jw = 0 := by omega
      exact l_val hd (x_load (op_is rfl ho) (by rw [hv 4 40 rfl (by kernel_rfl)]; refine ld_int ?_; exact (show wa = w.drew from hW) ▸ (cell_at hx 0).trans (by simp))) hK
    · obtain ⟨hM, jw, hjw, hW, hjR⟩ := hL.off (by decide)
      replace hK := hK _ hM
      exact l_val hd (x_field (op_is rfl ho) (by rw [(hoff 10 (by decide)).trans x10]; unfold pv; go_simp)) hK
    · obtain ⟨hM, jw, hjw, hW, hjR⟩ := hL.off (by decide)
      replace hK := hK _ hM
      have hj := hjR 1 11 rfl (by decide +kernel)
      rcases (by omega : jw = 0 ∨ jw = 1) with rfl | rfl
      · exact l_val hd (x_load (op_is rfl ho) (by rw [hv 6 42 rfl (by kernel_rfl)]; refine ld_int ?_; exact (show wa = w.drew from hW) ▸ (cell_at hx 5).trans (by simp))) hK
      · exact l_val hd (x_load (op_is rfl ho) (by rw [hv 6 42 rfl (by kernel_rfl)]; refine ld_int ?_; exact (show wa = w.drew.setCell ⟨b, i, none⟩ (vi S.gen) from hW) ▸ (cell_at hx1 5).trans (by simp))) hK
    · obtain ⟨hM, jw, hjw, hW, hjR⟩ := hL.off (by decide)
      replace hK := hK _ hM
      exact l_val hd (x_index (op_is rfl ho) (by rw [hv 0 36 rfl (by kernel_rfl), hv 1 37 rfl (by kernel_rfl)]; exact ix_ints hi)) hK
    · obtain ⟨hW, rfl⟩ := hL.at_ (by decide) (j := 0) rfl
      have hW : wa = w.drew := hW
      subst hW
      exact l_skip hd (x_store (op_is rfl ho) (by rw [hv 8 44 rfl (by kernel_rfl), hv 5 41 rfl (by kernel_rfl)]; exact st_int (w := w.drew) (ints_cell hb hi) (froz_at (w := w.drew) hb i))) (hK _ rfl)
    · obtain ⟨hM, jw, hjw, hW, hjR⟩ := hL.off (by decide)
      replace hK := hK _ hM
      exact l_val hd (x_index (op_is rfl ho) (by rw [hv 2 38 rfl (by kernel_rfl), hv 3 39 rfl (by kernel_rfl)]; exact ix_ints hi)) hK
    · obtain ⟨hW, rfl⟩ := hL.at_ (by decide) (j := 1) rfl
      have hW : wa = w.drew.setCell ⟨b, i, none⟩ (vi S.gen) := hW
      subst hW
      exact l_skip hd (x_store (op_is rfl ho) (by rw [hv 10 45 rfl (by kernel_rfl), hv 7 43 rfl (by kernel_rfl)]; exact st_int (ints_cell hc2 hi) (froz_at hc2 i))) (hK _ rfl)
  · intro a1 g1 g2 g3 g4 w1 hW
    exact hEnd a1 w1 g1 g2 (fun s hs'  => ev_same (g3 s (fun hm => by simp at hm; omega))) hW
/-- The first t are told. -/
def fst_ (f : Nat → Int) (t j : Nat) : Int := if j < t then f (j + 1) else 0
theorem fst_next (f : Nat → Int) (t : Nat) : updI (fst_ f t) t (f (t + 1)) = fst_ f (t + 1) := by
  funext j
  unfold updI fst_
  by_cases e : j = t
  · subst e
    rw [if_pos rfl, if_pos (by omega)]
  · rw [if_neg e]
    by_cases e2 : j < t
    · rw [if_pos e2, if_pos (by omega)]
    · rw [if_neg e2, if_neg (by omega)]
theorem fst_all (f : Nat → Int) (n : Nat) : ((List.range n).map fun j => Value.int .i64 (fst_ f n j)) = (numsOf f n).map (.int .i64 ·) := by
  unfold numsOf fst_
  rw [List.map_map]
  refine List.map_congr_left fun j hj => ?_
  rw [if_pos (List.mem_range.1 hj)]
  rfl
section
variable {w : World} {p sb pb nb : Nat} {L : Nat → Nat} {s : PSt}
structure PGI (w : World) (p : Nat) (s : PSt) (b c : Nat) (a' : Act) (w' : World) : Prop where
  ex : ∃ t : Nat, t ≤ s.n ∧ a'.tmps.size = 49 ∧ a'.defers = [] ∧ a'.eval (.tmp 0) = pv p 0 ∧ a'.eval (.tmp 1) = .pointer none ∧ a'.eval (.tmp 7) = .slice (some ⟨b, 0, none⟩) s.n s.n ∧ a'.eval (.tmp 8) = .slice (some ⟨c, 0, none⟩) s.n s.n ∧ a'.eval (.tmp 21) = .int .i64 (s.n : Nat) ∧ a'.eval (.tmp 22) = .int .i64 (t : Nat) ∧ Turned [] w w' ∧ w'.heap[b]? = some (intsObj (fst_ (fun k => (s.slot k).gen) t) s.n) ∧ w'.heap[c]? = some (intsObj (fst_ (fun k => (s.slot k).mark) t) s.n)
set_option maxRecDepth 100000 in
set_option maxHeartbeats 3200000 in
theorem cPGens (h : PA w p sb pb nb L s) (hn : s.n ≤ 4096) : Calls Tryz.prog 85 #[.pointer (some ⟨p, 0, none⟩), .pointer none] w fun e w' => ∃ b c, e = .returned (.tuple #[.slice (some ⟨b, 0, none⟩) s.n s.n, .slice (some ⟨c, 0, none⟩) s.n s.n]) ∧ Turned [] w w' ∧ w.heap.size ≤ b ∧ w.heap.size ≤ c ∧ b ≠ c ∧ w'.heap[b]? = some (intsObj (fst_ (fun k => (s.slot k).gen) s.n) s.n) ∧ w'.heap[c]? = some (intsObj (fst_ (fun k => (s.slot k).mark) s.n) s.n) := by
  have c0 := cell_at h.pool 0
  simp at c0
  have HPA : Hid _ := h
  clear h
  go_enter Tryz.func85, Tryz.ntmps85
  go_wp2
  rename_i K hK
  refine pgens_r2 (n := s.n) rfl (by show Value.int .i64 _ = _; simp) hn ?_
  intro a1 w1 b c s1 d1 e1 hT hb hc hbc hob hoc x7 x8
  obtain ⟨cc, rfl, hcc⟩ := expand49 s1 d1
  have y0 : cc 0 = .pointer (some ⟨p, 0, none⟩) := (hcc 0).trans (e1 0 (by omega))
  have y1 : cc 1 = .pointer none := (hcc 1).trans (e1 1 (by omega))
  have y6 : cc 6 = .int .i64 (s.n : Nat) := (hcc 6).trans ((e1 6 (by omega)).trans (by show Value.int .i64 _ = _; simp))
  have y7 : cc 7 = .slice (some ⟨b, 0, none⟩) s.n s.n := (hcc 7).trans x7
  have y8 : cc 8 = .slice (some ⟨c, 0, none⟩) s.n s.n := (hcc 8).trans x8
  have HT : Hid _ := hT
  have HB : Hid _ := hob
  have HC : Hid _ := hoc
  clear hcc e1 s1 d1 x7 x8 hT hob hoc c0
  refine hK _ _ ?_
  unfold lit49
  simp only [y0, y1, y6, y7, y8]
  clear y0 y1 y6 y7 y8
  go_wp2
  refine wp_loop (PGI w p s b c) (fun a' _ => s.n - (intOf (a'.eval (.tmp 22))).toNat) ?_ ?_
  · refine ⟨0, Nat.zero_le _, rfl, rfl, rfl, rfl, rfl, rfl, rfl, rfl, HT.out, ?_, ?_⟩
    · rw [HB.out]
      rfl
    · rw [HC.out]
      rfl
  clear HT HB HC hK
  rintro a2 w2 ⟨t, ht, hs2, hd2, x0, x1, x7, x8, x21, x22, hT, hob, hoc⟩
  obtain ⟨cc, rfl, hcc⟩ := expand49 hs2 hd2
  have y0 : cc 0 = .pointer (some ⟨p, 0, none⟩) := (hcc 0).trans x0
  have y1 : cc 1 = .pointer none := (hcc 1).trans x1
  have y7 : cc 7 = .slice (some ⟨b, 0, none⟩) s.n s.n := (hcc 7).trans x7
  have y8 : cc 8 = .slice (some ⟨c, 0, none⟩) s.n s.n := (hcc 8).trans x8
  have y21 : cc 21 = .int .i64 (s.n : Nat) := (hcc 21).trans x21
  have y22 : cc 22 = .int .i64 (t : Nat) := (hcc 22).trans x22
  rw [x22, show (intOf (.int .i64 (t : Nat))).toNat = t by simp [intOf]]
  have HT : Hid _ := hT
  have HOB : Hid _ := hob
  have HOC : Hid _ := hoc
  have hP := HPA.out.keep hT (by simp)
  clear hcc x0 x1 x7 x8 x21 x22 hs2 hd2 hT hob hoc
  unfold lit49
  simp only [y0, y1, y7, y8, y21, y22]
  clear y0 y1 y7 y8 y21 y22
  by_cases hlt : t < s.n
  · have hl : (t : Int) < (s.n : Int) := by omega
    have hlt2 : (t : Int) + 1 < (s.n : Int) + 1 := by omega
    have c0 := cell_at hP.pool 0
    simp at c0
    have HLd := cPLoad (ptr_cell hP.slots (k := t + 1) (by omega)) (hP.life (t + 1) (by omega)) rfl
    have HTd := cTold (hP.life (t + 1) (by omega))
    clear hP
    go_wp2_with (first
      | (go_at_call 61; refine (cStep _).mono ?_; rintro e w' ⟨rfl, hw⟩; obtain rfl := hw.symm)
      | (go_at_call 58; refine HLd.mono ?_; rintro e w' ⟨rfl, hw⟩; obtain rfl := hw.symm)
      | (go_at_call 65; refine HTd.mono ?_; rintro e w' ⟨rfl, rfl⟩))
    rename_i K1 hK1 _
    have hx : (((w2.alloc (.cells (toldC (s.slot (t + 1))) 64)).alloc (.cells (toldC (s.slot (t + 1))) 64)).drew).heap[w2.heap.size + 1]? = some (.cells (toldC (s.slot (t + 1))) 64 (0, 0)) := by
      have := blk_new (w2.alloc (.cells (toldC (s.slot (t + 1))) 64)) (.cells (toldC (s.slot (t + 1))) 64)
      rwa [show (w2.alloc (.cells (toldC (s.slot (t + 1))) 64)).heap.size = w2.heap.size + 1 by simp] at this
    have hTx : Turned [] w2 (((w2.alloc (.cells (toldC (s.slot (t + 1))) 64)).alloc (.cells (toldC (s.slot (t + 1))) 64)).drew) := (((Turned.refl [] w2).alloc _).alloc _).drew
    have hbx := hTx.heap HOB.out (by simp)
    have hcx := hTx.heap HOC.out (by simp)
    have hTw := HT.out.trans hTx
    generalize (((w2.alloc (.cells (toldC (s.slot (t + 1))) 64)).alloc (.cells (toldC (s.slot (t + 1))) 64)).drew) = X at hx hTx hbx hcx hTw ⊢
    refine wp_fall ?_
    refine pgens_r8 (i := t) (xb := w2.heap.size + 1) (S := s.slot (t + 1)) rfl rfl rfl rfl rfl hlt hbc hbx hcx hx ?_
    rintro a3 w3 s3 d3 e3 rfl
    have hB3 : ((X.drew.setCell ⟨b, t, none⟩ (vi (s.slot (t + 1)).gen)).setCell ⟨c, t, none⟩ (vi (s.slot (t + 1)).mark)).heap[b]? = some (intsObj (fst_ (fun k => (s.slot k).gen) (t + 1)) s.n) := by
      rw [blk_other hbc, ints_put (w := X.drew) (j := t) hbx, fst_next]
    have hC3 : ((X.drew.setCell ⟨b, t, none⟩ (vi (s.slot (t + 1)).gen)).setCell ⟨c, t, none⟩ (vi (s.slot (t + 1)).mark)).heap[c]? = some (intsObj (fst_ (fun k => (s.slot k).mark) (t + 1)) s.n) := by
      rw [ints_put (j := t) ((blk_other hbc.symm _ _).trans (show X.drew.heap[c]? = _ from hcx)), fst_next]
    have hT3 : Turned [] w ((X.drew.setCell ⟨b, t, none⟩ (vi (s.slot (t + 1)).gen)).setCell ⟨c, t, none⟩ (vi (s.slot (t + 1)).mark)) := (hTw.drew.set (.inr hb) _ _).set (.inr hc) _ _
    have HB3 : Hid _ := hB3
    have HC3 : Hid _ := hC3
    have HT3 : Hid _ := hT3
    generalize ((X.drew.setCell ⟨b, t, none⟩ (vi (s.slot (t + 1)).gen)).setCell ⟨c, t, none⟩ (vi (s.slot (t + 1)).mark)) = X3 at HB3 HC3 HT3 ⊢
    obtain ⟨c2, rfl, hcc⟩ := expand49 s3 d3
    have y0 : c2 0 = .pointer (some ⟨p, 0, none⟩) := (hcc 0).trans (e3 0 (by omega))
    have y1 : c2 1 = .pointer none := (hcc 1).trans (e3 1 (by omega))
    have y7 : c2 7 = .slice (some ⟨b, 0, none⟩) s.n s.n := (hcc 7).trans (e3 7 (by omega))
    have y8 : c2 8 = .slice (some ⟨c, 0, none⟩) s.n s.n := (hcc 8).trans (e3 8 (by omega))
    have y21 : c2 21 = .int .i64 (s.n : Nat) := (hcc 21).trans (e3 21 (by omega))
    have y22 : c2 22 = .int .i64 (t : Nat) := (hcc 22).trans (e3 22 (by omega))
    clear hcc e3 s3 d3 hB3 hC3 hT3 hx hTx hbx hcx hTw
    refine (show K1 _ _ from hK1 _ _ ?_)
    unfold lit49
    simp only [y0, y1, y7, y8, y21, y22]
    clear y0 y1 y7 y8 y21 y22
    go_wp2
    refine ⟨⟨t + 1, by omega, rfl, rfl, rfl, rfl, rfl, rfl, rfl, by show Value.int .i64 ((t : Int) + 1) = .int .i64 ((t + 1 : Nat) : Int); simp, HT3.out, HB3.out, HC3.out⟩, ?_⟩
    have e : (intOf (Value.int .i64 ((t : Int) + 1))).toNat = t + 1 := by simp [intOf]
    change s.n - (intOf (Value.int .i64 ((t : Int) + 1))).toNat < _
    rw [e]
    omega
  · obtain rfl : t = s.n := by omega
    have hl : ¬ (s.n : Int) < (s.n : Int) := by omega
    clear hP
    go_wp2
    go_ret2
    exact ⟨b, c, rfl, HT.out, hb, hc, hbc, HOB.out, HOC.out⟩
end
end Go.Proofs.YtjbhnpofdafmbaaGreatDoor
/- The program's pool and the document's: each call answers the same and leaves the same. -/
namespace Go.Proofs.YtjbhnpofdafmbaaGreatDoor
open Go.RowKit
/-- The program's pool turned, and grew, alone. -/
structure PDone (w : World) (p sb pb nb : Nat) (L : Nat → Nat) (s s' : PSt) (w' : World) : Prop where
  turned : Turned (blocks p sb pb nb L s.n) w w'
  pa : ∃ L', PA w' p sb pb nb L' s' ∧ Wider (blocks p sb pb nb L s.n) (blocks p sb pb nb L' s.n) w
section
variable {w w' : World} {p sb pb nb it : Nat} {L : Nat → Nat} {s s' : PSt}
theorem Wider.refl (F : List Nat) (w : World) : Wider F F w := fun _ h => .inl h
theorem PDone.same (h : PA w p sb pb nb L s) (ht : Turned [] w w') : PDone w p sb pb nb L s s w' := ⟨ht.mono (by simp), L, h.keep ht (by simp), Wider.refl _ _⟩
theorem PDone.of (_h : PA w p sb pb nb L s) (ht : Turned (blocks p sb pb nb L s.n) w w') (h' : PA w' p sb pb nb L s') : PDone w p sb pb nb L s s' w' := ⟨ht, L, h', Wider.refl _ _⟩
theorem PDone.lead {i b' : Nat} (ht : Turned (blocks p sb pb nb L s.n) w w') (hb : w.heap.size ≤ b') (h' : PA w' p sb pb nb (upd L i b') s') : PDone w p sb pb nb L s s' w' := ⟨ht, _, h', wider_lead hb⟩
theorem bothMark (hG : Good s it) (hit : it ≤ 1000) (x : Int) : ∃ (v z : Int) (s' : PSt), Good s' (it + 1) ∧ s'.n = s.n ∧ (∀ {w : World} {p sb pb nb : Nat} {L : Nat → Nat}, PA w p sb pb nb L s → Calls Tryz.prog 23 #[.pointer (some ⟨p, 0, none⟩), .pointer none, .int .i64 x] w fun e w' => e = .returned (.tuple #[.int .i64 v, .int .i64 z]) ∧ PDone w p sb pb nb L s s' w') ∧
    (∀ {w : World} {T : List Nat} {tb c : Nat} {r : RB}, Th T w tb r.m c → RP w r s → r.g ∉ T → c ≤ 1000 → Calls Tryz.prog 24 #[.pointer (some ⟨r.q, 0, none⟩), .pointer (some ⟨tb, 0, none⟩), .int .i64 x] w fun e w' => e = .returned (.tuple #[.int .i64 v, .int .i64 z]) ∧ ∃ T', RGo r T w tb (c + 20) s' T' w') := by
  have hn := hG.ok.n2
  have hf := hG.faults
  rcases handle_or s.n x with hx | ⟨i, g, hx⟩
  · refine ⟨0, 103, s, hG.more, rfl, fun {w p sb pb nb L} h => ?_, fun {w T tb c r} hT hR hg hc => ?_⟩
    · refine (cPMarkBad h hx).mono ?_
      rintro e w' ⟨rfl, rfl⟩
      exact ⟨rfl, PDone.same h (Turned.refl _ _)⟩
    · exact (cRMarkOfBad hT hR hn (by omega) hg hx).mono fun e x h => ⟨h.1, h.2.imp fun T' k => k.up (by omega)⟩
  · obtain ⟨rfl, i1, i2, g0, g1, odd⟩ := hx
    have hx : IsHandle s.n (hnd i g) i g := ⟨rfl, i1, i2, g0, g1, odd⟩
    have hgi := hG.gens i i2
    by_cases hgen : (s.slot i).gen = g
    · refine ⟨(s.slot i).mark, 0, s, hG.more, rfl, fun {w p sb pb nb L} h => ?_, fun {w T tb c r} hT hR hg hc => ?_⟩
      · refine (cPMark h i1 i2 hn g0 g1 odd hgen).mono ?_
        rintro e w' ⟨rfl, rfl⟩
        exact ⟨rfl, PDone.same h (Turned.refl _ _)⟩
      · exact (cRMarkOf hT hR hn (by omega) hg hx hgen).mono fun e x h => ⟨h.1, h.2.imp fun T' k => k.up (by omega)⟩
    · refine ⟨0, 104, s.fault, hG.fault, rfl, fun {w p sb pb nb L} h => ?_, fun {w T tb c r} hT hR hg hc => ?_⟩
      · refine (cPMarkGone h i1 i2 hn g0 g1 odd hgen hf.1 (by omega)).mono ?_
        rintro e w' ⟨rfl, rfl⟩
        exact ⟨rfl, PDone.of h ((Turned.refl _ _).set (.inl (by simp [blocks])) _ _) h.fault⟩
      · exact (cRMarkOfGone hT hR hn (by omega) hg hx hgen hf.1 (by omega)).mono fun e x h => ⟨h.1, h.2.imp fun T' k => k.up (by omega)⟩
theorem bothLink (hG : Good s it) (hit : it ≤ 1000) (x : Int) : ∃ (v z : Int) (s' : PSt), Good s' (it + 1) ∧ s'.n = s.n ∧ (∀ {w : World} {p sb pb nb : Nat} {L : Nat → Nat}, PA w p sb pb nb L s → Calls Tryz.prog 27 #[.pointer (some ⟨p, 0, none⟩), .pointer none, .int .i64 x] w fun e w' => e = .returned (.tuple #[.int .i64 v, .int .i64 z]) ∧ PDone w p sb pb nb L s s' w') ∧
    (∀ {w : World} {T : List Nat} {tb c : Nat} {r : RB}, Th T w tb r.m c → RP w r s → r.g ∉ T → c ≤ 1000 → Calls Tryz.prog 28 #[.pointer (some ⟨r.q, 0, none⟩), .pointer (some ⟨tb, 0, none⟩), .int .i64 x] w fun e w' => e = .returned (.tuple #[.int .i64 v, .int .i64 z]) ∧ ∃ T', RGo r T w tb (c + 20) s' T' w') := by
  have hn := hG.ok.n2
  have hf := hG.faults
  rcases handle_or s.n x with hx | ⟨i, g, hx⟩
  · refine ⟨0, 103, s, hG.more, rfl, fun {w p sb pb nb L} h => ?_, fun {w T tb c r} hT hR hg hc => ?_⟩
    · refine (cPLinkBad h hx).mono ?_
      rintro e w' ⟨rfl, rfl⟩
      exact ⟨rfl, PDone.same h (Turned.refl _ _)⟩
    · exact (cRLinkOfBad hT hR hn (by omega) hg hx).mono fun e x h => ⟨h.1, h.2.imp fun T' k => k.up (by omega)⟩
  · obtain ⟨rfl, i1, i2, g0, g1, odd⟩ := hx
    have hx : IsHandle s.n (hnd i g) i g := ⟨rfl, i1, i2, g0, g1, odd⟩
    have hgi := hG.gens i i2
    by_cases hgen : (s.slot i).gen = g
    · refine ⟨(s.slot i).link, 0, s, hG.more, rfl, fun {w p sb pb nb L} h => ?_, fun {w T tb c r} hT hR hg hc => ?_⟩
      · refine (cPLink h i1 i2 hn g0 g1 odd hgen).mono ?_
        rintro e w' ⟨rfl, rfl⟩
        exact ⟨rfl, PDone.same h (Turned.refl _ _)⟩
      · exact (cRLinkOf hT hR hn (by omega) hg hx hgen).mono fun e x h => ⟨h.1, h.2.imp fun T' k => k.up (by omega)⟩
    · refine ⟨0, 104, s.fault, hG.fault, rfl, fun {w p sb pb nb L} h => ?_, fun {w T tb c r} hT hR hg hc => ?_⟩
      · refine (cPLinkGone h i1 i2 hn g0 g1 odd hgen hf.1 (by omega)).mono ?_
        rintro e w' ⟨rfl, rfl⟩
        exact ⟨rfl, PDone.of h ((Turned.refl _ _).set (.inl (by simp [blocks])) _ _) h.fault⟩
      · exact (cRLinkOfGone hT hR hn (by omega) hg hx hgen hf.1 (by omega)).mono fun e x h => ⟨h.1, h.2.imp fun T' k => k.up (by omega)⟩
theorem bothSwap (hG : Good s it) (hit : it ≤ 1000) (x v : Int) : ∃ (u z : Int) (s' : PSt), Good s' (it + 1) ∧ s'.n = s.n ∧ (∀ {w : World} {p sb pb nb : Nat} {L : Nat → Nat}, PA w p sb pb nb L s → Calls Tryz.prog 29 #[.pointer (some ⟨p, 0, none⟩), .pointer none, .int .i64 x, .int .i64 v] w fun e w' => e = .returned (.tuple #[.int .i64 u, .int .i64 z]) ∧ PDone w p sb pb nb L s s' w') ∧
    (∀ {w : World} {T : List Nat} {tb c : Nat} {r : RB}, Th T w tb r.m c → RP w r s → r.g ∉ T → c ≤ 1000 → Calls Tryz.prog 30 #[.pointer (some ⟨r.q, 0, none⟩), .pointer (some ⟨tb, 0, none⟩), .int .i64 x, .int .i64 v] w fun e w' => e = .returned (.tuple #[.int .i64 u, .int .i64 z]) ∧ ∃ T', RGo r T w tb (c + 20) s' T' w') := by
  have hn := hG.ok.n2
  have hf := hG.faults
  rcases handle_or s.n x with hx | ⟨i, g, hx⟩
  · refine ⟨0, 103, s, hG.more, rfl, fun {w p sb pb nb L} h => ?_, fun {w T tb c r} hT hR hg hc => ?_⟩
    · refine (cPSwapLinkBad h hx v).mono ?_
      rintro e w' ⟨rfl, rfl⟩
      exact ⟨rfl, PDone.same h (Turned.refl _ _)⟩
    · exact (cRSwapLinkOfBad hT hR hn (by omega) hg hx v).mono fun e x h => ⟨h.1, h.2.imp fun T' k => k.up (by omega)⟩
  · obtain ⟨rfl, i1, i2, g0, g1, odd⟩ := hx
    have hx : IsHandle s.n (hnd i g) i g := ⟨rfl, i1, i2, g0, g1, odd⟩
    have hgi := hG.gens i i2
    by_cases hgen : (s.slot i).gen = g
    · refine ⟨(s.slot i).link, 0, s.putLink i v, hG.putLink i2 v, rfl, fun {w p sb pb nb L} h => ?_, fun {w T tb c r} hT hR hg hc => ?_⟩
      · refine (cPSwap h i1 i2 hn g0 g1 odd hgen v).mono ?_
        rintro e w' ⟨rfl, rfl⟩
        exact ⟨rfl, PDone.of h ((Turned.refl _ _).set (.inl (mem_life i2)) _ _) (h.putLink i2 (by omega) v)⟩
      · exact (cRSwapLinkOf hT hR hn (by omega) hg hx hgen v).mono fun e x h => ⟨h.1, h.2.imp fun T' k => k.up (by omega)⟩
    · refine ⟨0, 104, s.fault, hG.fault, rfl, fun {w p sb pb nb L} h => ?_, fun {w T tb c r} hT hR hg hc => ?_⟩
      · refine (cPSwapLinkGone h i1 i2 hn g0 g1 odd hgen hf.1 (by omega) v).mono ?_
        rintro e w' ⟨rfl, rfl⟩
        exact ⟨rfl, PDone.of h ((Turned.refl _ _).set (.inl (by simp [blocks])) _ _) h.fault⟩
      · exact (cRSwapLinkOfGone hT hR hn (by omega) hg hx hgen hf.1 (by omega) v).mono fun e x h => ⟨h.1, h.2.imp fun T' k => k.up (by omega)⟩
theorem bothCas (hG : Good s it) (hit : it ≤ 1000) (x old v : Int) : ∃ (u : Bool) (z : Int) (s' : PSt), Good s' (it + 1) ∧ s'.n = s.n ∧ (∀ {w : World} {p sb pb nb : Nat} {L : Nat → Nat}, PA w p sb pb nb L s → Calls Tryz.prog 25 #[.pointer (some ⟨p, 0, none⟩), .pointer none, .int .i64 x, .int .i64 old, .int .i64 v] w fun e w' => e = .returned (.tuple #[.bool u, .int .i64 z]) ∧ PDone w p sb pb nb L s s' w') ∧
    (∀ {w : World} {T : List Nat} {tb c : Nat} {r : RB}, Th T w tb r.m c → RP w r s → r.g ∉ T → c ≤ 1000 → Calls Tryz.prog 26 #[.pointer (some ⟨r.q, 0, none⟩), .pointer (some ⟨tb, 0, none⟩), .int .i64 x, .int .i64 old, .int .i64 v] w fun e w' => e = .returned (.tuple #[.bool u, .int .i64 z]) ∧ ∃ T', RGo r T w tb (c + 20) s' T' w') := by
  have hn := hG.ok.n2
  have hf := hG.faults
  rcases handle_or s.n x with hx | ⟨i, g, hx⟩
  · refine ⟨false, 103, s, hG.more, rfl, fun {w p sb pb nb L} h => ?_, fun {w T tb c r} hT hR hg hc => ?_⟩
    · refine (cPCasMarkBad h hx old v).mono ?_
      rintro e w' ⟨rfl, rfl⟩
      exact ⟨rfl, PDone.same h (Turned.refl _ _)⟩
    · exact (cRCasMarkOfBad hT hR hn (by omega) hg hx old v).mono fun e x h => ⟨h.1, h.2.imp fun T' k => k.up (by omega)⟩
  · obtain ⟨rfl, i1, i2, g0, g1, odd⟩ := hx
    have hx : IsHandle s.n (hnd i g) i g := ⟨rfl, i1, i2, g0, g1, odd⟩
    have hgi := hG.gens i i2
    by_cases hgen : (s.slot i).gen = g
    · by_cases hm : (s.slot i).mark = old
      · refine ⟨true, 0, s.putMark i v, hG.putMark i2 v, rfl, fun {w p sb pb nb L} h => ?_, fun {w T tb c r} hT hR hg hc => ?_⟩
        · refine (cPCasMark h i1 i2 hn g0 g1 odd hgen old v hm).mono ?_
          rintro e w' ⟨rfl, rfl⟩
          exact ⟨rfl, PDone.of h ((Turned.refl _ _).set (.inl (mem_life i2)) _ _) (h.putMark i2 (by omega) v)⟩
        · exact (cRCasMarkOf hT hR hn (by omega) hg hx hgen old v hm).mono fun e x h => ⟨h.1, h.2.imp fun T' k => k.up (by omega)⟩
      · refine ⟨false, 0, s, hG.more, rfl, fun {w p sb pb nb L} h => ?_, fun {w T tb c r} hT hR hg hc => ?_⟩
        · refine (cPCasNot h i1 i2 hn g0 g1 odd hgen old v hm).mono ?_
          rintro e w' ⟨rfl, rfl⟩
          exact ⟨rfl, PDone.same h (Turned.refl _ _)⟩
        · exact (cRCasMarkNot hT hR hn (by omega) hg hx hgen old v hm).mono fun e x h => ⟨h.1, h.2.imp fun T' k => k.up (by omega)⟩
    · refine ⟨false, 104, s.fault, hG.fault, rfl, fun {w p sb pb nb L} h => ?_, fun {w T tb c r} hT hR hg hc => ?_⟩
      · refine (cPCasMarkGone h i1 i2 hn g0 g1 odd hgen hf.1 (by omega) old v).mono ?_
        rintro e w' ⟨rfl, rfl⟩
        exact ⟨rfl, PDone.of h ((Turned.refl _ _).set (.inl (by simp [blocks])) _ _) h.fault⟩
      · exact (cRCasMarkOfGone hT hR hn (by omega) hg hx hgen hf.1 (by omega) old v).mono fun e x h => ⟨h.1, h.2.imp fun T' k => k.up (by omega)⟩
theorem bothGive (hG : Good s it) (hit : it ≤ 1000) (x : Int) : ∃ (z : Int) (s' : PSt), Good s' (it + 1) ∧ s'.n = s.n ∧ (∀ {w : World} {p sb pb nb : Nat} {L : Nat → Nat}, PA w p sb pb nb L s → Calls Tryz.prog 13 #[.pointer (some ⟨p, 0, none⟩), .pointer none, .int .i64 x] w fun e w' => e = .returned (.int .i64 z) ∧ PDone w p sb pb nb L s s' w') ∧
    (∀ {w : World} {T : List Nat} {tb c : Nat} {r : RB}, Th T w tb r.m c → RP w r s → r.g ∉ T → c ≤ 1000 → Calls Tryz.prog 21 #[.pointer (some ⟨r.q, 0, none⟩), .pointer (some ⟨tb, 0, none⟩), .int .i64 x] w fun e w' => e = .returned (.int .i64 z) ∧ ∃ T', RGo r T w tb (c + 20) s' T' w') := by
  have hn := hG.ok.n2
  have hf := hG.faults
  rcases handle_or s.n x with hx | ⟨i, g, hx⟩
  · refine ⟨103, s, hG.more, rfl, fun {w p sb pb nb L} h => ?_, fun {w T tb c r} hT hR hg hc => ?_⟩
    · refine (cPGiveBad h hx).mono ?_
      rintro e w' ⟨rfl, rfl⟩
      exact ⟨rfl, PDone.same h (Turned.refl _ _)⟩
    · exact (cRGiveBad hT hR (by omega) hg hx).mono fun e x h => ⟨h.1, h.2.imp fun T' k => k.up (by omega)⟩
  · obtain ⟨rfl, i1, i2, g0, g1, odd⟩ := hx
    have hx : IsHandle s.n (hnd i g) i g := ⟨rfl, i1, i2, g0, g1, odd⟩
    have hgi := hG.gens i i2
    by_cases hgen : (s.slot i).gen = g
    · refine ⟨0, s.give i (-7777777), hG.give i2 _, rfl, fun {w p sb pb nb L} h => ?_, fun {w T tb c r} hT hR hg hc => ?_⟩
      · refine (cPGive h i1 i2 hn g0 (by omega) odd hgen hG.ok).mono ?_
        rintro e w' ⟨rfl, ht, b', hb, h'⟩
        exact ⟨rfl, PDone.lead ht hb h'⟩
      · exact (cRGive hT hR hn (by omega) hg hG.ok hx hgen (by omega)).mono fun e x h => ⟨h.1, h.2.imp fun T' k => k.up (by omega)⟩
    · refine ⟨104, s, hG.more, rfl, fun {w p sb pb nb L} h => ?_, fun {w T tb c r} hT hR hg hc => ?_⟩
      · refine (cPGiveGone h i1 i2 hn g0 g1 odd hgen).mono ?_
        rintro e w' ⟨rfl, rfl⟩
        exact ⟨rfl, PDone.same h (Turned.refl _ _).drew⟩
      · exact (cRGiveGone hT hR hn (by omega) hg hx hgen).mono fun e x h => ⟨h.1, h.2.imp fun T' k => k.up (by omega)⟩
theorem bothRead (hG : Good s it) (hit : it ≤ 1000) (x : Int) : ∃ (na nb_ nc nd z : Int) (s' : PSt), Good s' (it + 1) ∧ s'.n = s.n ∧ (∀ {w : World} {p sb pb nb : Nat} {L : Nat → Nat}, PA w p sb pb nb L s → Calls Tryz.prog 15 #[.pointer (some ⟨p, 0, none⟩), .pointer none, .int .i64 x] w fun e w' => e = .returned (.tuple #[.agg #[.int .i64 na, .int .i64 nb_, .int .i64 nc, .int .i64 nd], .int .i64 z]) ∧ PDone w p sb pb nb L s s' w') ∧
    (∀ {w : World} {T : List Nat} {tb c : Nat} {r : RB}, Th T w tb r.m c → RP w r s → r.g ∉ T → c ≤ 1000 → Calls Tryz.prog 22 #[.pointer (some ⟨r.q, 0, none⟩), .pointer (some ⟨tb, 0, none⟩), .int .i64 x] w fun e w' => e = .returned (.tuple #[.agg #[.int .i64 na, .int .i64 nb_, .int .i64 nc, .int .i64 nd], .int .i64 z]) ∧ ∃ T', RGo r T w tb (c + 20) s' T' w') := by
  have hn := hG.ok.n2
  have hf := hG.faults
  rcases handle_or s.n x with hx | ⟨i, g, hx⟩
  · refine ⟨0, 0, 0, 0, 103, s, hG.more, rfl, fun {w p sb pb nb L} h => ?_, fun {w T tb c r} hT hR hg hc => ?_⟩
    · refine (cPReadBad h hx).mono ?_
      rintro e w' ⟨rfl, ht, h'⟩
      exact ⟨rfl, PDone.same h ht⟩
    · exact (cRReadBad hT hR hn (by omega) hg hx).mono fun e x h => ⟨h.1, h.2.imp fun T' k => k.up (by omega)⟩
  · obtain ⟨rfl, i1, i2, g0, g1, odd⟩ := hx
    have hx : IsHandle s.n (hnd i g) i g := ⟨rfl, i1, i2, g0, g1, odd⟩
    have hgi := hG.gens i i2
    by_cases hgen : (s.slot i).gen = g
    · refine ⟨(s.slot i).a, (s.slot i).b, (s.slot i).c, (s.slot i).d, 0, s, hG.more, rfl, fun {w p sb pb nb L} h => ?_, fun {w T tb c r} hT hR hg hc => ?_⟩
      · refine (cPRead h i1 i2 hn g0 g1 odd hgen).mono ?_
        rintro e w' ⟨rfl, ht, h'⟩
        exact ⟨rfl, PDone.same h ht⟩
      · exact (cRRead hT hR hn (by omega) hg hx hgen).mono fun e x h => ⟨h.1, h.2.imp fun T' k => k.up (by omega)⟩
    · refine ⟨0, 0, 0, 0, 104, s.fault, hG.fault, rfl, fun {w p sb pb nb L} h => ?_, fun {w T tb c r} hT hR hg hc => ?_⟩
      · refine (cPReadGone h i1 i2 hn g0 g1 odd hgen hf.1 (by omega)).mono ?_
        rintro e w' ⟨rfl, ht, h'⟩
        exact ⟨rfl, PDone.of h (ht.mono (by simp [blocks])) h'⟩
      · exact (cRReadGone hT hR hn (by omega) hg hx hgen hf.1 (by omega)).mono fun e x h => ⟨h.1, h.2.imp fun T' k => k.up (by omega)⟩
theorem bothBack (hG : Good s it) (hit : it ≤ 1000) (x y : Int) : ∃ (z : Int) (s' : PSt), Good s' (it + 1) ∧ s'.n = s.n ∧ (∀ {w : World} {p sb pb nb : Nat} {L : Nat → Nat}, PA w p sb pb nb L s → Calls Tryz.prog 32 #[.pointer (some ⟨p, 0, none⟩), .pointer none, .int .i64 x, .int .i64 y] w fun e w' => e = .returned (.int .i64 z) ∧ PDone w p sb pb nb L s s' w') ∧
    (∀ {w : World} {T : List Nat} {tb c : Nat} {r : RB}, Th T w tb r.m c → RP w r s → r.g ∉ T → c ≤ 1000 → Calls Tryz.prog 33 #[.pointer (some ⟨r.q, 0, none⟩), .pointer (some ⟨tb, 0, none⟩), .int .i64 x, .int .i64 y] w fun e w' => e = .returned (.int .i64 z) ∧ ∃ T', RGo r T w tb (c + 20) s' T' w') := by
  have hn := hG.ok.n2
  have hf := hG.faults
  by_cases hb : x < 1 ∨ s.n < x ∨ y < 0 ∨ y % 2 = 1
  · refine ⟨103, s, hG.more, rfl, fun {w p sb pb nb L} h => ?_, fun {w T tb c r} hT hR hg hc => ?_⟩
    · refine (cPBackBad h hb).mono ?_
      rintro e w' ⟨rfl, rfl⟩
      exact ⟨rfl, PDone.same h (Turned.refl _ _)⟩
    · exact (cRBackBad hT hR (by omega) hg hb).mono fun e x h => ⟨h.1, h.2.imp fun T' k => k.up (by omega)⟩
  · obtain ⟨i, rfl⟩ : ∃ i : Nat, x = i := ⟨x.toNat, by omega⟩
    have i1 : 1 ≤ i := by omega
    have i2 : i ≤ s.n := by omega
    have y0 : 0 ≤ y := by omega
    have y1 : y % 2 = 0 := by omega
    have hgi := hG.gens i i2
    by_cases hgen : (s.slot i).gen = y
    · refine ⟨0, s.back i, hG.back i2, rfl, fun {w p sb pb nb L} h => ?_, fun {w T tb c r} hT hR hg hc => ?_⟩
      · refine (cPBack h hG.ok i1 i2 y0 y1 (by omega) hgen).mono ?_
        rintro e w' ⟨rfl, ht, b', hb', h'⟩
        exact ⟨rfl, PDone.lead ht hb' h'⟩
      · exact (cRBack hT hR hn (by omega) hg hG.ok i1 i2 y0 y1 (by omega) hgen).mono fun e x h => ⟨h.1, h.2.imp fun T' k => k.up (by omega)⟩
    · refine ⟨104, s, hG.more, rfl, fun {w p sb pb nb L} h => ?_, fun {w T tb c r} hT hR hg hc => ?_⟩
      · refine (cPBackGone h i1 i2 y0 y1 hgen).mono ?_
        rintro e w' ⟨rfl, rfl⟩
        exact ⟨rfl, PDone.same h (Turned.refl _ _).drew⟩
      · exact (cRBackGone hT hR hn (by omega) hg i1 i2 y0 y1 hgen).mono fun e x h => ⟨h.1, h.2.imp fun T' k => k.up (by omega)⟩
theorem bothTake (hG : Good s it) (hit : it ≤ 1000) (a b c d link : Int) : ∃ (v z : Int) (s' : PSt), Good s' (it + 1) ∧ s'.n = s.n ∧ (∀ {w : World} {p sb pb nb : Nat} {L : Nat → Nat}, PA w p sb pb nb L s → Calls Tryz.prog 12 #[.pointer (some ⟨p, 0, none⟩), .pointer none, .agg #[.int .i64 a, .int .i64 b, .int .i64 c, .int .i64 d], .int .i64 link] w fun e w' => e = .returned (.tuple #[.int .i64 v, .int .i64 z]) ∧ PDone w p sb pb nb L s s' w') ∧
    (∀ {w : World} {T : List Nat} {tb cc : Nat} {r : RB}, Th T w tb r.m cc → RP w r s → r.g ∉ T → cc ≤ 1000 → Calls Tryz.prog 20 #[.pointer (some ⟨r.q, 0, none⟩), .pointer (some ⟨tb, 0, none⟩), .agg #[.int .i64 a, .int .i64 b, .int .i64 c, .int .i64 d], .int .i64 link] w fun e w' => e = .returned (.tuple #[.int .i64 v, .int .i64 z]) ∧ ∃ T', RGo r T w tb (cc + 20) s' T' w') := by
  have hn := hG.ok.n2
  have hf := hG.faults
  have hp := idx_nat hG.ok.h0
  have htop := hG.ok.top
  obtain ⟨i, hi⟩ : ∃ i : Nat, idxV s.h = i := ⟨(idxV s.h).toNat, by omega⟩
  by_cases h0 : i = 0
  · refine ⟨0, 102, s, hG.more, rfl, fun {w p sb pb nb L} h => ?_, fun {w T tb cc r} hT hR hg hc => ?_⟩
    · refine (cPTakeFull h (by omega) a b c d link).mono ?_
      rintro e w' ⟨rfl, ht, h'⟩
      exact ⟨rfl, PDone.same h ht⟩
    · exact (cRTakeFull hT hR (by omega) hg (by omega) a b c d link).mono fun e x h => ⟨h.1, h.2.imp fun T' k => k.up (by omega)⟩
  · have i2 : i ≤ s.n := by omega
    have hgi := hG.gens i i2
    refine ⟨hnd i ((s.slot i).gen + 1), 0, s.take i a b c d link, hG.take i2 a b c d link, rfl, fun {w p sb pb nb L} h => ?_, fun {w T tb cc r} hT hR hg hc => ?_⟩
    · refine (cPTake h hG.ok hi h0 hgi.1 (by omega) a b c d link).mono ?_
      rintro e w' ⟨rfl, ht, b', hb', h'⟩
      exact ⟨rfl, PDone.lead ht hb' h'⟩
    · exact (cRTake hT hR hn (by omega) hg hG.ok hi h0 hgi.1 (by omega) a b c d link).mono fun e x h => ⟨h.1, h.2.imp fun T' k => k.up (by omega)⟩
end
end Go.Proofs.YtjbhnpofdafmbaaGreatDoor

/- Single operations, run; a call as one operation of a region. -/
import Derived.Test.YtaalohcldoakoaaGreatDoorJ09
import Derived.Conc.MuLone
import Derived.Test.YtaalohcldoakoaaGreatDoorJ12
namespace Go.Proofs.YtaalohcldoakoaaGreatDoor
open Go.RowKit
def pv (b k : Nat) : Value := .pointer (some ⟨b, k, none⟩)
section
variable {P : Program} {o : Oper} {a : Act} {w w' : World} {K : Act → World → Prop} {Q : Exit → Act → World → Prop} {d : Option Nat}
theorem l_call {f : FuncId} {fn : Func} {c : Code} {args : Array Operand} {tys : Array TypeId} {xs : Array Value} {v : Value} (hd : o.dst = d) (h : o.op = .call { callee := .value (.func f), args := args, argTypes := tys }) (hx : args.map a.eval = xs)
    (hf : P.funcs[f]? = some fn) (hname : (fn.name == "runtime.NumGoroutine") = false) (hb : fn.body = some c) (hc : Calls P f xs w fun e w'' => e = .returned v ∧ w'' = w') (hK : K (a.put d v) w') : o.wp P a w K Q := by
  have hr : (execOp a.eval o).run P w = .ok (.enter f xs) w := by
    simp [execOp, h, resolve, invoke, hx, Deferred.ofValue, Go.MuLone.run_callFunc_enter hf hname hb, Act.eval]
  unfold Oper.wp
  rw [hr, Oper.upon_enter]
  refine hc.mono ?_
  rintro e w'' ⟨rfl, rfl⟩
  rw [hd]
  exact hK
end
section
variable {P : Program} {ρ : Operand → Value} {o : Oper} {w w' : World} {v : Value}
theorem x_field {t : TypeId} {x : Operand} {k : Nat} (h : o.op = .fieldAddr t x k) (hr : (Instr.fieldAt t (ρ x) k).run P w = .ok v w') : (execOp ρ o).run P w = .ok (.value v) w' := by simp [execOp, h, hr, Result.andThen]
theorem x_index {t : TypeId} {x y : Operand} (h : o.op = .indexAddr t x y) (hr : (Instr.indexAt t (ρ x) (ρ y)).run P w = .ok v w') : (execOp ρ o).run P w = .ok (.value v) w' := by simp [execOp, h, hr, Result.andThen]
theorem x_build {t : TypeId} {ps : Array (Nat × Operand)} {qs : Array (Nat × Value)} (h : o.op = .build t ps) (hq : ps.map (fun (i, x) => (i, ρ x)) = qs) (hr : (Instr.build t qs).run P w = .ok v w') : (execOp ρ o).run P w = .ok (.value v) w' := by
  subst hq
  simp [execOp, h, hr, Result.andThen]
theorem x_bin {op : BinOp} {t u : TypeId} {x y : Operand} {a b : Value} (h : o.op = .binOp op t x y u) (hx : ρ x = a) (hy : ρ y = b) (hg : (eqGuard op t x y a b).run P w = .ok () w) (hr : (binOp op t a b).run P w = .ok v w') : (execOp ρ o).run P w = .ok (.value v) w' := by
  simp [execOp, h, hx, hy, hg, hr, Result.andThen]
end
theorem ty_is {ops : Array Oper} {i : Nat} {o : Oper} {t : TypeId} (h : (ops[i]?).map (fun o : Oper => o.type) = some t) (ho : ops[i]? = some o) : o.type = t := by rw [ho] at h; simpa using h
section
variable {P : Program} {ρ : Operand → Value} {o : Oper} {w w' : World} {v : Value}
theorem x_bslice {t : TypeId} {len : Nat} {ps : Array (Nat × Operand)} {qs : Array (Nat × Value)} (h : o.op = .buildSlice t len ps) (hq : ps.map (fun (i, x) => (i, ρ x)) = qs) (hr : (Instr.buildSlice t len qs).run P w = .ok v w') : (execOp ρ o).run P w = .ok (.value v) w' := by
  subst hq
  simp [execOp, h, hr, Result.andThen]
theorem x_append {s x : Operand} {t ty : TypeId} {a b : Value} (h : o.op = .call { callee := .builtin .append, args := #[s, x], argTypes := #[t, t] }) (hty : o.type = ty) (hs : ρ s = a) (hx : ρ x = b) (hr : (Builtin.append_ #[t, t] ty #[a, b]).run P w = .ok v w') : (execOp ρ o).run P w = .ok (.value v) w' := by
  subst hty
  simp only [execOp, h, resolve, invoke, builtin, Sem.run_bind, Sem.run_pure, Result.andThen_ok, List.map_toArray, List.map_cons, List.map_nil, hs, hx, hr]
end
theorem ev_same {a a' : Act} {s : Nat} (h : a'.tmps[s]? = a.tmps[s]?) : a'.eval (.tmp s) = a.eval (.tmp s) := by
  simp only [Act.eval, Array.getD_eq_getD_getElem?, h]
theorem not_low {D : List (Option Nat)} {s n : Nat} (hs : s < n) (h : D.all (fun d => match d with | none => true | some x => decide (n ≤ x)) = true) : some s ∉ D := fun hm => by
  have := List.all_eq_true.1 h _ hm
  simp at this
  omega
end Go.Proofs.YtaalohcldoakoaaGreatDoor
/- Package pool's lives, by contract; a call as one operation of a region. -/
namespace Go.Proofs.YtaalohcldoakoaaGreatDoor
open Go.RowKit
abbrev nodeObj (a b c d : Int) : Obj := .cells #[.int .i64 a, .int .i64 b, .int .i64 c, .int .i64 d] 43 (0, 0)
/-- What newLife leaves. -/
def lifeW (w : World) (gen a b c d mark link : Int) : World := (w.alloc (nodeObj a b c d)).alloc (lifeObj ⟨gen, mark, link, a, b, c, d⟩)
theorem cNewLife (w : World) (gen a b c d mark link : Int) : Calls Tryz.prog 60 #[.int .i64 gen, .agg #[.int .i64 a, .int .i64 b, .int .i64 c, .int .i64 d], .int .i64 mark, .int .i64 link] w fun e w' => e = .returned (.pointer (some ⟨w.heap.size + 1, 0, none⟩)) ∧ w' = lifeW w gen a b c d mark link := by
  go_enter Tryz.func60, Tryz.ntmps60
  go_wp2_with (go_at_call 106; refine (cAStoreE (by go_simp) (by go_simp)).mono ?_; rintro e w' ⟨rfl, rfl⟩)
  go_ret
  exact ⟨by simp, rfl⟩
theorem cGiven (w : World) (gen : Int) : Calls Tryz.prog 63 #[.int .i64 gen] w fun e w' => e = .returned (.pointer (some ⟨w.heap.size + 1, 0, none⟩)) ∧ w' = lifeW w gen (-7777777) (-7777777) (-7777777) (-7777777) (-7777777) (-7777777) := by
  have HN := cNewLife w gen (-7777777) (-7777777) (-7777777) (-7777777) (-7777777) (-7777777)
  go_enter Tryz.func63, Tryz.ntmps63
  go_wp2_with (go_at_call 60; refine HN.mono ?_; rintro e w' ⟨rfl, hw⟩; obtain rfl := hw.symm)
  go_ret
  exact ⟨rfl, rfl⟩
theorem lifeW_size (w : World) (gen a b c d mark link : Int) : (lifeW w gen a b c d mark link).heap.size = w.heap.size + 2 := by simp [lifeW]
theorem lifeW_new (w : World) (gen a b c d mark link : Int) : (lifeW w gen a b c d mark link).heap[w.heap.size + 1]? = some (lifeObj ⟨gen, mark, link, a, b, c, d⟩) := by
  have h := blk_new (w.alloc (nodeObj a b c d)) (lifeObj ⟨gen, mark, link, a, b, c, d⟩)
  rwa [show (w.alloc (nodeObj a b c d)).heap.size = w.heap.size + 1 from by simp] at h
theorem lifeW_turned (l : List Nat) (w : World) (gen a b c d mark link : Int) : Turned l w (lifeW w gen a b c d mark link) := ((Turned.refl _ _).alloc _).alloc _
theorem lifeW_old {w : World} {r : Nat} {o : Obj} (h : w.heap[r]? = some o) (gen a b c d mark link : Int) : (lifeW w gen a b c d mark link).heap[r]? = some o := (lifeW_turned [] w gen a b c d mark link).heap h (by simp)
end Go.Proofs.YtaalohcldoakoaaGreatDoor
/- Package pool's calls on a handle, alone, by contract. -/
namespace Go.Proofs.YtaalohcldoakoaaGreatDoor
open Go.RowKit
section
variable {w : World} {p sb pb nb : Nat} {L : Nat → Nat} {s : PSt} {i : Nat} {g : Int}
theorem cHas (h : PA w p sb pb nb L s) (h1 : 1 ≤ i) (h2 : i ≤ s.n) : Calls Tryz.prog 89 #[.pointer (some ⟨p, 0, none⟩), .int .i64 i] w fun e w' => e = .returned (.bool true) ∧ w' = w := by
  have c0 := cell_at h.pool 0
  simp at c0
  have d1 : decide (1 ≤ (i : Int)) = true := decide_eq_true (by omega)
  have d2 : decide ((i : Int) < (s.n : Int) + 1) = true := decide_eq_true (by omega)
  go_enter Tryz.func89, Tryz.ntmps89
  go_wp2
  go_ret
  exact ⟨rfl, rfl⟩
theorem cHasNot {x : Int} (h : PA w p sb pb nb L s) (hb : x < 1 ∨ s.n < x) : Calls Tryz.prog 89 #[.pointer (some ⟨p, 0, none⟩), .int .i64 x] w fun e w' => e = .returned (.bool false) ∧ w' = w := by
  have c0 := cell_at h.pool 0
  simp at c0
  rcases (by omega : x < 1 ∨ (1 ≤ x ∧ s.n < x)) with h1 | ⟨h1, h2⟩
  · have d1 : decide (1 ≤ x) = false := decide_eq_false (by omega)
    go_enter Tryz.func89, Tryz.ntmps89
    go_wp2
    go_ret
    exact ⟨rfl, rfl⟩
  · have d1 : decide (1 ≤ x) = true := decide_eq_true (by omega)
    have d2 : decide (x < (s.n : Int) + 1) = false := decide_eq_false (by omega)
    go_enter Tryz.func89, Tryz.ntmps89
    go_wp2
    go_ret
    exact ⟨rfl, rfl⟩
theorem cSlot (h : PA w p sb pb nb L s) (h1 : 1 ≤ i) (h2 : i ≤ s.n) (hn : s.n ≤ 4096) (g0 : 0 ≤ g) (g1 : g ≤ 1099511627775) (g2 : g % 2 = 1) :
    Calls Tryz.prog 62 #[.pointer (some ⟨p, 0, none⟩), .int .i64 (hnd i g)] w fun e w' => e = .returned (.tuple #[.int .i64 i, .int .i64 g, .int .i64 0]) ∧ w' = w := by
  have HI := cIndex (hnd i g) w
  have HG := cTag (hnd i g) w
  rw [hnd_idx (by omega) g0 (by omega)] at HI
  rw [hnd_tag (by omega) g0 (by omega)] at HG
  have HH := cHas h h1 h2
  have d3 : (g % 2 == 0) = false := by simp; omega
  go_enter Tryz.func62, Tryz.ntmps62
  go_wp2_with (first
    | (go_at_call 109; refine HI.mono ?_; rintro e w' ⟨rfl, hw⟩; obtain rfl := hw.symm)
    | (go_at_call 114; refine HG.mono ?_; rintro e w' ⟨rfl, hw⟩; obtain rfl := hw.symm)
    | (go_at_call 89; refine HH.mono ?_; rintro e w' ⟨rfl, hw⟩; obtain rfl := hw.symm))
  refine bodyPost_ret (v := .tuple #[.int .i64 i, .int .i64 g, .int .i64 0]) (by simp [results, Tryz.results62, go_sem]) rfl ⟨rfl, rfl⟩
theorem cSlotBad {x : Int} (h : PA w p sb pb nb L s) (hb : idxV x < 1 ∨ s.n < idxV x ∨ tagV x % 2 = 0) :
    Calls Tryz.prog 62 #[.pointer (some ⟨p, 0, none⟩), .int .i64 x] w fun e w' => e = .returned (.tuple #[.int .i64 0, .int .i64 0, .int .i64 103]) ∧ w' = w := by
  have HI := cIndex x w
  have HG := cTag x w
  have ht0 : 0 ≤ tagV x := by unfold tagV; split <;> omega
  generalize idxV x = ix at *
  generalize tagV x = tx at *
  rcases (by omega : (ix < 1 ∨ s.n < ix) ∨ (1 ≤ ix ∧ ix ≤ s.n ∧ tx % 2 = 0)) with h1 | ⟨h1, h2, h3⟩
  · have HH := cHasNot h h1
    go_enter Tryz.func62, Tryz.ntmps62
    go_wp2_with (first
      | (go_at_call 109; refine HI.mono ?_; rintro e w' ⟨rfl, hw⟩; obtain rfl := hw.symm)
      | (go_at_call 114; refine HG.mono ?_; rintro e w' ⟨rfl, hw⟩; obtain rfl := hw.symm)
      | (go_at_call 89; refine HH.mono ?_; rintro e w' ⟨rfl, hw⟩; obtain rfl := hw.symm))
    refine bodyPost_ret (v := .tuple #[.int .i64 0, .int .i64 0, .int .i64 103]) (by simp [results, Tryz.results62, go_sem]) rfl ⟨rfl, rfl⟩
  · obtain ⟨i, rfl⟩ : ∃ i : Nat, ix = i := ⟨ix.toNat, by omega⟩
    have HH := cHas h (i := i) (by omega) (by omega)
    have d3 : (tx % 2 == 0) = true := by simp [h3]
    go_enter Tryz.func62, Tryz.ntmps62
    go_wp2_with (first
      | (go_at_call 109; refine HI.mono ?_; rintro e w' ⟨rfl, hw⟩; obtain rfl := hw.symm)
      | (go_at_call 114; refine HG.mono ?_; rintro e w' ⟨rfl, hw⟩; obtain rfl := hw.symm)
      | (go_at_call 89; refine HH.mono ?_; rintro e w' ⟨rfl, hw⟩; obtain rfl := hw.symm))
    refine bodyPost_ret (v := .tuple #[.int .i64 0, .int .i64 0, .int .i64 103]) (by simp [results, Tryz.results62, go_sem]) rfl ⟨rfl, rfl⟩
theorem cMeet (h : PA w p sb pb nb L s) (h1 : 1 ≤ i) (h2 : i ≤ s.n) (hn : s.n ≤ 4096) (g0 : 0 ≤ g) (g1 : g ≤ 1099511627775) (g2 : g % 2 = 1) (hg : (s.slot i).gen = g) :
    Calls Tryz.prog 66 #[.pointer (some ⟨p, 0, none⟩), .pointer none, .int .i64 (hnd i g)] w fun e w' => e = .returned (.tuple #[.pointer (some ⟨L i, 0, none⟩), .int .i64 0]) ∧ w' = w := by
  have HS := cSlot h h1 h2 hn g0 g1 g2
  have c0 := cell_at h.pool 0
  simp at c0
  have hlt : (i : Int) < (s.n : Int) + 1 := by omega
  have HL := cPLoad (ptr_cell h.slots h2) (h.life i h2) rfl
  have l0 := cell_at (h.life i h2) 0
  simp at l0
  rw [hg] at l0
  go_enter Tryz.func66, Tryz.ntmps66
  go_wp2_with (first
    | (go_at_call 62; refine HS.mono ?_; rintro e w' ⟨rfl, hw⟩; obtain rfl := hw.symm)
    | (go_at_call 61; refine (cStep _).mono ?_; rintro e w' ⟨rfl, hw⟩; obtain rfl := hw.symm)
    | (go_at_call 58; refine HL.mono ?_; rintro e w' ⟨rfl, hw⟩; obtain rfl := hw.symm))
  go_ret2
  exact ⟨rfl, rfl⟩
theorem cMeetGone (h : PA w p sb pb nb L s) (h1 : 1 ≤ i) (h2 : i ≤ s.n) (hn : s.n ≤ 4096) (g0 : 0 ≤ g) (g1 : g ≤ 1099511627775) (g2 : g % 2 = 1) (hg : (s.slot i).gen ≠ g) (hf0 : 0 ≤ s.faults) (hf1 : s.faults ≤ 1000000) :
    Calls Tryz.prog 66 #[.pointer (some ⟨p, 0, none⟩), .pointer none, .int .i64 (hnd i g)] w fun e w' => e = .returned (.tuple #[.pointer none, .int .i64 104]) ∧ w' = w.setCell ⟨p, 2, none⟩ (.int .i64 (s.faults + 1)) := by
  have HS := cSlot h h1 h2 hn g0 g1 g2
  have c0 := cell_at h.pool 0
  have c2 := cell_at h.pool 2
  have z2 := froz_at h.pool 2
  simp at c0 c2
  have hlt : (i : Int) < (s.n : Int) + 1 := by omega
  have HL := cPLoad (ptr_cell h.slots h2) (h.life i h2) rfl
  have l0 := cell_at (h.life i h2) 0
  simp at l0
  have hne : ((s.slot i).gen != g) = true := by simp [hg]
  go_enter Tryz.func66, Tryz.ntmps66
  go_wp2_with (first
    | (go_at_call 62; refine HS.mono ?_; rintro e w' ⟨rfl, hw⟩; obtain rfl := hw.symm)
    | (go_at_call 61; refine (cStep _).mono ?_; rintro e w' ⟨rfl, hw⟩; obtain rfl := hw.symm)
    | (go_at_call 58; refine HL.mono ?_; rintro e w' ⟨rfl, hw⟩; obtain rfl := hw.symm)
    | (go_at_call 115; refine (cAAdd c2 z2 (by omega) (by omega)).mono ?_; rintro e w' ⟨rfl, rfl⟩))
  go_ret2
  exact ⟨rfl, rfl⟩
theorem cMeetBad {x : Int} (h : PA w p sb pb nb L s) (hb : idxV x < 1 ∨ s.n < idxV x ∨ tagV x % 2 = 0) :
    Calls Tryz.prog 66 #[.pointer (some ⟨p, 0, none⟩), .pointer none, .int .i64 x] w fun e w' => e = .returned (.tuple #[.pointer none, .int .i64 103]) ∧ w' = w := by
  have HS := cSlotBad h hb
  go_enter Tryz.func66, Tryz.ntmps66
  go_wp2_with (first
    | (go_at_call 62; refine HS.mono ?_; rintro e w' ⟨rfl, hw⟩; obtain rfl := hw.symm)
    | (go_at_call 61; refine (cStep _).mono ?_; rintro e w' ⟨rfl, hw⟩; obtain rfl := hw.symm))
  go_ret2
  exact ⟨rfl, rfl⟩
set_option maxHeartbeats 800000 in
theorem cPMark (h : PA w p sb pb nb L s) (h1 : 1 ≤ i) (h2 : i ≤ s.n) (hn : s.n ≤ 4096) (g0 : 0 ≤ g) (g1 : g ≤ 1099511627775) (g2 : g % 2 = 1) (hg : (s.slot i).gen = g) :
    Calls Tryz.prog 23 #[.pointer (some ⟨p, 0, none⟩), .pointer none, .int .i64 (hnd i g)] w fun e w' => e = .returned (.tuple #[.int .i64 (s.slot i).mark, .int .i64 0]) ∧ w' = w := by
  have HM := cMeet h h1 h2 hn g0 g1 g2 hg
  have c5 := cell_at (h.life i h2) 5
  simp at c5
  go_enter Tryz.func23, Tryz.ntmps23
  go_wp2_with (first
    | (go_at_call 66; refine HM.mono ?_; rintro e w' ⟨rfl, hw⟩; obtain rfl := hw.symm)
    | (go_at_call 67; refine (cALoad c5).mono ?_; rintro e w' ⟨rfl, hw⟩; obtain rfl := hw.symm))
  go_ret2
  exact ⟨rfl, rfl⟩
set_option maxHeartbeats 800000 in
theorem cPCasMark (h : PA w p sb pb nb L s) (h1 : 1 ≤ i) (h2 : i ≤ s.n) (hn : s.n ≤ 4096) (g0 : 0 ≤ g) (g1 : g ≤ 1099511627775) (g2 : g % 2 = 1) (hg : (s.slot i).gen = g) (old v : Int) (hm : (s.slot i).mark = old) :
    Calls Tryz.prog 25 #[.pointer (some ⟨p, 0, none⟩), .pointer none, .int .i64 (hnd i g), .int .i64 old, .int .i64 v] w fun e w' => e = .returned (.tuple #[.bool true, .int .i64 0]) ∧ w' = w.setCell ⟨L i, 5, none⟩ (.int .i64 v) := by
  have HM := cMeet h h1 h2 hn g0 g1 g2 hg
  have c5 := cell_at (h.life i h2) 5
  have z5 := froz_at (h.life i h2) 5
  simp at c5
  rw [hm] at c5
  go_enter Tryz.func25, Tryz.ntmps25
  go_wp2_with (first
    | (go_at_call 66; refine HM.mono ?_; rintro e w' ⟨rfl, hw⟩; obtain rfl := hw.symm)
    | (go_at_call 83; refine (cACas c5 z5).mono ?_; rintro e w' ⟨rfl, rfl⟩))
  go_ret2
  exact ⟨rfl, rfl⟩
set_option maxHeartbeats 800000 in
theorem cPCasNot (h : PA w p sb pb nb L s) (h1 : 1 ≤ i) (h2 : i ≤ s.n) (hn : s.n ≤ 4096) (g0 : 0 ≤ g) (g1 : g ≤ 1099511627775) (g2 : g % 2 = 1) (hg : (s.slot i).gen = g) (old v : Int) (hm : ¬ (s.slot i).mark = old) :
    Calls Tryz.prog 25 #[.pointer (some ⟨p, 0, none⟩), .pointer none, .int .i64 (hnd i g), .int .i64 old, .int .i64 v] w fun e w' => e = .returned (.tuple #[.bool false, .int .i64 0]) ∧ w' = w := by
  have HM := cMeet h h1 h2 hn g0 g1 g2 hg
  have c5 := cell_at (h.life i h2) 5
  have z5 := froz_at (h.life i h2) 5
  simp at c5
  go_enter Tryz.func25, Tryz.ntmps25
  go_wp2_with (first
    | (go_at_call 66; refine HM.mono ?_; rintro e w' ⟨rfl, hw⟩; obtain rfl := hw.symm)
    | (go_at_call 83; refine (cACasMiss c5 z5 hm).mono ?_; rintro e w' ⟨rfl, rfl⟩))
  go_ret2
  exact ⟨rfl, rfl⟩
set_option maxHeartbeats 800000 in
theorem cPSwap (h : PA w p sb pb nb L s) (h1 : 1 ≤ i) (h2 : i ≤ s.n) (hn : s.n ≤ 4096) (g0 : 0 ≤ g) (g1 : g ≤ 1099511627775) (g2 : g % 2 = 1) (hg : (s.slot i).gen = g) (v : Int) :
    Calls Tryz.prog 29 #[.pointer (some ⟨p, 0, none⟩), .pointer none, .int .i64 (hnd i g), .int .i64 v] w fun e w' => e = .returned (.tuple #[.int .i64 (s.slot i).link, .int .i64 0]) ∧ w' = w.setCell ⟨L i, 6, none⟩ (.int .i64 v) := by
  have HM := cMeet h h1 h2 hn g0 g1 g2 hg
  have c6 := cell_at (h.life i h2) 6
  have z6 := froz_at (h.life i h2) 6
  simp at c6
  go_enter Tryz.func29, Tryz.ntmps29
  go_wp2_with (first
    | (go_at_call 66; refine HM.mono ?_; rintro e w' ⟨rfl, hw⟩; obtain rfl := hw.symm)
    | (go_at_call 84; refine (cASwap c6 z6).mono ?_; rintro e w' ⟨rfl, rfl⟩))
  go_ret2
  exact ⟨rfl, rfl⟩
set_option maxHeartbeats 800000 in
theorem cPFaults (h : PA w p sb pb nb L s) :
    Calls Tryz.prog 16 #[.pointer (some ⟨p, 0, none⟩)] w fun e w' => e = .returned (.int .i64 s.faults) ∧ w' = w := by
  have c2 := cell_at h.pool 2
  simp at c2
  go_enter Tryz.func16, Tryz.ntmps16
  go_wp2_with (first
    | (go_at_call 67; refine (cALoad c2).mono ?_; rintro e w' ⟨rfl, hw⟩; obtain rfl := hw.symm))
  go_ret
  exact ⟨rfl, rfl⟩
set_option maxHeartbeats 800000 in
theorem cPRead (h : PA w p sb pb nb L s) (h1 : 1 ≤ i) (h2 : i ≤ s.n) (hn : s.n ≤ 4096) (g0 : 0 ≤ g) (g1 : g ≤ 1099511627775) (g2 : g % 2 = 1) (hg : (s.slot i).gen = g) :
    Calls Tryz.prog 15 #[.pointer (some ⟨p, 0, none⟩), .pointer none, .int .i64 (hnd i g)] w fun e w' => e = .returned (.tuple #[.agg #[.int .i64 (s.slot i).a, .int .i64 (s.slot i).b, .int .i64 (s.slot i).c, .int .i64 (s.slot i).d], .int .i64 0]) ∧ Turned [] w w' ∧ PA w' p sb pb nb L s := by
  have hA : ∀ o, PA (w.alloc o) p sb pb nb L s := fun o => h.alloc o
  have hli := lt_of_heap (h.life i h2)
  have hne : ¬ L i = w.heap.size := by omega
  have n1 := cell_at (h.life i h2) 1
  have n2 := cell_at (h.life i h2) 2
  have n3 := cell_at (h.life i h2) 3
  have n4 := cell_at (h.life i h2) 4
  simp at n1 n2 n3 n4
  go_enter Tryz.func15, Tryz.ntmps15
  go_wp2_with (go_at_call 66; refine (cMeet (hA _) h1 h2 hn g0 g1 g2 hg).mono ?_; rintro e w' ⟨rfl, hw⟩; obtain rfl := hw.symm)
  refine bodyPost_ret (v := .tuple #[.agg #[.int .i64 (s.slot i).a, .int .i64 (s.slot i).b, .int .i64 (s.slot i).c, .int .i64 (s.slot i).d], .int .i64 0]) (by simp [results, Tryz.results15, go_sem]) rfl ⟨rfl, (Turned.refl _ _).alloc _, hA _⟩
set_option maxHeartbeats 800000 in
theorem cPReadGone (h : PA w p sb pb nb L s) (h1 : 1 ≤ i) (h2 : i ≤ s.n) (hn : s.n ≤ 4096) (g0 : 0 ≤ g) (g1 : g ≤ 1099511627775) (g2 : g % 2 = 1) (hg : (s.slot i).gen ≠ g) (hf0 : 0 ≤ s.faults) (hf1 : s.faults ≤ 1000000) :
    Calls Tryz.prog 15 #[.pointer (some ⟨p, 0, none⟩), .pointer none, .int .i64 (hnd i g)] w fun e w' => e = .returned (.tuple #[.agg #[.int .i64 0, .int .i64 0, .int .i64 0, .int .i64 0], .int .i64 104]) ∧ Turned [p] w w' ∧ PA w' p sb pb nb L s.fault := by
  have hA : ∀ o, PA (w.alloc o) p sb pb nb L s := fun o => h.alloc o
  have hpl := lt_of_heap h.pool
  have hne : ¬ p = w.heap.size := by omega
  have hne2 : ¬ w.heap.size = p := by omega
  go_enter Tryz.func15, Tryz.ntmps15
  go_wp2_with (go_at_call 66; refine (cMeetGone (hA _) h1 h2 hn g0 g1 g2 hg hf0 hf1).mono ?_; rintro e w' ⟨rfl, rfl⟩)
  refine bodyPost_ret (v := .tuple #[.agg #[.int .i64 0, .int .i64 0, .int .i64 0, .int .i64 0], .int .i64 104]) (by simp [results, Tryz.results15, go_sem]) rfl ⟨rfl, ((Turned.refl _ _).set (r := p) (.inl (by simp)) 2 _).alloc _, h.fault.alloc _⟩
set_option maxHeartbeats 800000 in
theorem cPReadBad {x : Int} (h : PA w p sb pb nb L s) (hb : idxV x < 1 ∨ s.n < idxV x ∨ tagV x % 2 = 0) :
    Calls Tryz.prog 15 #[.pointer (some ⟨p, 0, none⟩), .pointer none, .int .i64 x] w fun e w' => e = .returned (.tuple #[.agg #[.int .i64 0, .int .i64 0, .int .i64 0, .int .i64 0], .int .i64 103]) ∧ Turned [] w w' ∧ PA w' p sb pb nb L s := by
  have hA : ∀ o, PA (w.alloc o) p sb pb nb L s := fun o => h.alloc o
  go_enter Tryz.func15, Tryz.ntmps15
  go_wp2_with (go_at_call 66; refine (cMeetBad (hA _) hb).mono ?_; rintro e w' ⟨rfl, hw⟩; obtain rfl := hw.symm)
  refine bodyPost_ret (v := .tuple #[.agg #[.int .i64 0, .int .i64 0, .int .i64 0, .int .i64 0], .int .i64 103]) (by simp [results, Tryz.results15, go_sem]) rfl ⟨rfl, (Turned.refl _ _).alloc _, hA _⟩
theorem chain_from (f : Nat → Nat) : ∀ (St L : List Nat) (t i : Nat), Linked f i St → (L ++ St).Nodup → St.length ≤ t → chain f t i L = L ++ St
  | [], L, t, i, h, _, _ => by rw [chain_stop f t i L (.inl h)]; simp
  | x :: St, L, t, i, h, hn, ht => by
    obtain ⟨rfl, h2, h3⟩ := h
    cases t with
    | zero => simp at ht
    | succ t =>
      have hx : i ∉ L := fun hx => by
        have := (List.nodup_append.1 hn).2.2 i hx i (by simp)
        exact this rfl
      rw [chain_go f t i L h2 hx, chain_from f St (L ++ [i]) t (f i) h3 (by simpa using hn) (by simpa using ht)]
      simp
theorem chain_linked (f : Nat → Nat) {n i : Nat} {St : List Nat} (h : Linked f i St) (hn : St.Nodup) (hS : ∀ x, x ∈ St → 1 ≤ x ∧ x ≤ n) : chain f (n + 1) i [] = St := by
  have := few_places hn hS
  rw [chain_from f St [] (n + 1) i h (by simpa using hn) (by omega)]
  simp
set_option maxHeartbeats 800000 in
theorem cPFree (h : PA w p sb pb nb L s) (ho : s.Ok) {St : List Nat} (hL : Linked s.f (idxV s.h).toNat St) (hN : St.Nodup) (hS : ∀ x, x ∈ St → 1 ≤ x ∧ x ≤ s.n) :
    Calls Tryz.prog 34 #[.pointer (some ⟨p, 0, none⟩)] w fun e w' => (∃ a c, e = .returned (.slice a St.length c)) ∧ Turned [] w w' := by
  have c1 := cell_at h.pool 1
  simp at c1
  have ht := ho.top
  have hp := idx_nat ho.h0
  obtain ⟨i0, hi0⟩ : ∃ i0 : Nat, idxV s.h = i0 := ⟨(idxV s.h).toNat, by omega⟩
  have HP := cPlaces h.pile ho.n2 ho.low hi0 (by omega)
  rw [hi0, Int.toNat_natCast] at hL
  rw [chain_linked s.f (n := s.n) hL hN hS] at HP
  go_enter Tryz.func34, Tryz.ntmps34
  go_wp2_with (first
    | (go_at_call 91; refine HP.mono ?_; rintro e w' ⟨v, rfl, hT, hR⟩))
  go_ret
  obtain ⟨a, c, hv⟩ : ∃ a c, v = .slice a St.length c := by
    rcases hR.2 with ⟨rfl, h0⟩ | ⟨g, cap, cur, rfl, -⟩
    · exact ⟨none, 0, by rw [h0]⟩
    · exact ⟨_, _, rfl⟩
  exact ⟨⟨a, c, by rw [hv]; rfl⟩, hT⟩
end
end Go.Proofs.YtaalohcldoakoaaGreatDoor
/- A region each of whose operations has one value, in whatever order; two of them, A and then B, turn the world. -/
namespace Go.Proofs.YtaalohcldoakoaaGreatDoor
open Go.RowKit
/-- Operation i waits for operation j, straight or by others. -/
def reachB (ops : Array Oper) : Nat → Nat → Nat → Bool
  | 0, _, _ => false
  | f + 1, i, j => waitsB ops i j || (List.range ops.size).any fun k => waitsB ops i k && reachB ops f k j
section
variable {P : Program} {ops : Array Oper} {Q : Exit → Act → World → Prop}
theorem reach_on {l : Array Bool} (hc : ∀ i j, on l i = true → waitsB ops i j = true → on l j = true) : ∀ f i j, on l i = true → reachB ops f i j = true → on l j = true
  | 0, _, _, _, h => by cases h
  | f + 1, i, j, hi, h => by
    unfold reachB at h
    rw [Bool.or_eq_true, List.any_eq_true] at h
    rcases h with h | ⟨k, -, h⟩
    · exact hc i j hi h
    · rw [Bool.and_eq_true] at h
      exact reach_on hc f k j (hc i k hi h.1) h.2
theorem reach_on_ready {l : Array Bool} {i j : Nat} (hi : i ∈ Region.ready .any ops l) (hr : reachB ops ops.size i j = true) (hc : ∀ i j, on l i = true → waitsB ops i j = true → on l j = true) : on l j = true := by
  cases hz : ops.size with
  | zero => rw [hz] at hr; cases hr
  | succ f =>
    rw [hz] at hr
    unfold reachB at hr
    rw [Bool.or_eq_true, List.any_eq_true] at hr
    rcases hr with h | ⟨k, -, h⟩
    · exact dep_of hi (waits_map h)
    · rw [Bool.and_eq_true] at h
      exact reach_on hc f k j (dep_of hi (waits_map h.1)) h.2
/-- In which worlds operation i may come up, and what it leaves. -/
def Legal (ops : Array Oper) (A B : Nat) (w0 w1 w2 : World) (i : Nat) (w w' : World) : Prop :=
  (i = A ∧ w = w0 ∧ w' = w1) ∨ (i = B ∧ w = w1 ∧ w' = w2) ∨ (i ≠ A ∧ i ≠ B ∧ w' = w ∧ (w = w0 ∨ (reachB ops ops.size A i = false ∧ w = w1) ∨ (reachB ops ops.size A i = false ∧ reachB ops ops.size B i = false ∧ w = w2)))
def Yields2 (P : Program) (ops : Array Oper) (D : List (Option Nat)) (val : Nat → Value) (a0 : Act) (A B : Nat) (w0 w1 w2 : World) (Q : Exit → Act → World → Prop) (i : Nat) : Prop :=
  ∀ (o : Oper) (a : Act) (w w' : World) (K : Act → World → Prop), ops[i]? = some o → o.dst = D.getD i none → a.tmps.size = a0.tmps.size → (∀ s, some s ∉ D → a.eval (.tmp s) = a0.eval (.tmp s)) → (∀ j d, D.getD j none = some d → waitsB ops i j = true → a.eval (.tmp d) = val j) → Legal ops A B w0 w1 w2 i w w' → K (a.put (D.getD i none) (val i)) w' → o.wp P a w K Q
structure ITwo (ops : Array Oper) (D : List (Option Nat)) (val : Nat → Value) (a0 : Act) (A B : Nat) (w0 w1 w2 : World) (l : Array Bool) (a : Act) (w : World) : Prop where
  size : l.size = D.length
  tsize : a.tmps.size = a0.tmps.size
  defers : a.defers = a0.defers
  off : ∀ s, some s ∉ D → a.tmps[s]? = a0.tmps[s]?
  val : ∀ i d, D.getD i none = some d → on l i = true → a.eval (.tmp d) = val i
  closed : ∀ i j, on l i = true → waitsB ops i j = true → on l j = true
  w : w = if on l B then w2 else if on l A then w1 else w0
theorem wp_region_two {id : Nat} {a0 : Act} {w w1 w2 : World} (hm : P.follows .mixedOrders = true) (D : List (Option Nat)) (val : Nat → Value) (hok : regOk ops D a0.tmps.size = true) (A B : Nat) (hA : A < D.length) (hB : B < D.length) (hAB : A ≠ B) (hBA : reachB ops ops.size B A = true)
    (hg : ∀ (i g : Nat) (b : Bool), (ops[i]?).bind (fun o : Oper => o.guard) = some (g, b) → val g = .bool b)
    (hstep : ∀ i, i < D.length → Yields2 P ops D val a0 A B w.drew w1 w2 Q i)
    (hend : ∀ a', a'.tmps.size = a0.tmps.size → a'.defers = a0.defers → (∀ s, some s ∉ D → a'.tmps[s]? = a0.tmps[s]?) → (∀ i d, D.getD i none = some d → a'.eval (.tmp d) = val i) → Q .normal a' w2) :
    (Code.region id ops true).wp P Q a0 w := by
  have hn : ops.size = D.length := by
    unfold regOk at hok
    simp only [Bool.and_eq_true, beq_iff_eq] at hok
    exact hok.1
  have mem : ∀ s i, D.getD i none = some s → some s ∈ D := fun s i e => by
    have hi : i < D.length := by
      apply Classical.byContradiction
      intro h
      rw [List.getD_eq_getElem?_getD, List.getElem?_eq_none (by omega)] at e
      cases e
    rw [List.getD_eq_getElem?_getD, List.getElem?_eq_getElem hi] at e
    have := List.getElem_mem hi
    rw [show D[i] = some s from e] at this
    exact this
  have lt : ∀ i d, D.getD i none = some d → i < D.length := fun i d e => by
    apply Classical.byContradiction
    intro h
    rw [List.getD_eq_getElem?_getD, List.getElem?_eq_none (by omega)] at e
    cases e
  have hoff : ∀ i, on (Array.replicate ops.size false) i = false := fun i => by
    simp only [on, Array.getD_eq_getD_getElem?, Array.getElem?_replicate]
    split <;> rfl
  refine wp_region_inv hm (fun i o ho => (reg_at hok ho).2.2.1) (ITwo ops D val a0 A B w.drew w1 w2) (fun l a w h => by rw [hn]; exact h.size) ?_ ?_ ?_
  · exact ⟨by simp [hn], rfl, rfl, fun _ _ => rfl, fun i d _ hh => (by rw [hoff] at hh; cases hh), fun i j hh => (by rw [hoff] at hh; cases hh), by rw [hoff, hoff]; rfl⟩
  · intro l a w' h i hi
    obtain ⟨hu, o, ho, hall⟩ := mem_ready.1 hi
    obtain ⟨r1, r2, r3, r4, r5, r6⟩ := reg_at hok ho
    have hoi : on l i = false := by simp only [on]; simp [Array.getD, h.size, r1] at hu ⊢; exact hu
    have hset : ∀ j, on (l.setIfInBounds i true) j = if i = j then true else on l j := fun j => on_set i j (by rw [h.size]; exact r1)
    have hBon : on l B = true → on l A = true := fun hb => reach_on h.closed ops.size B A hb hBA
    have hdep : ∀ j d, D.getD j none = some d → waitsB ops i j = true → a.eval (.tmp d) = val j := fun j d hjd hh => h.val j d hjd (dep_of hi (waits_map hh))
    have legal : Legal ops A B w.drew w1 w2 i w' (if on (l.setIfInBounds i true) B then w2 else if on (l.setIfInBounds i true) A then w1 else w.drew) := by
      rw [hset, hset, h.w]
      by_cases eA : i = A
      · subst eA
        have hb : on l B = false := by
          cases hx : on l B with
          | false => rfl
          | true => rw [hBon hx] at hoi; cases hoi
        rw [hb, hoi, if_neg hAB, if_pos rfl]
        exact .inl ⟨rfl, rfl, rfl⟩
      · by_cases eB : i = B
        · subst eB
          have ha : on l A = true := reach_on_ready hi hBA h.closed
          exact .inr (.inl ⟨rfl, by simp [hoi, ha], by simp⟩)
        · rw [if_neg eB, if_neg eA]
          refine .inr (.inr ⟨eA, eB, rfl, ?_⟩)
          have nA : on l A = true → reachB ops ops.size A i = false := fun ha => by
            cases hr : reachB ops ops.size A i with
            | false => rfl
            | true => rw [reach_on h.closed ops.size A i ha hr] at hoi; cases hoi
          have nB : on l B = true → reachB ops ops.size B i = false := fun hb => by
            cases hr : reachB ops ops.size B i with
            | false => rfl
            | true => rw [reach_on h.closed ops.size B i hb hr] at hoi; cases hoi
          cases hb : on l B with
          | true => exact .inr (.inr ⟨nA (hBon hb), nB hb, rfl⟩)
          | false =>
            cases ha : on l A with
            | true => exact .inr (.inl ⟨nA ha, rfl⟩)
            | false => exact .inl rfl
    unfold wpOp
    simp only [ho]
    have hwant : Region.wanted o (yielded ops a.tmps) = true := by
      cases hgd : o.guard with
      | none => simp [Region.wanted, hgd]
      | some gb =>
        obtain ⟨g, b⟩ := gb
        obtain ⟨h1, h3, h4⟩ := r6 g b hgd
        have h2 := hg i g b (by rw [ho]; exact hgd)
        obtain ⟨d, hgD⟩ := Option.isSome_iff_exists.1 h4
        have hv := hdep g d hgD h3
        rw [h2] at hv
        have hgo : ∃ og, ops[g]? = some og := ⟨ops[g]'(by omega), Array.getElem?_eq_getElem (by omega)⟩
        obtain ⟨og, hog⟩ := hgo
        have hy : yielded ops a.tmps g = some b := by
          unfold yielded
          rw [hog]
          simp only [Option.bind_some, (reg_at hok hog).2.1, hgD]
          have hlt : d < a.tmps.size := by rw [h.tsize]; exact (reg_at hok hog).2.2.2.1 d hgD
          simp only [Act.eval, Array.getD, hlt, dite_true] at hv
          rw [Array.getElem?_eq_getElem hlt]
          have : a.tmps[d] = .bool b := hv
          rw [this]
        simp [Region.wanted, hgd, hy]
    rw [if_pos hwant]
    refine .inl (hstep i r1 o a w' _ _ ho r2 h.tsize (fun s hs => ?_) hdep legal ?_)
    · simp only [Act.eval, Array.getD_eq_getD_getElem?, h.off s hs]
    · have hputs : (a.put (D.getD i none) (val i)).tmps.size = a0.tmps.size := by
        cases hD : D.getD i none <;> simp [Act.put, h.tsize]
      have hputd : (a.put (D.getD i none) (val i)).defers = a0.defers := by
        cases hD : D.getD i none <;> simp [Act.put, h.defers]
      refine ⟨by simp [h.size], hputs, hputd, fun s hs => ?_, fun j d hjd hh => ?_, fun x y hx hy => ?_, rfl⟩
      · cases hD : D.getD i none with
        | none => exact h.off s hs
        | some d =>
          have : d ≠ s := fun e => hs (mem s i (by rw [hD, e]))
          simp only [Act.put, Array.getElem?_setIfInBounds, this, if_false]
          exact h.off s hs
      · rw [hset] at hh
        cases hD : D.getD i none with
        | none =>
          have hne : i ≠ j := fun e => by subst e; rw [hD] at hjd; cases hjd
          rw [if_neg hne] at hh
          exact h.val j d hjd hh
        | some d' =>
          rw [ev_put _ _ _ (by rw [h.tsize]; exact r4 d' hD)]
          by_cases e : i = j
          · subst e
            rw [hD] at hjd
            cases hjd
            simp
          · rw [if_neg e] at hh
            rw [if_neg (fun e2 => e (r5 j d (lt j d hjd) (by rw [hD, e2]) hjd))]
            exact h.val j d hjd hh
      · rw [hset] at hx ⊢
        by_cases e2 : i = y
        · rw [if_pos e2]
        · rw [if_neg e2]
          by_cases e1 : i = x
          · subst e1
            exact dep_of hi (waits_map hy)
          · rw [if_neg e1] at hx
            exact h.closed x y hx hy
  · intro l a w' h hall
    have hal : ∀ i, i < D.length → on l i = true := fun i hi => by
      have := hall i (by rw [hn]; exact hi)
      simp only [on, Array.getD, h.size, hi, dite_true] at this ⊢
      exact this
    have hw := h.w
    rw [hal B hB] at hw
    simp only [if_true] at hw
    subst hw
    exact hend a h.tsize h.defers h.off fun i d hD => h.val i d hD (hal i (lt i d hD))
end
end Go.Proofs.YtaalohcldoakoaaGreatDoor
/- What is told of a slot, by contract. -/
namespace Go.Proofs.YtaalohcldoakoaaGreatDoor
open Go.RowKit
section
variable {w : World} {b : Nat} {S : Slot}
abbrev toldC (S : Slot) : Array Value := #[.int .i64 S.gen, .int .i64 S.a, .int .i64 S.b, .int .i64 S.c, .int .i64 S.d, .int .i64 S.mark, .int .i64 S.link]
abbrev toldV (S : Slot) : Value := .agg (toldC S)
def nodeV (S : Slot) : Value := .agg #[.int .i64 S.a, .int .i64 S.b, .int .i64 S.c, .int .i64 S.d]
theorem run_lifeField (w : World) (b : Nat) : (Instr.fieldAt 107 (pv b 0) 0).run Tryz.prog w = .ok (pv b 0) w ∧ (Instr.fieldAt 107 (pv b 0) 1).run Tryz.prog w = .ok (pv b 1) w ∧ (Instr.fieldAt 107 (pv b 0) 2).run Tryz.prog w = .ok (pv b 5) w ∧ (Instr.fieldAt 107 (pv b 0) 3).run Tryz.prog w = .ok (pv b 6) w := by
  unfold pv
  refine ⟨?_, ?_, ?_, ?_⟩ <;> go_simp
theorem run_lifeGen (h : w.heap[b]? = some (lifeObj S)) : (Instr.loadAt 3 (pv b 0)).run Tryz.prog w = .ok (.int .i64 S.gen) w := by
  have n0 := cell_at h 0
  simp at n0
  unfold pv
  go_simp
theorem run_lifeNode (h : w.heap[b]? = some (lifeObj S)) : (Instr.loadAt 43 (pv b 1)).run Tryz.prog w = .ok (nodeV S) w := by
  have n1 := cell_at h 1
  have n2 := cell_at h 2
  have n3 := cell_at h 3
  have n4 := cell_at h 4
  simp at n1 n2 n3 n4
  unfold pv nodeV
  go_simp
theorem run_buildTold (w : World) (S : Slot) : (Instr.build 64 #[(0, .int .i64 S.gen), (1, nodeV S), (2, .int .i64 S.mark), (3, .int .i64 S.link)]).run Tryz.prog w = .ok (toldV S) w := by
  unfold nodeV
  go_simp
theorem run_storeTold (w : World) (S : Slot) : (Instr.storeAt 64 (pv w.heap.size 0) (toldV S)).run Tryz.prog (w.alloc (.cells #[.int .i64 0, .int .i64 0, .int .i64 0, .int .i64 0, .int .i64 0, .int .i64 0, .int .i64 0] 64)).drew = .ok () (w.alloc (.cells (toldC S) 64)).drew := by
  unfold pv
  go_simp
set_option maxRecDepth 100000 in
set_option maxHeartbeats 1600000 in
theorem cTold (h : w.heap[b]? = some (lifeObj S)) : Calls Tryz.prog 65 #[.pointer (some ⟨b, 0, none⟩)] w fun e w' => e = .returned (toldV S) ∧ w' = (w.alloc (.cells (toldC S) 64)).drew := by
  have hA : ((w.alloc (.cells #[.int .i64 0, .int .i64 0, .int .i64 0, .int .i64 0, .int .i64 0, .int .i64 0, .int .i64 0] 64)).drew).heap[b]? = some (lifeObj S) := blk_old h _
  have hst := run_storeTold w S
  have n5 := cell_at hA 5
  have n6 := cell_at hA 6
  simp only [List.getElem?_toArray] at n5 n6
  go_enter Tryz.func65, Tryz.ntmps65
  go_wp2
  rename_i K hK
  generalize hw0 : (w.alloc (.cells #[.int .i64 0, .int .i64 0, .int .i64 0, .int .i64 0, .int .i64 0, .int .i64 0, .int .i64 0] 64)) = w0 at *
  have fld := run_lifeField w0.drew b
  have HM : Calls Tryz.prog 67 #[pv b 5] w0.drew fun e w' => e = .returned (.int .i64 S.mark) ∧ w' = w0.drew := cALoad n5
  have HL : Calls Tryz.prog 67 #[pv b 6] w0.drew fun e w' => e = .returned (.int .i64 S.link) ∧ w' = w0.drew := cALoad n6
  refine wp_region_tab (w1 := (w.alloc (.cells (toldC S) 64)).drew) (by kernel_rfl) [some 3, some 4, some 5, some 6, some 7, some 8, some 9, some 10, some 11, some 12, some 13, some 14, some 15, some 16, some 17, some 18, some 19, none] (fun i => match i with
    | 0 => pv b 0 | 1 => pv b 0 | 2 => pv b 0 | 3 => .int .i64 S.gen | 4 => pv b 0 | 5 => pv b 0 | 6 => pv b 1 | 7 => nodeV S | 8 => pv b 0 | 9 => pv b 0 | 10 => pv b 5 | 11 => .int .i64 S.mark | 12 => pv b 0 | 13 => pv b 0 | 14 => pv b 6 | 15 => .int .i64 S.link | 16 => toldV S | _ => undef) (by kernel_rfl) (by decide) ?_ (.inr (by decide +kernel)) ?_ ?_
  · intro i g b' h
    exact (no_guard (by kernel_rfl) h).elim
  · intro i hi o a K ho hd _ hoff hv hK
    rcases (by simp at hi; omega : i = 0 ∨ i = 1 ∨ i = 2 ∨ i = 3 ∨ i = 4 ∨ i = 5 ∨ i = 6 ∨ i = 7 ∨ i = 8 ∨ i = 9 ∨ i = 10 ∨ i = 11 ∨ i = 12 ∨ i = 13 ∨ i = 14 ∨ i = 15 ∨ i = 16 ∨ i = 17) with rfl | rfl | rfl | rfl | rfl | rfl | rfl | rfl | rfl | rfl | rfl | rfl | rfl | rfl | rfl | rfl | rfl | rfl
    · exact l_val hd ((x_move (op_is rfl ho)).trans (by rw [hoff 0 (by decide)]; rfl)) hK
    · exact l_val hd (x_nil (op_is rfl ho) (hv 0 3 rfl (by kernel_rfl))) hK
    · exact l_val hd (x_field (op_is rfl ho) (by rw [hv 1 4 rfl (by kernel_rfl)]; exact fld.1)) hK
    · exact l_val hd (x_load (op_is rfl ho) (by rw [hv 2 5 rfl (by kernel_rfl)]; exact run_lifeGen hA)) hK
    · exact l_val hd ((x_move (op_is rfl ho)).trans (by rw [hoff 0 (by decide)]; rfl)) hK
    · exact l_val hd (x_nil (op_is rfl ho) (hv 4 7 rfl (by kernel_rfl))) hK
    · exact l_val hd (x_field (op_is rfl ho) (by rw [hv 5 8 rfl (by kernel_rfl)]; exact fld.2.1)) hK
    · exact l_val hd (x_load (op_is rfl ho) (by rw [hv 6 9 rfl (by kernel_rfl)]; exact run_lifeNode hA)) hK
    · exact l_val hd ((x_move (op_is rfl ho)).trans (by rw [hoff 0 (by decide)]; rfl)) hK
    · exact l_val hd (x_nil (op_is rfl ho) (hv 8 11 rfl (by kernel_rfl))) hK
    · exact l_val hd (x_field (op_is rfl ho) (by rw [hv 9 12 rfl (by kernel_rfl)]; exact fld.2.2.1)) hK
    · exact l_call hd (op_is rfl ho) (by simp [hv 10 13 rfl (by kernel_rfl)]) Tryz.func67 (by kernel_rfl) (by rfl) HM hK
    · exact l_val hd ((x_move (op_is rfl ho)).trans (by rw [hoff 0 (by decide)]; rfl)) hK
    · exact l_val hd (x_nil (op_is rfl ho) (hv 12 15 rfl (by kernel_rfl))) hK
    · exact l_val hd (x_field (op_is rfl ho) (by rw [hv 13 16 rfl (by kernel_rfl)]; exact fld.2.2.2)) hK
    · exact l_call hd (op_is rfl ho) (by simp [hv 14 17 rfl (by kernel_rfl)]) Tryz.func67 (by kernel_rfl) (by rfl) HL hK
    · exact l_val hd (x_build (op_is rfl ho) (by simp [hv 3 6 rfl (by kernel_rfl), hv 7 10 rfl (by kernel_rfl), hv 11 14 rfl (by kernel_rfl), hv 15 18 rfl (by kernel_rfl)]) (run_buildTold _ S)) hK
    · exact l_skip hd (x_store (op_is rfl ho) (by rw [hoff 2 (by decide), hv 16 19 rfl (by kernel_rfl)]; exact hst)) hK
  · intro a' h1 h2 h3 h4
    refine hK _ _ (wp_ret ?_)
    have e2 : a'.tmps[2]? = some (.pointer (some ⟨w.heap.size, 0, none⟩)) := (h3 2 (by decide)).trans rfl
    refine bodyPost_ret (v := toldV S) ?_ h2 ⟨rfl, rfl⟩
    simp [results, Tryz.results65, go_sem, e2]
end
end Go.Proofs.YtaalohcldoakoaaGreatDoor
/- Package pool's Take and Give, by contract. -/
namespace Go.Proofs.YtaalohcldoakoaaGreatDoor
open Go.RowKit
def lit60 (c : Nat → Value) : Array Value := #[c 0, c 1, c 2, c 3, c 4, c 5, c 6, c 7, c 8, c 9, c 10, c 11, c 12, c 13, c 14, c 15, c 16, c 17, c 18, c 19, c 20, c 21, c 22, c 23, c 24, c 25, c 26, c 27, c 28, c 29, c 30, c 31, c 32, c 33, c 34, c 35, c 36, c 37, c 38, c 39, c 40, c 41, c 42, c 43, c 44, c 45, c 46, c 47, c 48, c 49, c 50, c 51, c 52, c 53, c 54, c 55, c 56, c 57, c 58, c 59]
set_option maxRecDepth 100000 in
theorem lit60_eq (c : Nat → Value) : lit60 c = ((List.range 60).map c).toArray := by rfl
theorem expand60 {a : Act} (hs : a.tmps.size = 60) (hd : a.defers = []) : ∃ c : Nat → Value, a = ⟨lit60 c, []⟩ ∧ ∀ s, c s = a.eval (.tmp s) := by
  refine ⟨fun s => a.tmps.getD s undef, ?_, fun s => rfl⟩
  obtain ⟨t, d⟩ := a
  simp only at hs hd
  subst hd
  congr 1
  rw [lit60_eq]
  refine Array.ext (by simp [hs]) fun i h1 h2 => ?_
  simp [Array.getD, h1]
def lit57 (c : Nat → Value) : Array Value := #[c 0, c 1, c 2, c 3, c 4, c 5, c 6, c 7, c 8, c 9, c 10, c 11, c 12, c 13, c 14, c 15, c 16, c 17, c 18, c 19, c 20, c 21, c 22, c 23, c 24, c 25, c 26, c 27, c 28, c 29, c 30, c 31, c 32, c 33, c 34, c 35, c 36, c 37, c 38, c 39, c 40, c 41, c 42, c 43, c 44, c 45, c 46, c 47, c 48, c 49, c 50, c 51, c 52, c 53, c 54, c 55, c 56]
set_option maxRecDepth 100000 in
theorem lit57_eq (c : Nat → Value) : lit57 c = ((List.range 57).map c).toArray := by rfl
theorem expand57 {a : Act} (hs : a.tmps.size = 57) (hd : a.defers = []) : ∃ c : Nat → Value, a = ⟨lit57 c, []⟩ ∧ ∀ s, c s = a.eval (.tmp s) := by
  refine ⟨fun s => a.tmps.getD s undef, ?_, fun s => rfl⟩
  obtain ⟨t, d⟩ := a
  simp only at hs hd
  subst hd
  congr 1
  rw [lit57_eq]
  refine Array.ext (by simp [hs]) fun i h1 h2 => ?_
  simp [Array.getD, h1]
theorem run_poolField (w : World) (b : Nat) : (Instr.fieldAt 104 (pv b 0) 0).run Tryz.prog w = .ok (pv b 0) w := by
  unfold pv
  go_simp
theorem run_loadSlots {w : World} {p sb pb n : Nat} {fa : Int} (h : w.heap[p]? = some (poolObj sb pb n fa)) : (Instr.loadAt 97 (pv p 0)).run Tryz.prog w = .ok (.slice (some ⟨sb, 0, none⟩) (n + 1) (n + 1)) w := by
  have c0 := cell_at h 0
  simp at c0
  unfold pv
  go_simp
theorem run_indexSlots (w : World) (sb n i : Nat) (h : i ≤ n) : (Instr.indexAt 97 (.slice (some ⟨sb, 0, none⟩) (n + 1) (n + 1)) (.int .i64 i)).run Tryz.prog w = .ok (pv sb i) w := by
  have hlt : (i : Int) < (n : Int) + 1 := by omega
  unfold pv
  go_simp
theorem run_loadNode {w : World} {b : Nat} {a e c d : Int} (h : w.heap[b]? = some (nodeObj a e c d)) : (Instr.loadAt 43 (pv b 0)).run Tryz.prog w = .ok (.agg #[.int .i64 a, .int .i64 e, .int .i64 c, .int .i64 d]) w := by
  have n0 := cell_at h 0
  have n1 := cell_at h 1
  have n2 := cell_at h 2
  have n3 := cell_at h 3
  simp at n0 n1 n2 n3
  unfold pv
  go_simp
theorem x_add1 {ρ : Operand → Value} {o : Oper} {w : World} {x y : Operand} {t : TypeId} {a : Int} (h : o.op = .binOp .add 3 x y t) (hx : ρ x = .int .i64 a) (hy : ρ y = .int .i64 1) (h0 : 0 ≤ a) (h1 : a ≤ 1099511627774) : (execOp ρ o).run Tryz.prog w = .ok (.value (.int .i64 (a + 1))) w := by
  have hw : IntKind.i64.wrap (a + 1) = a + 1 := by simp [IntKind.wrap, IntKind.bits, IntKind.signed]; omega
  refine x_bin h hx hy (by simp [eqGuard]) ?_
  simp [binOp, Op.intArith, hw]
section
variable {w : World} {p sb pb nb : Nat} {L : Nat → Nat} {s : PSt} {i : Nat} {g : Int}
/-- What a slot's new life, and its lead there, leave. -/
def ledW (w : World) (sb i : Nat) (gen a b c d mark link : Int) : World := (lifeW w gen a b c d mark link).setCell ⟨sb, i, none⟩ (.pointer (some ⟨w.heap.size + 1, 0, none⟩))
theorem PA.led (h : PA w p sb pb nb L s) (hi : i ≤ s.n) (gen a b c d mark link : Int) : PA (ledW w sb i gen a b c d mark link) p sb pb nb (upd L i (w.heap.size + 1)) { s with slot := upd s.slot i ⟨gen, mark, link, a, b, c, d⟩ } :=
  (h.keep (lifeW_turned [] w gen a b c d mark link) (by simp)).lead hi (lifeW_new w gen a b c d mark link) (fun k hk => by have := lt_of_heap (h.life k hk); omega)
theorem ledW_turned {l : List Nat} (hl : sb ∈ l) (w : World) (i : Nat) (gen a b c d mark link : Int) : Turned l w (ledW w sb i gen a b c d mark link) := (lifeW_turned l w gen a b c d mark link).set (.inl hl) _ _
theorem cLed (h : PA w p sb pb nb L s) (hi : i ≤ s.n) (gen a b c d mark link : Int) : Calls Tryz.prog 59 #[pv sb i, pv (L i) 0, pv (w.heap.size + 1) 0] (lifeW w gen a b c d mark link) fun e w' => e = .returned (.bool true) ∧ w' = ledW w sb i gen a b c d mark link := by
  have h1 := h.keep (lifeW_turned [] w gen a b c d mark link) (by simp)
  exact cPCas (ptr_cell h1.slots hi) (froz_at h1.slots i) (h1.life i hi) rfl (lifeW_new w gen a b c d mark link) rfl
set_option maxHeartbeats 800000 in
theorem cPTakeFull (h : PA w p sb pb nb L s) (hi : idxV s.h = 0) (a b c d link : Int) :
    Calls Tryz.prog 12 #[.pointer (some ⟨p, 0, none⟩), .pointer none, .agg #[.int .i64 a, .int .i64 b, .int .i64 c, .int .i64 d], .int .i64 link] w fun e w' => e = .returned (.tuple #[.int .i64 0, .int .i64 102]) ∧ Turned [] w w' ∧ PA w' p sb pb nb L s := by
  have hA := h.alloc (.cells #[.int .i64 a, .int .i64 b, .int .i64 c, .int .i64 d] 43)
  have c1 := cell_at h.pool 1
  simp at c1
  have hpl := lt_of_heap h.pool
  have hne : ¬ p = w.heap.size := by omega
  go_enter Tryz.func12, Tryz.ntmps12
  go_wp2_with (go_at_call 57; refine (cPopEmpty hA.pile.head hi).mono ?_; rintro e w' ⟨rfl, hw⟩; obtain rfl := hw.symm)
  go_ret2
  exact ⟨rfl, (Turned.refl _ _).alloc _, hA⟩
set_option maxRecDepth 100000 in
set_option maxHeartbeats 1600000 in
theorem cPTake (h : PA w p sb pb nb L s) (ho : s.Ok) (hi : idxV s.h = i) (h0 : i ≠ 0) (hg0 : 0 ≤ (s.slot i).gen) (hg1 : (s.slot i).gen ≤ 1099511627774) (a b c d link : Int) :
    Calls Tryz.prog 12 #[.pointer (some ⟨p, 0, none⟩), .pointer none, .agg #[.int .i64 a, .int .i64 b, .int .i64 c, .int .i64 d], .int .i64 link] w fun e w' => e = .returned (.tuple #[.int .i64 (hnd i ((s.slot i).gen + 1)), .int .i64 0]) ∧ Turned (blocks p sb pb nb L s.n) w w' ∧ ∃ b', w.heap.size ≤ b' ∧ PA w' p sb pb nb (upd L i b') (s.take i a b c d link) := by
  have hA := h.alloc (.cells #[.int .i64 a, .int .i64 b, .int .i64 c, .int .i64 d] 43)
  have hin : i ≤ s.n := by have := ho.top; omega
  have hn2 := ho.n2
  have hB := hA.pop (nextV s.h (s.f i))
  have c1 := cell_at h.pool 1
  simp at c1
  have hpl := lt_of_heap h.pool
  have hne : ¬ p = w.heap.size := by omega
  have hlt : (i : Int) < (s.n : Int) + 1 := by omega
  have hN : ((w.alloc (.cells #[.int .i64 a, .int .i64 b, .int .i64 c, .int .i64 d] 43)).setCell ⟨pb, 0, none⟩ (.int .i64 (nextV s.h (s.f i)))).heap[w.heap.size]? = some (nodeObj a b c d) := by
    have := lt_of_heap h.pile.head
    rw [blk_other (by omega)]
    exact blk_new w _
  have hT : Turned (blocks p sb pb nb L s.n) w ((w.alloc (.cells #[.int .i64 a, .int .i64 b, .int .i64 c, .int .i64 d] 43)).setCell ⟨pb, 0, none⟩ (.int .i64 (nextV s.h (s.f i)))) := ((Turned.refl _ _).alloc _).set (.inl (by simp [blocks])) _ _
  have HPk := fun w => cPack i ((s.slot i).gen + 1) w
  rw [(pack_ok i ((s.slot i).gen + 1) (by omega) (by omega) (by omega) (by omega)).1, (pack_ok i ((s.slot i).gen + 1) (by omega) (by omega) (by omega) (by omega)).2] at HPk
  go_enter Tryz.func12, Tryz.ntmps12
  go_wp2_with (go_at_call 57; refine (cPop hA.pile hi h0 hin).mono ?_; rintro e w' ⟨rfl, rfl⟩)
  refine wp_loop_once ?_
  generalize ((w.alloc (.cells #[.int .i64 a, .int .i64 b, .int .i64 c, .int .i64 d] 43)).setCell ⟨pb, 0, none⟩ (.int .i64 (nextV s.h (s.f i)))) = W at *
  have c0 := cell_at hB.pool 0
  simp at c0
  have HLd := cPLoad (ptr_cell hB.slots hin) (hB.life i hin) rfl
  have HB : Hid _ := hB
  have HN : Hid _ := hN
  have HT : Hid _ := hT
  clear hA hB hN hT c1 h
  go_wp2_with (go_at_call 58; refine HLd.mono ?_; rintro e w' ⟨rfl, hw⟩; obtain rfl := hw.symm)
  rename_i K hK
  clear c0 HLd
  have hB := HB.out
  have hBd : PA W.drew p sb pb nb L { s with h := nextV s.h (s.f i) } := hB.keep ((Turned.refl [] W).drew) (by simp)
  have HNL := cNewLife W.drew ((s.slot i).gen + 1) a b c d 0 link
  have HC := cLed hBd hin ((s.slot i).gen + 1) a b c d 0 link
  have tL : Turned [] W.drew (lifeW W.drew ((s.slot i).gen + 1) a b c d 0 link) := lifeW_turned [] _ _ _ _ _ _ _ _
  have tP : ∀ (o : Obj) (r : Nat), W.heap[r]? = some o → r ≠ sb → (W.drew.heap[r]? = some o ∧ (lifeW W.drew ((s.slot i).gen + 1) a b c d 0 link).heap[r]? = some o ∧ (ledW W.drew sb i ((s.slot i).gen + 1) a b c d 0 link).heap[r]? = some o) := fun o r hr hne => ⟨hr, tL.heap hr (by simp), (blk_other hne _ _).trans (tL.heap hr (by simp))⟩
  have fP := tP _ _ hB.pool hB.d1
  have fL := tP _ _ (hB.life i hin) (hB.l2 hin)
  have fN := tP _ _ HN.out (other_type HN.out hB.slots (by decide))
  refine wp_region_two (w1 := lifeW W.drew ((s.slot i).gen + 1) a b c d 0 link) (w2 := ledW W.drew sb i ((s.slot i).gen + 1) a b c d 0 link) (by kernel_rfl) [some 33, some 34, some 35, some 36, some 37, some 38, some 39, some 40, some 41, some 42, some 43, some 44, some 45, some 46, some 47, some 48] (fun k => match k with
    | 0 => pv p 0 | 1 => pv p 0 | 2 => pv p 0 | 3 => .slice (some ⟨sb, 0, none⟩) (s.n + 1) (s.n + 1) | 4 => .int .i64 i | 5 => pv sb i | 6 => pv (L i) 0 | 7 => pv (L i) 0 | 8 => pv (L i) 0 | 9 => pv (L i) 0 | 10 => .int .i64 (s.slot i).gen | 11 => .int .i64 ((s.slot i).gen + 1) | 12 => .agg #[.int .i64 a, .int .i64 b, .int .i64 c, .int .i64 d] | 13 => .int .i64 link | 14 => pv (W.drew.heap.size + 1) 0 | _ => .bool true) (by kernel_rfl) 14 15 (by decide) (by decide) (by decide) (by decide +kernel) ?_ ?_ ?_
  · intro k g b' h
    exact (no_guard (by kernel_rfl) h).elim
  · intro k hk o ac wa wb K ho hd _ hoff hv hL hK
    rcases (by simp at hk; omega : k = 0 ∨ k = 1 ∨ k = 2 ∨ k = 3 ∨ k = 4 ∨ k = 5 ∨ k = 6 ∨ k = 7 ∨ k = 8 ∨ k = 9 ∨ k = 10 ∨ k = 11 ∨ k = 12 ∨ k = 13 ∨ k = 14 ∨ k = 15) with rfl | rfl | rfl | rfl | rfl | rfl | rfl | rfl | rfl | rfl | rfl | rfl | rfl | rfl | rfl | rfl
    case inr.inr.inr.inr.inr.inr.inr.inr.inr.inr.inr.inr.inr.inr.inl =>
      obtain ⟨rfl, rfl⟩ : wa = W.drew ∧ wb = lifeW W.drew ((s.slot i).gen + 1) a b c d 0 link := by
        rcases hL with ⟨-, h2, h3⟩ | ⟨h1, -⟩ | ⟨h1, -⟩
        · exact ⟨h2, h3⟩
        · exact absurd h1 (by decide)
        · exact absurd rfl h1
      exact l_call hd (op_is rfl ho) (by simp [hv 11 44 rfl (by kernel_rfl), hv 12 45 rfl (by kernel_rfl), hv 13 46 rfl (by kernel_rfl)]; rfl) Tryz.func60 (by kernel_rfl) (by rfl) HNL hK
    case inr.inr.inr.inr.inr.inr.inr.inr.inr.inr.inr.inr.inr.inr.inr =>
      obtain ⟨rfl, rfl⟩ : wa = lifeW W.drew ((s.slot i).gen + 1) a b c d 0 link ∧ wb = ledW W.drew sb i ((s.slot i).gen + 1) a b c d 0 link := by
        rcases hL with ⟨h1, -⟩ | ⟨-, h2, h3⟩ | ⟨-, h1, -⟩
        · exact absurd h1 (by decide)
        · exact ⟨h2, h3⟩
        · exact absurd rfl h1
      exact l_call hd (op_is rfl ho) (by simp [hv 5 38 rfl (by kernel_rfl), hv 6 39 rfl (by kernel_rfl), hv 14 47 rfl (by kernel_rfl)]) Tryz.func59 (by kernel_rfl) (by rfl) HC hK
    all_goals
      obtain ⟨rfl, hw3⟩ : wb = wa ∧ (wa = W.drew ∨ wa = lifeW W.drew ((s.slot i).gen + 1) a b c d 0 link ∨ wa = ledW W.drew sb i ((s.slot i).gen + 1) a b c d 0 link) := by
        rcases hL with ⟨h1, -⟩ | ⟨h1, -⟩ | ⟨-, -, h2, h3 | ⟨-, h3⟩ | ⟨-, -, h3⟩⟩
        · exact absurd h1 (by decide)
        · exact absurd h1 (by decide)
        · exact ⟨h2, .inl h3⟩
        · exact ⟨h2, .inr (.inl h3)⟩
        · exact ⟨h2, .inr (.inr h3)⟩
      have three : ∀ {o : Obj} {r : Nat}, (W.drew.heap[r]? = some o ∧ (lifeW W.drew ((s.slot i).gen + 1) a b c d 0 link).heap[r]? = some o ∧ (ledW W.drew sb i ((s.slot i).gen + 1) a b c d 0 link).heap[r]? = some o) → wb.heap[r]? = some o := fun {o r} f => by
        rcases hw3 with e | e | e
        · rw [e]; exact f.1
        · rw [e]; exact f.2.1
        · rw [e]; exact f.2.2
      have gP := three fP
      have gL := three fL
      have gN := three fN
    · exact l_val hd ((x_move (op_is rfl ho)).trans (by rw [hoff 0 (by decide)]; rfl)) hK
    · exact l_val hd (x_nil (op_is rfl ho) (hv 0 33 rfl (by kernel_rfl))) hK
    · exact l_val hd (x_field (op_is rfl ho) (by rw [hv 1 34 rfl (by kernel_rfl)]; exact run_poolField _ p)) hK
    · exact l_val hd (x_load (op_is rfl ho) (by rw [hv 2 35 rfl (by kernel_rfl)]; exact run_loadSlots gP)) hK
    · exact l_val hd ((x_move (op_is rfl ho)).trans (by rw [hoff 10 (by decide)]; rfl)) hK
    · exact l_val hd (x_index (op_is rfl ho) (by rw [hv 3 36 rfl (by kernel_rfl), hv 4 37 rfl (by kernel_rfl)]; exact run_indexSlots _ sb s.n i hin)) hK
    · exact l_val hd ((x_move (op_is rfl ho)).trans (by rw [hoff 12 (by decide)]; rfl)) hK
    · exact l_val hd ((x_move (op_is rfl ho)).trans (by rw [hoff 12 (by decide)]; rfl)) hK
    · exact l_val hd (x_nil (op_is rfl ho) (hv 7 40 rfl (by kernel_rfl))) hK
    · exact l_val hd (x_field (op_is rfl ho) (by rw [hv 8 41 rfl (by kernel_rfl)]; exact (run_lifeField _ (L i)).1)) hK
    · exact l_val hd (x_load (op_is rfl ho) (by rw [hv 9 42 rfl (by kernel_rfl)]; exact run_lifeGen gL)) hK
    · exact l_val hd (x_add1 (op_is rfl ho) (hv 10 43 rfl (by kernel_rfl)) rfl hg0 hg1) hK
    · exact l_val hd (x_load (op_is rfl ho) (by rw [hoff 6 (by decide)]; exact run_loadNode gN)) hK
    · exact l_val hd ((x_move (op_is rfl ho)).trans (by rw [hoff 3 (by decide)]; rfl)) hK
  · intro a' h1 h2 h3 h4
    obtain ⟨cc, rfl, hcc⟩ := expand60 h1 h2
    have x10 : cc 10 = .int .i64 i := (hcc 10).trans ((ev_same (h3 10 (by decide))).trans rfl)
    have x12 : cc 12 = .pointer (some ⟨L i, 0, none⟩) := (hcc 12).trans ((ev_same (h3 12 (by decide))).trans rfl)
    have x48 : cc 48 = .bool true := (hcc 48).trans (h4 15 48 rfl)
    have hLed := hBd.led hin ((s.slot i).gen + 1) a b c d 0 link
    have l0 := cell_at fL.2.2 0
    simp at l0
    have HLed : Hid _ := hLed
    have hTW : Turned (blocks p sb pb nb L s.n) w (ledW W.drew sb i ((s.slot i).gen + 1) a b c d 0 link) := HT.out.drew.inner (ledW_turned (l := blocks p sb pb nb L s.n) (by simp [blocks]) W.drew i _ _ _ _ _ _ _) (fun x hx => .inl hx)
    have hsz := HT.out.size
    clear h1 h2 h3 h4 hcc hLed fP fL fN tP tL HC HNL hBd hB HB HN HT
    refine hK _ _ ?_
    unfold lit60
    simp only [x10, x12, x48]
    clear x10 x12 x48
    generalize hW2 : ledW W.drew sb i ((s.slot i).gen + 1) a b c d 0 link = W2 at *
    go_wp2_with (go_at_call 11; refine (HPk _).mono ?_; rintro e w' ⟨rfl, hw⟩; obtain rfl := hw.symm)
    go_ret2
    exact ⟨rfl, hTW, W.drew.heap.size + 1, (by show w.heap.size ≤ W.heap.size + 1; omega), HLed.out⟩
end
end Go.Proofs.YtaalohcldoakoaaGreatDoor
/- A region in whatever order that only reads, of which some operations aren't wanted. -/
namespace Go.Proofs.YtaalohcldoakoaaGreatDoor
open Go.RowKit
section
variable {P : Program} {ops : Array Oper} {Q : Exit → Act → World → Prop}
structure IPart (D : List (Option Nat)) (val : Nat → Value) (a0 : Act) (w0 : World) (l : Array Bool) (a : Act) (w : World) : Prop where
  size : l.size = D.length
  tsize : a.tmps.size = a0.tmps.size
  defers : a.defers = a0.defers
  off : ∀ s, some s ∉ D → a.tmps[s]? = a0.tmps[s]?
  val : ∀ i d, D.getD i none = some d → on l i = true → a.eval (.tmp d) = val i
  w : w = w0
theorem wp_region_part {id : Nat} {a0 : Act} {w : World} (hm : P.follows .mixedOrders = true) (D : List (Option Nat)) (val : Nat → Value) (hok : regOk ops D a0.tmps.size = true)
    (hg : ∀ (i g : Nat) (b : Bool), (ops[i]?).bind (fun o : Oper => o.guard) = some (g, b) → ∃ b', val g = .bool b' ∧ (b' ≠ b → val i = undef))
    (hstep : ∀ i, i < D.length → (∀ (g : Nat) (b : Bool), (ops[i]?).bind (fun o : Oper => o.guard) = some (g, b) → val g = .bool b) → Yields P ops D val a0 w.drew w.drew Q i)
    (hend : ∀ a', a'.tmps.size = a0.tmps.size → a'.defers = a0.defers → (∀ s, some s ∉ D → a'.tmps[s]? = a0.tmps[s]?) → (∀ i d, D.getD i none = some d → a'.eval (.tmp d) = val i) → Q .normal a' w.drew) :
    (Code.region id ops true).wp P Q a0 w := by
  have hn : ops.size = D.length := by
    unfold regOk at hok
    simp only [Bool.and_eq_true, beq_iff_eq] at hok
    exact hok.1
  have mem : ∀ s i, D.getD i none = some s → some s ∈ D := fun s i e => by
    have hi : i < D.length := by
      apply Classical.byContradiction
      intro h
      rw [List.getD_eq_getElem?_getD, List.getElem?_eq_none (by omega)] at e
      cases e
    rw [List.getD_eq_getElem?_getD, List.getElem?_eq_getElem hi] at e
    have := List.getElem_mem hi
    rw [show D[i] = some s from e] at this
    exact this
  have lt : ∀ i d, D.getD i none = some d → i < D.length := fun i d e => by
    apply Classical.byContradiction
    intro h
    rw [List.getD_eq_getElem?_getD, List.getElem?_eq_none (by omega)] at e
    cases e
  have hoff : ∀ i, on (Array.replicate ops.size false) i = false := fun i => by
    simp only [on, Array.getD_eq_getD_getElem?, Array.getElem?_replicate]
    split <;> rfl
  refine wp_region_inv hm (fun i o ho => (reg_at hok ho).2.2.1) (IPart D val a0 w.drew) (fun l a w h => by rw [hn]; exact h.size) ?_ ?_ ?_
  · exact ⟨by simp [hn], rfl, rfl, fun _ _ => rfl, fun i d _ hh => (by rw [hoff] at hh; cases hh), rfl⟩
  · intro l a w' h i hi
    obtain ⟨hu, o, ho, hall⟩ := mem_ready.1 hi
    obtain ⟨r1, r2, r3, r4, r5, r6⟩ := reg_at hok ho
    have hset : ∀ j, on (l.setIfInBounds i true) j = if i = j then true else on l j := fun j => on_set i j (by rw [h.size]; exact r1)
    have hdep : ∀ j d, D.getD j none = some d → waitsB ops i j = true → a.eval (.tmp d) = val j := fun j d hjd hh => h.val j d hjd (dep_of hi (waits_map hh))
    have hw' := h.w
    subst hw'
    have keeps : IPart D val a0 w.drew (l.setIfInBounds i true) (a.put (D.getD i none) (val i)) w.drew := by
      have hputs : (a.put (D.getD i none) (val i)).tmps.size = a0.tmps.size := by
        cases hD : D.getD i none <;> simp [Act.put, h.tsize]
      have hputd : (a.put (D.getD i none) (val i)).defers = a0.defers := by
        cases hD : D.getD i none <;> simp [Act.put, h.defers]
      refine ⟨by simp [h.size], hputs, hputd, fun s hs => ?_, fun j d hjd hh => ?_, rfl⟩
      · cases hD : D.getD i none with
        | none => exact h.off s hs
        | some d =>
          have : d ≠ s := fun e => hs (mem s i (by rw [hD, e]))
          simp only [Act.put, Array.getElem?_setIfInBounds, this, if_false]
          exact h.off s hs
      · rw [hset] at hh
        cases hD : D.getD i none with
        | none =>
          have hne : i ≠ j := fun e => by subst e; rw [hD] at hjd; cases hjd
          rw [if_neg hne] at hh
          exact h.val j d hjd hh
        | some d' =>
          rw [ev_put _ _ _ (by rw [h.tsize]; exact r4 d' hD)]
          by_cases e : i = j
          · subst e
            rw [hD] at hjd
            cases hjd
            simp
          · rw [if_neg e] at hh
            rw [if_neg (fun e2 => e (r5 j d (lt j d hjd) (by rw [hD, e2]) hjd))]
            exact h.val j d hjd hh
    have hyield : ∀ (g : Nat) (b b' : Bool), o.guard = some (g, b) → val g = .bool b' → yielded ops a.tmps g = some b' := fun g b b' hgd h2 => by
      obtain ⟨h1, h3, h4⟩ := r6 g b hgd
      obtain ⟨d, hgD⟩ := Option.isSome_iff_exists.1 h4
      have hv := hdep g d hgD h3
      rw [h2] at hv
      have hgo : ∃ og, ops[g]? = some og := ⟨ops[g]'(by omega), Array.getElem?_eq_getElem (by omega)⟩
      obtain ⟨og, hog⟩ := hgo
      unfold yielded
      rw [hog]
      simp only [Option.bind_some, (reg_at hok hog).2.1, hgD]
      have hlt : d < a.tmps.size := by rw [h.tsize]; exact (reg_at hok hog).2.2.2.1 d hgD
      simp only [Act.eval, Array.getD, hlt, dite_true] at hv
      rw [Array.getElem?_eq_getElem hlt]
      have : a.tmps[d] = .bool b' := hv
      rw [this]
    unfold wpOp
    simp only [ho]
    by_cases hwant : Region.wanted o (yielded ops a.tmps) = true
    · rw [if_pos hwant]
      refine .inl (hstep i r1 (fun g b hgb => ?_) o a _ ho r2 h.tsize (fun s hs => ?_) hdep keeps)
      · obtain ⟨b', h1, h2⟩ := hg i g b hgb
        rw [ho] at hgb
        have hgd : o.guard = some (g, b) := hgb
        have hy := hyield g b b' hgd h1
        simp [Region.wanted, hgd, hy] at hwant
        rw [h1, hwant]
      · simp only [Act.eval, Array.getD_eq_getD_getElem?, h.off s hs]
    · rw [if_neg hwant, r2]
      cases hgd : o.guard with
      | none => exact absurd (by simp [Region.wanted, hgd]) hwant
      | some gb =>
        obtain ⟨g, b⟩ := gb
        obtain ⟨b', h1, h2⟩ := hg i g b (by rw [ho]; exact hgd)
        have hy := hyield g b b' hgd h1
        have hne : b' ≠ b := fun e => hwant (by simp [Region.wanted, hgd, hy, e])
        rw [← h2 hne]
        exact keeps
  · intro l a w' h hall
    have hal : ∀ i, i < D.length → on l i = true := fun i hi => by
      have := hall i (by rw [hn]; exact hi)
      simp only [on, Array.getD, h.size, hi, dite_true] at this ⊢
      exact this
    have hw := h.w
    subst hw
    exact hend a h.tsize h.defers h.off fun i d hD => h.val i d hD (hal i (lt i d hD))
end
end Go.Proofs.YtaalohcldoakoaaGreatDoor

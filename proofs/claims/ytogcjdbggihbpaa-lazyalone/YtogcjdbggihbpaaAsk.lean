/- A Once's maker is asked: what it makes, fails with, or falls by is kept. -/
import Derived.Test.YtogcjdbggihbpaaRows
import Derived.Test.YtogcjdbggihbpaaMem
import Derived.Test.YtogcjdbggihbpaaLocks
import Derived.Conc.MuLone
import Derived.Recover
import Derived.Laws.LoneSync
import Derived.Laws.Pointers
import Derived.BigRegion
import Derived.Laws.EntriesVeiled
namespace Go.Proofs.Ytogcjdbggihbpaa
open Go.RowKit Go.Conc Go.MuLone

abbrev onceObj (d m : Int) (fv : Value) (md v e : Int) : Obj := .cells #[.int .u32 d, .int .i32 m, .int .u32 0, fv, .int .u32 md, .int .i64 v, .int .i64 e] 87 (0, 0)

theorem catch_panicking (p b : Nat) (fv : Value) (pv : Value) (older : List PanicEntry) (w : World) (hp : w.cell? ⟨p, 0, none⟩ = some (.pointer (some ⟨b, 0, none⟩))) (hc : w.cell? ⟨b, 3, none⟩ = some fv) (hz : w.frozen? ⟨b, 3, none⟩ = false) :
    CallsD Try.prog 64 #[.pointer (some ⟨p, 0, none⟩)] (.panicking ({ v := pv, recovered := false } :: older)) w fun e u' w' =>
      e = .returned (.tuple #[]) ∧ u' = .panicking ({ v := pv, recovered := true } :: older) ∧ w' = w.setCell ⟨b, 3, none⟩ .nilFunc := by
  refine callsD_of_wpS Try.func64 rfl fun c₀ cs hu => ?_
  apply wpS_seq
  apply wpS_region
  simp [wpOpsS, go_sem, recoverD, hu, Try.ntmps64, Exit.thenS]
  apply wpS_region
  simp [wpOpsS, go_sem, hp, hc, hz]
  cases c₀
  simp_all [bodyPostS, results, Try.results64]

theorem catch_idle (p b : Nat) (fv : Value) (w : World) (hp : w.cell? ⟨p, 0, none⟩ = some (.pointer (some ⟨b, 0, none⟩))) (hc : w.cell? ⟨b, 3, none⟩ = some fv) (hz : w.frozen? ⟨b, 3, none⟩ = false) :
    CallsD Try.prog 64 #[.pointer (some ⟨p, 0, none⟩)] .returning w fun e u' w' => e = .returned (.tuple #[]) ∧ u' = .returning ∧ w' = w.setCell ⟨b, 3, none⟩ .nilFunc := by
  refine callsD_of_wpS Try.func64 rfl fun c₀ cs hu => ?_
  apply wpS_seq
  apply wpS_region
  simp [wpOpsS, go_sem, recoverD, hu, Try.ntmps64, Exit.thenS]
  apply wpS_region
  simp [wpOpsS, go_sem, hp, hc, hz]
  cases c₀
  simp_all [bodyPostS, results, Try.results64]
/-- What comes of a maker: a value, a failure (some none), a fall (none). -/
def oV (o : Option (Option Int)) : Int := match o with | some (some v) => v | _ => 0
def oE (o : Option (Option Int)) : Int := match o with | some (some _) => 0 | some none => 72 | none => 73
def oM (o : Option (Option Int)) : Int := match o with | some (some _) => 1 | _ => 0
def Ends (o : Option (Option Int)) (e : Ending) : Prop := match o with
  | some (some v) => e = .returned (.tuple #[.int .i64 v, .bool true])
  | some none => ∃ k, e = .returned (.tuple #[.int .i64 k, .bool false])
  | none => ∃ pv, e = .panicked [{ v := pv, recovered := false }]

theorem run_store32 {a : Addr} {x : Int} {w : World} (hc : w.cell? a = some (.int .u32 x)) (hz : w.frozen? a = false) : (callFunc 91 #[.pointer (some a), .int .u32 1]).run Try.prog w = .ok (.value (.tuple #[])) (w.setCell a (.int .u32 1)) :=
  run_call_store (P := Try.prog) Try.func91 (by kernel_rfl) (by kernel_rfl) (by kernel_rfl) (by kernel_rfl) (k := .u32) (y := 1) hc hz

set_option maxHeartbeats 400000 in
theorem cStore {a : Addr} {x : Int} {w : World} (hc : w.cell? a = some (.int .u32 x)) (hz : w.frozen? a = false) : Calls Try.prog 65 #[.pointer (some a), .bool true] w fun e w' => e = .returned (.tuple #[]) ∧ w' = w.drew.setCell a (.int .u32 1) := by
  have hc' : w.drew.cell? a = some (.int .u32 x) := by go_simp
  have hz' : w.drew.frozen? a = false := by go_simp
  have hst := run_store32 hc' hz'
  obtain ⟨B, o, sp⟩ := a
  go_enter Try.func65, Try.ntmps65
  go_wp2
  go_region_calls
  all_goals (go_end0; exact ⟨rfl, rfl⟩)

set_option maxRecDepth 100000 in
set_option maxHeartbeats 400000 in
theorem cAsk_fell {w : World} {b x g : Nat} {cap : Array Value} {d m : Int} {X' : Obj} (hb : w.heap[b]? = some (onceObj d m (.func (.func g) #[] cap) 0 0 0)) (hx : x < w.heap.size) (hxb : x ≠ b)
    (hg : ∀ w, (callFunc g cap).run Try.prog w = .ok (.enter g cap) w)
    (HM : ∀ w1, Turned [b] w w1 → Calls Try.prog g cap w1 fun e w2 => Ends (none) e ∧ Turned [x] w1 w2 ∧ w2.heap[x]? = some X') :
    Calls Try.prog 48 #[.pointer (some ⟨b, 0, none⟩)] w fun e w' => e = .returned (.tuple #[]) ∧ Turned [b, x] w w' ∧ w'.heap[b]? = some (onceObj d m .nilFunc (oM (none)) (oV (none)) (oE (none))) ∧ w'.heap[x]? = some X' := by
  have hmf : ∀ (fn : Fn) (first cap : Array Value) (w : World), (Instr.makeFunc fn first cap).run Try.prog w = .ok (.func fn first cap) w := fun _ _ _ _ => rfl
  have hnot : ∀ (x : Bool) (w : World), (Op.unary .not (.bool x)).run Try.prog w = .ok (.bool (!x)) w := fun _ _ => rfl
  have hbl := lt_of_heap hb
  have c3 := (cell_at hb 3)
  have c6 := (cell_at hb 6)
  have z6 := froz_at hb 6
  have hne : ¬ b = w.heap.size := by omega
  simp only [List.getElem?_toArray, List.getElem?_cons_succ, List.getElem?_cons_zero] at c3 c6
  have H : Hid _ := HM
  clear HM
  go_enter_defers Try.func48, Try.ntmps48
  go_wp2_with (fail)
  refine (H.out _ (((Turned.refl _ _).set (.inl (by simp)) 6 _).alloc _)).mono ?_
  rintro e w2 ⟨hE, hT, hX⟩
  have hbW := hT.heap (blk_old (blk_set hb 6 (.int .i64 73)) (.cells #[.pointer (some ⟨b, 0, none⟩)] 34)) (by simp; omega)
  have hpW := hT.heap (blk_new (w.setCell ⟨b, 6, none⟩ (.int .i64 73)) (.cells #[.pointer (some ⟨b, 0, none⟩)] 34)) (by simp [World.setCell]; omega)
  have hTT : Turned [b, x] w w2 := (((Turned.refl [b, x] _).set (.inl (by simp)) 6 _).alloc _).trans (hT.mono (by simp))
  have hs2 := lt_of_heap hpW
  simp [World.setCell] at hpW
  have d3 := cell_at hbW 3
  have d4 := cell_at hbW 4
  have d5 := cell_at hbW 5
  have d6 := cell_at hbW 6
  have y3 := froz_at hbW 3
  have y4 := froz_at hbW 4
  have y5 := froz_at hbW 5
  have y6 := froz_at hbW 6
  have p0 := cell_at hpW 0
  simp at d3 d4 d5 d6 p0
  clear c3 c6 z6 hT H
  obtain ⟨pv, rfl⟩ := hE
  refine leaves_cons (f := 64) (args := #[.pointer (some ⟨w.heap.size, 0, none⟩)]) (by simp) (by simp [go_sem]) ?_
  refine (catch_panicking w.heap.size b _ pv [] _ p0 d3 y3).mono ?_
  rintro e u' w'' ⟨rfl, rfl, rfl⟩
  simp [Leaves, settle, results, Try.results48, go_sem]
  refine ⟨hTT.set (.inl (by simp)) 3 _, ?_, ?_⟩
  · rw [blk_set hbW]; simp [oM, oV, oE]
  · rw [blk_other hxb]; exact hX
set_option maxRecDepth 100000 in
set_option maxHeartbeats 400000 in
theorem cAsk_fail {w : World} {b x g : Nat} {cap : Array Value} {d m : Int} {X' : Obj} (hb : w.heap[b]? = some (onceObj d m (.func (.func g) #[] cap) 0 0 0)) (hx : x < w.heap.size) (hxb : x ≠ b)
    (hg : ∀ w, (callFunc g cap).run Try.prog w = .ok (.enter g cap) w)
    (HM : ∀ w1, Turned [b] w w1 → Calls Try.prog g cap w1 fun e w2 => Ends (some none) e ∧ Turned [x] w1 w2 ∧ w2.heap[x]? = some X') :
    Calls Try.prog 48 #[.pointer (some ⟨b, 0, none⟩)] w fun e w' => e = .returned (.tuple #[]) ∧ Turned [b, x] w w' ∧ w'.heap[b]? = some (onceObj d m .nilFunc (oM (some none)) (oV (some none)) (oE (some none))) ∧ w'.heap[x]? = some X' := by
  have hmf : ∀ (fn : Fn) (first cap : Array Value) (w : World), (Instr.makeFunc fn first cap).run Try.prog w = .ok (.func fn first cap) w := fun _ _ _ _ => rfl
  have hnot : ∀ (x : Bool) (w : World), (Op.unary .not (.bool x)).run Try.prog w = .ok (.bool (!x)) w := fun _ _ => rfl
  have hbl := lt_of_heap hb
  have c3 := (cell_at hb 3)
  have c6 := (cell_at hb 6)
  have z6 := froz_at hb 6
  have hne : ¬ b = w.heap.size := by omega
  simp only [List.getElem?_toArray, List.getElem?_cons_succ, List.getElem?_cons_zero] at c3 c6
  have H : Hid _ := HM
  clear HM
  go_enter_defers Try.func48, Try.ntmps48
  go_wp2_with (fail)
  refine (H.out _ (((Turned.refl _ _).set (.inl (by simp)) 6 _).alloc _)).mono ?_
  rintro e w2 ⟨hE, hT, hX⟩
  have hbW := hT.heap (blk_old (blk_set hb 6 (.int .i64 73)) (.cells #[.pointer (some ⟨b, 0, none⟩)] 34)) (by simp; omega)
  have hpW := hT.heap (blk_new (w.setCell ⟨b, 6, none⟩ (.int .i64 73)) (.cells #[.pointer (some ⟨b, 0, none⟩)] 34)) (by simp [World.setCell]; omega)
  have hTT : Turned [b, x] w w2 := (((Turned.refl [b, x] _).set (.inl (by simp)) 6 _).alloc _).trans (hT.mono (by simp))
  have hs2 := lt_of_heap hpW
  simp [World.setCell] at hpW
  have d3 := cell_at hbW 3
  have d4 := cell_at hbW 4
  have d5 := cell_at hbW 5
  have d6 := cell_at hbW 6
  have y3 := froz_at hbW 3
  have y4 := froz_at hbW 4
  have y5 := froz_at hbW 5
  have y6 := froz_at hbW 6
  have p0 := cell_at hpW 0
  simp at d3 d4 d5 d6 p0
  clear c3 c6 z6 hT H
  obtain ⟨k, rfl⟩ := hE
  go_wp2
  refine leaves_cons (f := 64) (args := #[.pointer (some ⟨w.heap.size, 0, none⟩)]) (by simp) (by simp [go_sem]) ?_
  refine (catch_idle w.heap.size b (.func (.func g) #[] cap) _ ?_ ?_ ?_).mono ?_
  · exact (World.cell?_setCell_other _ _ _ _ (by simp)).trans p0
  · exact (World.cell?_setCell_other _ _ _ _ (by simp)).trans d3
  · exact froz_at (blk_set hbW 6 _) 3
  rintro e u' w'' ⟨rfl, rfl, rfl⟩
  simp [Leaves, settle, results, Try.results48, go_sem]
  refine ⟨(hTT.set (.inl (by simp)) 6 _).set (.inl (by simp)) 3 _, ?_, ?_⟩
  · rw [blk_set (blk_set hbW 6 _)]; simp [oM, oV, oE]
  · rw [blk_other hxb, blk_other hxb]; exact hX
set_option maxRecDepth 100000 in
set_option maxHeartbeats 400000 in
theorem cAsk_made {w : World} {b x g : Nat} {cap : Array Value} {d m : Int} {v : Int} {X' : Obj} (hb : w.heap[b]? = some (onceObj d m (.func (.func g) #[] cap) 0 0 0)) (hx : x < w.heap.size) (hxb : x ≠ b)
    (hg : ∀ w, (callFunc g cap).run Try.prog w = .ok (.enter g cap) w)
    (HM : ∀ w1, Turned [b] w w1 → Calls Try.prog g cap w1 fun e w2 => Ends (some (some v)) e ∧ Turned [x] w1 w2 ∧ w2.heap[x]? = some X') :
    Calls Try.prog 48 #[.pointer (some ⟨b, 0, none⟩)] w fun e w' => e = .returned (.tuple #[]) ∧ Turned [b, x] w w' ∧ w'.heap[b]? = some (onceObj d m .nilFunc (oM (some (some v))) (oV (some (some v))) (oE (some (some v)))) ∧ w'.heap[x]? = some X' := by
  have hmf : ∀ (fn : Fn) (first cap : Array Value) (w : World), (Instr.makeFunc fn first cap).run Try.prog w = .ok (.func fn first cap) w := fun _ _ _ _ => rfl
  have hnot : ∀ (x : Bool) (w : World), (Op.unary .not (.bool x)).run Try.prog w = .ok (.bool (!x)) w := fun _ _ => rfl
  have hbl := lt_of_heap hb
  have c3 := (cell_at hb 3)
  have c6 := (cell_at hb 6)
  have z6 := froz_at hb 6
  have hne : ¬ b = w.heap.size := by omega
  simp only [List.getElem?_toArray, List.getElem?_cons_succ, List.getElem?_cons_zero] at c3 c6
  have H : Hid _ := HM
  clear HM
  go_enter_defers Try.func48, Try.ntmps48
  go_wp2_with (fail)
  refine (H.out _ (((Turned.refl _ _).set (.inl (by simp)) 6 _).alloc _)).mono ?_
  rintro e w2 ⟨hE, hT, hX⟩
  have hbW := hT.heap (blk_old (blk_set hb 6 (.int .i64 73)) (.cells #[.pointer (some ⟨b, 0, none⟩)] 34)) (by simp; omega)
  have hpW := hT.heap (blk_new (w.setCell ⟨b, 6, none⟩ (.int .i64 73)) (.cells #[.pointer (some ⟨b, 0, none⟩)] 34)) (by simp [World.setCell]; omega)
  have hTT : Turned [b, x] w w2 := (((Turned.refl [b, x] _).set (.inl (by simp)) 6 _).alloc _).trans (hT.mono (by simp))
  have hs2 := lt_of_heap hpW
  simp [World.setCell] at hpW
  have d3 := cell_at hbW 3
  have d4 := cell_at hbW 4
  have d5 := cell_at hbW 5
  have d6 := cell_at hbW 6
  have y3 := froz_at hbW 3
  have y4 := froz_at hbW 4
  have y5 := froz_at hbW 5
  have y6 := froz_at hbW 6
  have p0 := cell_at hpW 0
  simp at d3 d4 d5 d6 p0
  clear c3 c6 z6 hT H
  have he : e = .returned (.tuple #[.int .i64 v, .bool true]) := hE
  subst he
  clear hE
  have hne2 : ¬ w.heap.size = b := by omega
  go_wp2
  go_region
  all_goals
    go_wp2_with (go_at_call 65; refine (cStore (x := 0) (by go_simp) (by go_simp)).mono ?_; rintro e w' ⟨rfl, rfl⟩)
  all_goals
    refine leaves_cons (f := 64) (args := #[.pointer (some ⟨w.heap.size, 0, none⟩)]) (by simp) (by simp [go_sem]) ?_
    have hb3 := blk_set (blk_set (blk_set hbW 5 (.int .i64 v)) 6 (.int .i64 0)) 4 (.int .u32 1)
    refine (catch_idle w.heap.size b (.func (.func g) #[] cap) _ (by go_simp) (by go_simp) (by go_simp)).mono ?_
    rintro e u' w'' ⟨rfl, rfl, rfl⟩
    refine ⟨_, results_none rfl _ _ _, rfl, ((((hTT.set (.inl (by simp)) 5 _).set (.inl (by simp)) 6 _).set (.inl (by simp)) 4 _).drew.drew.set (.inl (by simp)) 3 _), ?_, ?_⟩
    · exact (blk_set hb3 3 _).trans (by simp [oM, oV, oE])
    · rw [blk_other hxb]
      exact ((blk_other hxb _ _).trans ((blk_other hxb _ _).trans (blk_other hxb _ _))).trans hX
theorem cAsk {w : World} {b x g : Nat} {cap : Array Value} {d m : Int} (o : Option (Option Int)) {X' : Obj} (hb : w.heap[b]? = some (onceObj d m (.func (.func g) #[] cap) 0 0 0)) (hx : x < w.heap.size) (hxb : x ≠ b)
    (hg : ∀ w, (callFunc g cap).run Try.prog w = .ok (.enter g cap) w)
    (HM : ∀ w1, Turned [b] w w1 → Calls Try.prog g cap w1 fun e w2 => Ends o e ∧ Turned [x] w1 w2 ∧ w2.heap[x]? = some X') :
    Calls Try.prog 48 #[.pointer (some ⟨b, 0, none⟩)] w fun e w' => e = .returned (.tuple #[]) ∧ Turned [b, x] w w' ∧ w'.heap[b]? = some (onceObj d m .nilFunc (oM o) (oV o) (oE o)) ∧ w'.heap[x]? = some X' := by
  rcases o with _ | _ | v
  · exact cAsk_fell hb hx hxb hg HM
  · exact cAsk_fail hb hx hxb hg HM
  · exact cAsk_made hb hx hxb hg HM
end Go.Proofs.Ytogcjdbggihbpaa

/- A Once: its Get, the first and each later one; Done. -/
import Derived.Test.YtogcjdbggihbpaaAsk
namespace Go.Proofs.Ytogcjdbggihbpaa
open Go.RowKit Go.Conc Go.MuLone

theorem cStep (w : World) : Calls Try.prog 35 #[.pointer none] w fun e w' => e = .returned (.tuple #[]) ∧ w' = w := by
  go_enter Try.func35, Try.ntmps35
  go_wp2
  refine bodyPost_ret (results_none rfl _ _ _) rfl ?_
  exact ⟨rfl, rfl⟩

theorem store_deferred (a : Addr) (x : Int) (u : FrameMode) (w : World) (hc : w.cell? a = some (.int .u32 x)) (hz : w.frozen? a = false) :
    CallsD Try.prog 65 #[.pointer (some a), .bool true] u w fun e u' w' => u' = u ∧ (e = .returned (.tuple #[]) ∧ w' = w.drew.setCell a (.int .u32 1)) := by
  have hc' : w.drew.cell? a = some (.int .u32 x) := by go_simp
  have hz' : w.drew.frozen? a = false := by go_simp
  have hst := run_store32 hc' hz'
  obtain ⟨B, o, sp⟩ := a
  go_enter_d Try.func65, Try.ntmps65
  go_wp2
  go_region_calls
  all_goals (go_end0; exact ⟨rfl, rfl⟩)

theorem run_load32 {a : Addr} {x : Int} {w : World} (hc : w.cell? a = some (.int .u32 x)) : (callFunc 54 #[.pointer (some a)]).run Try.prog w = .ok (.value (.int .u32 x)) w :=
  run_call_load (P := Try.prog) Try.func54 (by kernel_rfl) (by kernel_rfl) (by kernel_rfl) .u32 (by kernel_rfl) hc

theorem cLoad {a : Addr} {x : Int} {w : World} (hc : w.cell? a = some (.int .u32 x)) : Calls Try.prog 40 #[.pointer (some a)] w fun e w' => e = .returned (.bool (x != 0)) ∧ w' = w := by
  have hl := run_load32 hc
  obtain ⟨B, o, sp⟩ := a
  go_enter Try.func40, Try.ntmps40
  go_wp2
  go_ret
  exact ⟨rfl, rfl⟩

set_option maxRecDepth 100000 in
set_option maxHeartbeats 800000 in
theorem cSlow {w : World} {b x g : Nat} {cap : Array Value} (o : Option (Option Int)) {X' : Obj} (hb : w.heap[b]? = some (onceObj 0 0 (.func (.func g) #[] cap) 0 0 0)) (hx : x < w.heap.size) (hxb : x ≠ b)
    (hg : ∀ w, (callFunc g cap).run Try.prog w = .ok (.enter g cap) w)
    (HM : ∀ w1, Turned [b] w w1 → Calls Try.prog g cap w1 fun e w2 => Ends o e ∧ Turned [x] w1 w2 ∧ w2.heap[x]? = some X') :
    Calls Try.prog 63 #[.pointer (some ⟨b, 0, none⟩), .func (.func 48) #[.pointer (some ⟨b, 0, none⟩)] #[]] w fun e w' => e = .returned (.tuple #[]) ∧ Turned [b, x] w w' ∧ w'.heap[b]? = some (onceObj 1 0 .nilFunc (oM o) (oV o) (oE o)) ∧ w'.heap[x]? = some X' := by
  have hnot : ∀ (x : Bool) (w : World), (Op.unary .not (.bool x)).run Try.prog w = .ok (.bool (!x)) w := fun _ _ => rfl
  have c0 := cell_at hb 0
  have c1 := cell_at hb 1
  have z1 := froz_at hb 1
  simp at c0 c1
  have hb1 : (w.setCell ⟨b, 1, none⟩ (.int .i32 1)).heap[b]? = some (onceObj 0 1 (.func (.func g) #[] cap) 0 0 0) := by rw [blk_set hb]; rfl
  have d0 := cell_at hb1 0
  simp at d0
  have hT1 : Turned [b] w (w.setCell ⟨b, 1, none⟩ (.int .i32 1)) := (Turned.refl _ _).set (.inl (by simp)) 1 _
  have HA := cAsk o hb1 (by simpa [World.setCell] using hx) hxb hg (fun w1 h1 => HM w1 (hT1.trans h1))
  have HB : Hid _ := hb1
  have HT : Hid _ := hT1
  clear HM hb hb1 hT1
  go_enter_defers Try.func63, Try.ntmps63
  go_wp2_with (first
    | (go_at_call 51; refine (lock_free Try.muLib ⟨b, 1, none⟩ _ c1 z1).mono ?_; rintro e w' ⟨rfl, rfl⟩)
    | (go_at_call 40; refine (cLoad d0).mono ?_; rintro e w' ⟨rfl, rfl⟩)
    | (go_at_call 48; refine HA.mono ?_; rintro e w2 ⟨rfl, hT2, hb2, hx2⟩))
  have e0 := cell_at hb2 0
  have y0 := froz_at hb2 0
  simp at e0
  have hb3 : (w2.drew.setCell ⟨b, 0, none⟩ (.int .u32 1)).heap[b]? = some (onceObj 1 1 .nilFunc (oM o) (oV o) (oE o)) := (blk_set (w := w2.drew) hb2 0 (.int .u32 1)).trans (by rfl)
  have f1 := cell_at hb3 1
  simp at f1
  refine leaves_cons (f := 65) (args := #[.pointer (some ⟨b, 0, none⟩), .bool true]) (by simp) (by simp [go_sem]) ?_
  refine (store_deferred ⟨b, 0, none⟩ 0 .returning _ e0 y0).mono ?_
  rintro e u' w'' ⟨rfl, rfl, rfl⟩
  refine leaves_cons (f := 52) (args := #[.pointer (some ⟨b, 1, none⟩)]) (by simp [settle]) (by simp [go_sem]) ?_
  refine (unlock_deferred Try.muLib ⟨b, 1, none⟩ _ _ f1 (froz_at hb3 1)).mono ?_
  rintro e u' w'' ⟨rfl, rfl, rfl⟩
  refine ⟨_, results_none rfl _ _ _, rfl, (((HT.out.mono (by simp)).trans hT2).drew.set (.inl (by simp)) 0 _).set (.inl (by simp)) 1 _, ?_, ?_⟩
  · exact (blk_set hb3 1 _).trans (by rfl)
  · exact (blk_other hxb _ _).trans ((blk_other hxb _ _).trans hx2)

set_option maxRecDepth 100000 in
set_option maxHeartbeats 800000 in
theorem cGetNew {w : World} {b x g : Nat} {cap : Array Value} (o : Option (Option Int)) {X' : Obj} (hb : w.heap[b]? = some (onceObj 0 0 (.func (.func g) #[] cap) 0 0 0)) (hx : x < w.heap.size) (hxb : x ≠ b)
    (hg : ∀ w, (callFunc g cap).run Try.prog w = .ok (.enter g cap) w)
    (HM : ∀ w1, Turned [b] w w1 → Calls Try.prog g cap w1 fun e w2 => Ends o e ∧ Turned [x] w1 w2 ∧ w2.heap[x]? = some X') :
    Calls Try.prog 47 #[.pointer (some ⟨b, 0, none⟩), .func (.func 48) #[.pointer (some ⟨b, 0, none⟩)] #[]] w fun e w' => e = .returned (.tuple #[]) ∧ Turned [b, x] w w' ∧ w'.heap[b]? = some (onceObj 1 0 .nilFunc (oM o) (oV o) (oE o)) ∧ w'.heap[x]? = some X' := by
  have hnot : ∀ (x : Bool) (w : World), (Op.unary .not (.bool x)).run Try.prog w = .ok (.bool (!x)) w := fun _ _ => rfl
  have c0 := cell_at hb 0
  simp at c0
  have HS := cSlow o hb hx hxb hg HM
  clear HM hb
  go_enter Try.func47, Try.ntmps47
  go_wp2_with (first
    | (go_at_call 40; refine (cLoad c0).mono ?_; rintro e w' ⟨rfl, rfl⟩)
    | (go_at_call 63; refine HS.mono ?_; rintro e w2 ⟨rfl, hT2, hb2, hx2⟩))
  go_end0
  exact ⟨rfl, hT2, hb2, hx2⟩
theorem cDoOld {w : World} {b : Nat} {fv fw : Value} {md v e : Int} (hb : w.heap[b]? = some (onceObj 1 0 fv md v e)) :
    Calls Try.prog 47 #[.pointer (some ⟨b, 0, none⟩), fw] w fun e w' => e = .returned (.tuple #[]) ∧ w' = w := by
  have hnot : ∀ (x : Bool) (w : World), (Op.unary .not (.bool x)).run Try.prog w = .ok (.bool (!x)) w := fun _ _ => rfl
  have c0 := cell_at hb 0
  simp at c0
  clear hb
  go_enter Try.func47, Try.ntmps47
  go_wp2_with (go_at_call 40; refine (cLoad c0).mono ?_; rintro e w' ⟨rfl, rfl⟩)
  go_end0
  exact ⟨rfl, rfl⟩
set_option maxRecDepth 100000 in
set_option maxHeartbeats 800000 in
theorem cgetNew {w : World} {b x g : Nat} {cap : Array Value} (o : Option (Option Int)) {X' : Obj} (hb : w.heap[b]? = some (onceObj 0 0 (.func (.func g) #[] cap) 0 0 0)) (hx : x < w.heap.size) (hxb : x ≠ b)
    (hg : ∀ w, (callFunc g cap).run Try.prog w = .ok (.enter g cap) w)
    (HM : ∀ w1, Turned [b] w w1 → Calls Try.prog g cap w1 fun e w2 => Ends o e ∧ Turned [x] w1 w2 ∧ w2.heap[x]? = some X') :
    Calls Try.prog 36 #[.pointer (some ⟨b, 0, none⟩)] w fun e w' => e = .returned (.tuple #[.int .i64 (oV o), .int .i64 (oE o)]) ∧ Turned [b, x] w w' ∧ w'.heap[b]? = some (onceObj 1 0 .nilFunc (oM o) (oV o) (oE o)) ∧ w'.heap[x]? = some X' := by
  have hmf : ∀ (fn : Fn) (first cap : Array Value) (w : World), (Instr.makeFunc fn first cap).run Try.prog w = .ok (.func fn first cap) w := fun _ _ _ _ => rfl
  have HS := cGetNew o hb hx hxb hg HM
  clear HM hb
  go_enter Try.func36, Try.ntmps36
  go_wp2_with (go_at_call 47; refine HS.mono ?_; rintro e w2 ⟨rfl, hT2, hb2, hx2⟩; have c5 := cell_at hb2 5; have c6 := cell_at hb2 6; simp at c5 c6)
  go_region
  all_goals
    go_wp2
    go_ret2
    exact ⟨rfl, hT2.drew, hb2, hx2⟩
set_option maxHeartbeats 800000 in
theorem cgetOld {w : World} {b : Nat} {fv : Value} {md v e : Int} (hb : w.heap[b]? = some (onceObj 1 0 fv md v e)) :
    Calls Try.prog 36 #[.pointer (some ⟨b, 0, none⟩)] w fun r w' => r = .returned (.tuple #[.int .i64 v, .int .i64 e]) ∧ w' = w.drew := by
  have hmf : ∀ (fn : Fn) (first cap : Array Value) (w : World), (Instr.makeFunc fn first cap).run Try.prog w = .ok (.func fn first cap) w := fun _ _ _ _ => rfl
  have c5 := cell_at hb 5
  have c6 := cell_at hb 6
  simp at c5 c6
  go_enter Try.func36, Try.ntmps36
  go_wp2_with (go_at_call 47; refine (cDoOld hb).mono ?_; rintro e w2 ⟨rfl, rfl⟩)
  go_region
  all_goals
    go_wp2
    go_ret2
    exact ⟨rfl, rfl⟩
set_option maxRecDepth 100000 in
theorem cOnceNew {w : World} {b x g : Nat} {cap : Array Value} (o : Option (Option Int)) {X' : Obj} (hb : w.heap[b]? = some (onceObj 0 0 (.func (.func g) #[] cap) 0 0 0)) (hx : x < w.heap.size) (hxb : x ≠ b)
    (hg : ∀ w, (callFunc g cap).run Try.prog w = .ok (.enter g cap) w)
    (HM : ∀ w1, Turned [b] w w1 → Calls Try.prog g cap w1 fun e w2 => Ends o e ∧ Turned [x] w1 w2 ∧ w2.heap[x]? = some X') :
    Calls Try.prog 11 #[.pointer (some ⟨b, 0, none⟩), .pointer none] w fun e w' => e = .returned (.tuple #[.int .i64 (oV o), .int .i64 (oE o)]) ∧ Turned [b, x] w w' ∧ w'.heap[b]? = some (onceObj 1 0 .nilFunc (oM o) (oV o) (oE o)) ∧ w'.heap[x]? = some X' := by
  have HS := cgetNew o hb hx hxb hg HM
  clear HM hb
  go_enter Try.func11, Try.ntmps11
  go_wp2_with (first
    | (go_at_call 35; refine (cStep _).mono ?_; rintro e w' ⟨rfl, rfl⟩)
    | (go_at_call 36; refine HS.mono ?_; rintro e w2 ⟨rfl, hT2, hb2, hx2⟩))
  go_ret2
  exact ⟨rfl, hT2, hb2, hx2⟩
theorem cOnceOld {w : World} {b : Nat} {fv : Value} {md v e : Int} (hb : w.heap[b]? = some (onceObj 1 0 fv md v e)) :
    Calls Try.prog 11 #[.pointer (some ⟨b, 0, none⟩), .pointer none] w fun r w' => r = .returned (.tuple #[.int .i64 v, .int .i64 e]) ∧ w' = w.drew := by
  go_enter Try.func11, Try.ntmps11
  go_wp2_with (first
    | (go_at_call 35; refine (cStep _).mono ?_; rintro e w' ⟨rfl, rfl⟩)
    | (go_at_call 36; refine (cgetOld hb).mono ?_; rintro e w2 ⟨rfl, rfl⟩))
  go_ret2
  exact ⟨rfl, rfl⟩
theorem cDone {w : World} {b : Nat} {fv : Value} {d m md v e : Int} (hb : w.heap[b]? = some (onceObj d m fv md v e)) :
    Calls Try.prog 15 #[.pointer (some ⟨b, 0, none⟩), .pointer none] w fun r w' => r = .returned (.bool (md != 0)) ∧ w' = w := by
  have c4 := cell_at hb 4
  simp at c4
  clear hb
  go_enter Try.func15, Try.ntmps15
  go_wp2_with (first
    | (go_at_call 35; refine (cStep _).mono ?_; rintro e w' ⟨rfl, rfl⟩)
    | (go_at_call 40; refine (cLoad c4).mono ?_; rintro e w' ⟨rfl, rfl⟩))
  go_ret
  exact ⟨rfl, rfl⟩
theorem cNewOnce (w : World) (g : Nat) (cap : Array Value) : Calls Try.prog 6 #[.func (.func g) #[] cap] w fun e w' => e = .returned (.pointer (some ⟨w.heap.size, 0, none⟩)) ∧ w' = w.alloc (onceObj 0 0 (.func (.func g) #[] cap) 0 0 0) := by
  go_enter Try.func6, Try.ntmps6
  go_wp2
  go_ret
  exact ⟨rfl, rfl⟩
end Go.Proofs.Ytogcjdbggihbpaa

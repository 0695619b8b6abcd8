/- The law's own makers. -/
import Derived.Test.YtogcjdbggihbpaaOnce
namespace Go.Proofs.Ytogcjdbggihbpaa
open Go.RowKit Go.Conc Go.MuLone

theorem Try.rtNil : Try.prog.rt.panicNilError = 16 := by kernel_rfl
theorem run_sysenv (w : World) : (sys .env).run Try.prog w = .ok (.strings w.os.env) w := rfl
theorem run_panic_nil (w : World) : ∃ v w', (Instr.panic .nilIface).run Try.prog w = .halt (.panic v) w' ∧ Below w.heap.size w w' := by
  unfold Instr.panic Instr.panicnil
  simp only [Sem.run_bind, run_sysenv, Result.andThen_ok, Sem.run_pure]
  have hp : (program).run Try.prog w = .ok Try.prog w := rfl
  simp only [hp, Result.andThen_ok]
  split
  · exact ⟨.nilIface, w, rfl, Below.refl _ _⟩
  · refine ⟨.iface 16 (.pointer (some ⟨w.heap.size, 0, none⟩)), w.alloc (.cells #[] 186), ?_, (Below.refl _ _).alloc (Nat.le_refl _) _⟩
    simp [runtimePanic, hp, elemOf, Try.runUnderlying16, newVar, newRow, goPanic, go_sem]
abbrev oneObj (F : Int) (L : Bool) (V c : Int) : Obj := .cells #[.int .i64 F, .bool L, .int .i64 V, .int .i64 c] 33 (0, 0)
/-- What comes of the c-th call of a maker. -/
def out (F : Int) (L : Bool) (V c : Int) : Option (Option Int) := if F < c then some (some V) else if L then none else some none
def nextV (F : Int) (L : Bool) (V c : Int) : Int := if F < c then 1 else if L then (if V.tmod 2 = 0 then 2 else 3) else 0

theorem tmod2 (V : Int) : V.tmod 2 = -1 ∨ V.tmod 2 = 0 ∨ V.tmod 2 = 1 := by
  rcases Int.le_total 0 V with h | h
  · rw [Int.tmod_eq_emod_of_nonneg h]; omega
  · have e : V.tmod 2 = -((-V).tmod 2) := by rw [Int.neg_tmod, Int.neg_neg]
    rw [e, Int.tmod_eq_emod_of_nonneg (by omega)]; omega
set_option maxHeartbeats 800000 in
theorem cNext {w : World} {x : Nat} {F : Int} {L : Bool} {V c : Int} (hx : w.heap[x]? = some (oneObj F L V c)) (h0 : 0 ≤ c) (h1 : c ≤ 1000) :
    Calls Try.prog 33 #[.pointer (some ⟨x, 0, none⟩)] w fun e w' => e = .returned (.int .i64 (nextV F L V (c + 1))) ∧ w' = (w.setCell ⟨x, 3, none⟩ (.int .i64 (c + 1))).drew := by
  have c0 := cell_at hx 0
  have c1 := cell_at hx 1
  have c2 := cell_at hx 2
  have c3 := cell_at hx 3
  have z3 := froz_at hx 3
  simp at c0 c1 c2 c3
  clear hx
  have hw : wrap64 (c + 1) = c + 1 := by unfold wrap64; omega
  by_cases hF : F < c + 1
  · have hn : nextV F L V (c + 1) = 1 := by simp [nextV, hF]
    go_enter Try.func33, Try.ntmps33
    go_wp2
    go_region
    all_goals
      go_wp2
      go_ret
      exact ⟨by rw [hn]; rfl, rfl⟩
  · cases L with
    | false =>
      have hn : nextV F false V (c + 1) = 0 := by simp [nextV, hF]
      go_enter Try.func33, Try.ntmps33
      go_wp2
      go_region
      all_goals
        go_wp2
        go_ret
        exact ⟨by rw [hn]; rfl, rfl⟩
    | true =>
      rcases tmod2 V with hv | hv | hv
      all_goals
        have hn : nextV F true V (c + 1) = if V.tmod 2 = 0 then 2 else 3 := by simp [nextV, hF]
        rw [hv] at hn
        go_enter Try.func33, Try.ntmps33
        go_wp2
        go_region
        all_goals
          go_wp2
          go_ret
          exact ⟨by rw [hn]; rfl, rfl⟩
set_option maxHeartbeats 800000 in
theorem cMaker1 {w : World} {x p : Nat} {F : Int} {L : Bool} {V c : Int} (hp : w.cell? ⟨p, 0, none⟩ = some (.pointer (some ⟨x, 0, none⟩))) (hpx : p ≠ x) (hx : w.heap[x]? = some (oneObj F L V c)) (h0 : 0 ≤ c) (h1 : c ≤ 1000) :
    Calls Try.prog 32 #[.pointer (some ⟨p, 0, none⟩)] w fun e w' => Ends (out F L V (c + 1)) e ∧ Turned [x] w w' ∧ w'.heap[x]? = some (oneObj F L V (c + 1)) := by
  have hN := cNext hx h0 h1
  have hT : Turned [x] w ((w.setCell ⟨x, 3, none⟩ (.int .i64 (c + 1))).drew) := ((Turned.refl _ _).set (.inl (by simp)) 3 _).drew
  have hx2 : ((w.setCell ⟨x, 3, none⟩ (.int .i64 (c + 1))).drew).heap[x]? = some (oneObj F L V (c + 1)) := (blk_set hx 3 _).trans (by rfl)
  have hp2 : ((w.setCell ⟨x, 3, none⟩ (.int .i64 (c + 1))).drew).cell? ⟨p, 0, none⟩ = some (.pointer (some ⟨x, 0, none⟩)) := hT.cell hp (by simpa using hpx)
  clear hx
  generalize (w.setCell ⟨x, 3, none⟩ (.int .i64 (c + 1))).drew = w1 at hN hT hx2 hp2
  have c2 := cell_at hx2 2
  simp at c2
  by_cases hF : F < c + 1
  · have hn : nextV F L V (c + 1) = 1 := by simp [nextV, hF]
    have ho : out F L V (c + 1) = some (some V) := by simp [out, hF]
    rw [hn] at hN
    rw [ho]
    go_enter Try.func32, Try.ntmps32
    go_wp2_with (go_at_call 33; refine hN.mono ?_; rintro e w' ⟨rfl, rfl⟩)
    go_ret2
    exact ⟨rfl, hT, hx2⟩
  · cases L with
    | false =>
      have hn : nextV F false V (c + 1) = 0 := by simp [nextV, hF]
      have ho : out F false V (c + 1) = some none := by simp [out, hF]
      rw [hn] at hN
      rw [ho]
      go_enter Try.func32, Try.ntmps32
      go_wp2_with (go_at_call 33; refine hN.mono ?_; rintro e w' ⟨rfl, rfl⟩)
      go_ret2
      exact ⟨⟨77, rfl⟩, hT, hx2⟩
    | true =>
      have ho : out F true V (c + 1) = none := by simp [out, hF]
      rw [ho]
      by_cases hv : V.tmod 2 = 0
      · have hn : nextV F true V (c + 1) = 2 := by simp [nextV, hF, hv]
        rw [hn] at hN
        go_enter Try.func32, Try.ntmps32
        go_wp2_with (go_at_call 33; refine hN.mono ?_; rintro e w' ⟨rfl, rfl⟩)
        exact ⟨rfl, ⟨_, rfl⟩, hT, hx2⟩
      · have hn : nextV F true V (c + 1) = 3 := by simp [nextV, hF, hv]
        rw [hn] at hN
        obtain ⟨pv, w3, hr, hB⟩ := run_panic_nil w1
        go_enter Try.func32, Try.ntmps32
        go_wp2_with (go_at_call 33; refine hN.mono ?_; rintro e w' ⟨rfl, rfl⟩)
        exact ⟨rfl, ⟨_, rfl⟩, hT.trans (Turned.of hB), (hB.block _ (lt_of_heap hx2)).trans hx2⟩
theorem cMaker (w : World) (x : Nat) : Calls Try.prog 7 #[.pointer (some ⟨x, 0, none⟩)] w fun e w' => e = .returned (.func (.func 32) #[] #[.pointer (some ⟨w.heap.size, 0, none⟩)]) ∧ w' = w.alloc (.cells #[.pointer (some ⟨x, 0, none⟩)] 29) := by
  have hmf : ∀ (fn : Fn) (first cap : Array Value) (w : World), (Instr.makeFunc fn first cap).run Try.prog w = .ok (.func fn first cap) w := fun _ _ _ _ => rfl
  go_enter Try.func7, Try.ntmps7
  go_wp2
  go_ret
  exact ⟨rfl, rfl⟩
set_option maxHeartbeats 800000 in
theorem cThird {w : World} {i n cap b3 g3 z : Nat} {F : Int} {L : Bool} {V c : Int} (h3 : w.cell? ⟨b3, 0, none⟩ = some (.slice (some ⟨g3, 0, none⟩) n cap)) (hi : i < n) (hz : w.cell? ⟨g3, i, none⟩ = some (.pointer (some ⟨z, 0, none⟩)))
    (hx : w.heap[z]? = some (oneObj F L V c)) (h0 : 0 ≤ c) (h1 : c ≤ 1000) :
    Calls Try.prog 10 #[.int .i64 i, .pointer (some ⟨b3, 0, none⟩)] w fun e w' => Ends (out F L V (c + 1)) e ∧ Turned [z] w w' ∧ w'.heap[z]? = some (oneObj F L V (c + 1)) := by
  have hzl := lt_of_heap hx
  have HM := cMaker1 (w := w.alloc (.cells #[.pointer (some ⟨z, 0, none⟩)] 29)) (x := z) (p := w.heap.size) (by simp) (by omega) (blk_old hx _) h0 h1
  have hT0 : Turned [z] w (w.alloc (.cells #[.pointer (some ⟨z, 0, none⟩)] 29)) := (Turned.refl _ _).alloc _
  clear hx
  generalize ho : out F L V (c + 1) = o at HM ⊢
  clear ho
  rcases o with _ | _ | v
  all_goals
    go_enter Try.func10, Try.ntmps10
    go_wp2_with (first
      | (go_at_call 7; refine (cMaker _ z).mono ?_; rintro e w' ⟨rfl, rfl⟩)
      | (go_at_call 32; refine HM.mono ?_; rintro e w' ⟨hE, hT, hX⟩; first | (obtain ⟨pv, rfl⟩ := hE) | (have hE' : e = .returned (.tuple #[.int .i64 v, .bool true]) := hE; subst hE'; clear hE)))
  · exact ⟨rfl, ⟨_, rfl⟩, hT0.trans hT, hX⟩
  · go_ret2
    exact ⟨⟨_, rfl⟩, hT0.trans hT, hX⟩
  · go_ret2
    exact ⟨rfl, hT0.trans hT, hX⟩
set_option maxHeartbeats 800000 in
theorem cTableMaker {w : World} {i n cap b3 g3 z pf pi : Nat} {F : Int} {L : Bool} {V c : Int} (hf : w.cell? ⟨pf, 0, none⟩ = some (.func (.func 10) #[] #[.pointer (some ⟨b3, 0, none⟩)])) (hpi : w.cell? ⟨pi, 0, none⟩ = some (.int .i64 i))
    (h3 : w.cell? ⟨b3, 0, none⟩ = some (.slice (some ⟨g3, 0, none⟩) n cap)) (hi : i < n) (hz : w.cell? ⟨g3, i, none⟩ = some (.pointer (some ⟨z, 0, none⟩)))
    (hx : w.heap[z]? = some (oneObj F L V c)) (h0 : 0 ≤ c) (h1 : c ≤ 1000) :
    Calls Try.prog 34 #[.pointer (some ⟨pf, 0, none⟩), .pointer (some ⟨pi, 0, none⟩)] w fun e w' => Ends (out F L V (c + 1)) e ∧ Turned [z] w w' ∧ w'.heap[z]? = some (oneObj F L V (c + 1)) := by
  have HM := cThird h3 hi hz hx h0 h1
  clear hx h3 hz
  generalize ho : out F L V (c + 1) = o at HM ⊢
  clear ho
  rcases o with _ | _ | v
  all_goals
    go_enter Try.func34, Try.ntmps34
    go_wp2_with (go_at_call 10; refine HM.mono ?_; rintro e w' ⟨hE, hT, hX⟩; first | (obtain ⟨pv, rfl⟩ := hE) | (have hE' : e = .returned (.tuple #[.int .i64 v, .bool true]) := hE; subst hE'; clear hE))
  · exact ⟨rfl, ⟨_, rfl⟩, hT, hX⟩
  · go_ret2
    exact ⟨⟨_, rfl⟩, hT, hX⟩
  · go_ret2
    exact ⟨rfl, hT, hX⟩
theorem hg29 (cap : Array Value) (w : World) : (callFunc 29 cap).run Try.prog w = .ok (.enter 29 cap) w := by simp [go_sem]
theorem hg30 (cap : Array Value) (w : World) : (callFunc 30 cap).run Try.prog w = .ok (.enter 30 cap) w := by simp [go_sem]
theorem hg31 (cap : Array Value) (w : World) : (callFunc 31 cap).run Try.prog w = .ok (.enter 31 cap) w := by simp [go_sem]
theorem hg32 (cap : Array Value) (w : World) : (callFunc 32 cap).run Try.prog w = .ok (.enter 32 cap) w := by simp [go_sem]
theorem hg34 (cap : Array Value) (w : World) : (callFunc 34 cap).run Try.prog w = .ok (.enter 34 cap) w := by simp [go_sem]
end Go.Proofs.Ytogcjdbggihbpaa

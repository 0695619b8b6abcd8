/- A Retry: its Get, while there is no value, and behind that; Done. -/
import Derived.Test.YtogcjdbggihbpaaRef
namespace Go.Proofs.Ytogcjdbggihbpaa
theorem run_convert_toU {P : Program} {src dst t : TypeId} (hs : P.underlying src = some (.pointer t)) (hd : P.underlying dst = some .unsafePointer) (hsz : (P.info? t).map (fun i => decide (i.size = 0)) = some false) {b o : Nat} {v : Value} {w : World} (hc : w.cell? ⟨b, o, none⟩ = some v) : (convert src dst (.pointer (some ⟨b, o, none⟩))).run P w = .ok (.pointer (some ⟨b, o, none⟩)) w := by
  obtain ⟨e, n, hsh, hlt, hsp⟩ := World.shape?_of_cell? hc
  obtain ⟨i, hi, hz0⟩ := Option.map_eq_some_iff.1 hsz
  have hz : i.size ≠ 0 := by simpa using hz0
  have hge : ¬ (n ≤ o) := by show ¬ (n ≤ (⟨b, o, none⟩ : Addr).off); omega
  simp [convert, Conv.unsafePointer, Conv.seenAt, viewAt, cellsIn, sizeOf, typeInfo, run_underlying hs, run_underlying hd, hi, hz, hsh, hge, Result.andThen]
open Go.RowKit Go.Conc Go.MuLone

abbrev retryObj (m : Int) (fv : Value) (k : Option Addr) : Obj := .cells #[.int .i32 m, .int .u32 0, fv, .pointer k] 93 (0, 0)

theorem conv_nil (w : World) : (convert 89 34 (.pointer none)).run Try.prog w = .ok (.pointer none) w := by
  simp [convert, Conv.unsafePointer, run_underlying Try.underlying89, run_underlying Try.underlying34]
theorem lies87 : liesAt Try.prog Try.prog.depth 87 (7 / Try.prog.cellsOf 87) 0 87 1 = true := by kernel_rfl
theorem size87 : (Try.prog.info? 87).map (fun i => decide (i.size = 0)) = some false := by kernel_rfl
theorem conv_some {w : World} {b : Nat} {cs : Array Value} (hb : w.heap[b]? = some (.cells cs 87 (0, 0))) (hs : cs.size = 7) : (convert 89 34 (.pointer (some ⟨b, 0, none⟩))).run Try.prog w = .ok (.pointer (some ⟨b, 0, none⟩)) w := by
  obtain ⟨i, hi, hz0⟩ := Option.map_eq_some_iff.1 size87
  have hz : i.size ≠ 0 := by simpa using hz0
  have hsh : w.shape? b = some (87, 7) := by simp [World.shape?, hb, hs]
  have hp : (program).run Try.prog w = .ok Try.prog w := rfl
  simp [convert, Conv.unsafePointer, Conv.seenAt, viewAt, variablesAt, sizeOf, typeInfo, run_underlying Try.underlying89, run_underlying Try.underlying34, hi, hz, hsh, hp, lies87, Result.andThen]
theorem run_loadp {a : Addr} {p : Option Addr} {w : World} (hc : w.cell? a = some (.pointer p)) : (callFunc 50 #[.pointer (some a)]).run Try.prog w = .ok (.value (.pointer p)) w := by
  rw [run_callFunc_extern (P := Try.prog) Try.func50 (by kernel_rfl) (by kernel_rfl) (by kernel_rfl) (e := Extern.Atomic.loadT .ptr) (by kernel_rfl)]
  change (Sem.run Try.prog (do Extern.Atomic.read .ptr (← asAddr (.pointer (some a)))) w).andThen _ = _
  simp [Extern.Atomic.read, asAddr, hc, Result.andThen]
theorem run_storep {a : Addr} {p : Option Addr} {u : Value} {w : World} (hc : w.cell? a = some u) (hz : w.frozen? a = false) : (callFunc 68 #[.pointer (some a), .pointer p]).run Try.prog w = .ok (.value (.tuple #[])) (w.setCell a (.pointer p)) := by
  rw [run_callFunc_extern (P := Try.prog) Try.func68 (by kernel_rfl) (by kernel_rfl) (by kernel_rfl) (e := Extern.Atomic.storeT) (by kernel_rfl)]
  change (Sem.run Try.prog (do
    store (← asAddr (.pointer (some a))) (.pointer p) .atomic
    pure Extern.Atomic.none_) w).andThen _ = _
  simp [asAddr, hc, hz, run_store Try.prog w a (.pointer p) .atomic rfl, Result.andThen, Extern.Atomic.none_]
theorem cLoadNil {a : Addr} {w : World} (hc : w.cell? a = some (.pointer none)) : Calls Try.prog 38 #[.pointer (some a)] w fun e w' => e = .returned (.pointer none) ∧ w' = w := by
  have hl := run_loadp hc
  have hv := conv_nil w
  obtain ⟨B, o, sp⟩ := a
  go_enter Try.func38, Try.ntmps38
  go_wp2
  go_ret
  exact ⟨rfl, rfl⟩
theorem cLoadSome {a : Addr} {w : World} {b : Nat} {cs : Array Value} (hc : w.cell? a = some (.pointer (some ⟨b, 0, none⟩))) (hb : w.heap[b]? = some (.cells cs 87 (0, 0))) (hs : cs.size = 7) : Calls Try.prog 38 #[.pointer (some a)] w fun e w' => e = .returned (.pointer (some ⟨b, 0, none⟩)) ∧ w' = w := by
  have hl := run_loadp hc
  have hv := conv_some hb hs
  obtain ⟨B, o, sp⟩ := a
  go_enter Try.func38, Try.ntmps38
  go_wp2
  go_ret
  exact ⟨rfl, rfl⟩
theorem cStorep {a : Addr} {w : World} {b : Nat} {u v : Value} (hc : w.cell? a = some u) (hz : w.frozen? a = false) (hb : w.cell? ⟨b, 0, none⟩ = some v) : Calls Try.prog 53 #[.pointer (some a), .pointer (some ⟨b, 0, none⟩)] w fun e w' => e = .returned (.tuple #[]) ∧ w' = w.setCell a (.pointer (some ⟨b, 0, none⟩)) := by
  have hl := run_storep (p := some ⟨b, 0, none⟩) hc hz
  have hv := run_convert_toU (P := Try.prog) (src := 34) (dst := 89) Try.underlying34 Try.underlying89 size87 hb
  obtain ⟨B, o, sp⟩ := a
  go_enter Try.func53, Try.ntmps53
  go_wp2
  go_end0
  exact ⟨rfl, rfl⟩
theorem cNewRetry (w : World) (g : Nat) (cap : Array Value) : Calls Try.prog 8 #[.func (.func g) #[] cap] w fun e w' => e = .returned (.pointer (some ⟨w.heap.size, 0, none⟩)) ∧ w' = w.alloc (retryObj 0 (.func (.func g) #[] cap) none) := by
  go_enter Try.func8, Try.ntmps8
  go_wp2
  go_ret
  exact ⟨rfl, rfl⟩
def madeB (o : Option (Option Int)) : Bool := match o with | some (some _) => true | _ => false
def keptObj (o : Option (Option Int)) (nb g : Nat) (cap : Array Value) : Obj := match o with | some (some _) => retryObj 0 .nilFunc (some ⟨nb, 0, none⟩) | _ => retryObj 0 (.func (.func g) #[] cap) none
theorem kept_made {o : Option (Option Int)} (h : madeB o = true) (nb g : Nat) (cap : Array Value) : keptObj o nb g cap = retryObj 0 .nilFunc (some ⟨nb, 0, none⟩) := by
  rcases o with _ | _ | v <;> simp_all [madeB, keptObj]
theorem kept_not {o : Option (Option Int)} (h : madeB o = false) (nb g : Nat) (cap : Array Value) : keptObj o nb g cap = retryObj 0 (.func (.func g) #[] cap) none := by
  rcases o with _ | _ | v <;> simp_all [madeB, keptObj]
theorem oE_made {o : Option (Option Int)} (h : madeB o = true) : oE o = 0 := by
  rcases o with _ | _ | v <;> simp_all [madeB, oE]
theorem oE_not {o : Option (Option Int)} (h : madeB o = false) : (oE o == 0) = false := by
  rcases o with _ | _ | v <;> simp_all [madeB, oE]
set_option maxRecDepth 100000 in
set_option maxHeartbeats 1600000 in
theorem cTry {w : World} {r x g : Nat} {cap : Array Value} (o : Option (Option Int)) {X' : Obj} (hr : w.heap[r]? = some (retryObj 0 (.func (.func g) #[] cap) none)) (hx : x < w.heap.size) (hxr : x ≠ r)
    (hg : ∀ w, (callFunc g cap).run Try.prog w = .ok (.enter g cap) w)
    (HM : ∀ w1, Turned [r] w w1 → Calls Try.prog g cap w1 fun e w2 => Ends o e ∧ Turned [x] w1 w2 ∧ w2.heap[x]? = some X') :
    Calls Try.prog 39 #[.pointer (some ⟨r, 0, none⟩)] w fun e w' => e = .returned (.pointer (some ⟨w.heap.size, 0, none⟩)) ∧ Turned [r, x] w w' ∧ w'.heap[w.heap.size]? = some (onceObj 1 0 .nilFunc (oM o) (oV o) (oE o)) ∧
      w'.heap[r]? = some (keptObj o w.heap.size g cap) ∧ w'.heap[x]? = some X' := by
  have hrl := lt_of_heap hr
  have c0 := cell_at hr 0
  have z0 := froz_at hr 0
  have hr1 : (w.setCell ⟨r, 0, none⟩ (.int .i32 1)).heap[r]? = some (retryObj 1 (.func (.func g) #[] cap) none) := (blk_set hr 0 _).trans (by simp)
  have d2 := cell_at hr1 2
  have d3 := cell_at hr1 3
  have hsz : (w.setCell ⟨r, 0, none⟩ (.int .i32 1)).heap.size = w.heap.size := by simp [World.setCell]
  have hN := cNewOnce (w.setCell ⟨r, 0, none⟩ (.int .i32 1)) g cap
  have hnb := blk_new (w.setCell ⟨r, 0, none⟩ (.int .i32 1)) (onceObj 0 0 (.func (.func g) #[] cap) 0 0 0)
  rw [hsz] at hnb hN
  have hT0 : Turned [r, x] w ((w.setCell ⟨r, 0, none⟩ (.int .i32 1)).alloc (onceObj 0 0 (.func (.func g) #[] cap) 0 0 0)) := ((Turned.refl _ _).set (.inl (by simp)) 0 _).alloc _
  have HG := cgetNew (w := (w.setCell ⟨r, 0, none⟩ (.int .i32 1)).alloc (onceObj 0 0 (.func (.func g) #[] cap) 0 0 0)) (b := w.heap.size) (x := x) o hnb (by simp; omega) (by omega) hg
    (fun w1 h1 => HM w1 ((((Turned.refl [r] w).set (.inl (by simp)) 0 _).alloc _).inner h1 (by simp)))
  have hr2 := blk_old hr1 (onceObj 0 0 (.func (.func g) #[] cap) 0 0 0)
  have HR2 : Hid _ := hr2
  have HT0 : Hid _ := hT0
  clear HM hr hr1 hnb hr2 hT0
  simp at c0 d2 d3
  cases hm : madeB o with
  | true =>
    have hE := oE_made hm
    rw [kept_made hm]
    rw [hE] at HG
    rw [hE]
    go_enter_defers Try.func39, Try.ntmps39
    go_wp2_with (first
      | (go_at_call 51; refine (lock_free Try.muLib ⟨r, 0, none⟩ _ c0 z0).mono ?_; rintro e w' ⟨rfl, rfl⟩)
      | (go_at_call 38; refine (cLoadNil d3).mono ?_; rintro e w' ⟨rfl, rfl⟩)
      | (go_at_call 6; refine hN.mono ?_; rintro e w' ⟨rfl, rfl⟩)
      | (go_at_call 36; refine HG.mono ?_; rintro e w2 ⟨rfl, hT, hnb, hX⟩; have hr3 := hT.heap HR2.out (by simp; omega); have e2 := cell_at hr3 2; have y2 := froz_at hr3 2; have e3 := cell_at hr3 3; have y3 := froz_at hr3 3; have n0 := cell_at hnb 0; simp at e2 e3 n0)
      | (go_at_call 53; refine (cStorep e3 y3 n0).mono ?_; rintro e w' ⟨rfl, rfl⟩))
    have hr4 := blk_set (blk_set hr3 3 (.pointer (some ⟨w.heap.size, 0, none⟩))) 2 .nilFunc
    have q0 := cell_at hr4 0
    simp at q0
    refine leaves_cons (f := 52) (args := #[.pointer (some ⟨r, 0, none⟩)]) (by simp) (by simp [go_sem]) ?_
    refine (unlock_deferred Try.muLib ⟨r, 0, none⟩ .returning _ (by go_simp) (froz_at hr4 0)).mono ?_
    rintro e u' w'' ⟨rfl, rfl, rfl⟩
    have hnr : w.heap.size ≠ r := by omega
    refine ⟨_, results_tmp rfl _ _ _, rfl, (((HT0.out.inner hT (by simp)).set (.inl (by simp)) 3 _).set (.inl (by simp)) 2 _).set (.inl (by simp)) 0 _, ?_, ?_, ?_⟩
    · rw [blk_other hnr, blk_other hnr, blk_other hnr]; exact hnb
    · exact (blk_set hr4 0 _).trans (by simp)
    · rw [blk_other hxr, blk_other hxr, blk_other hxr]; exact hX
  | false =>
    have hE := oE_not hm
    rw [kept_not hm]
    go_enter_defers Try.func39, Try.ntmps39
    go_wp2_with (first
      | (go_at_call 51; refine (lock_free Try.muLib ⟨r, 0, none⟩ _ c0 z0).mono ?_; rintro e w' ⟨rfl, rfl⟩)
      | (go_at_call 38; refine (cLoadNil d3).mono ?_; rintro e w' ⟨rfl, rfl⟩)
      | (go_at_call 6; refine hN.mono ?_; rintro e w' ⟨rfl, rfl⟩)
      | (go_at_call 36; refine HG.mono ?_; rintro e w2 ⟨rfl, hT, hnb, hX⟩; have hr3 := hT.heap HR2.out (by simp; omega)))
    have q0 := cell_at hr3 0
    simp at q0
    refine leaves_cons (f := 52) (args := #[.pointer (some ⟨r, 0, none⟩)]) (by simp) (by simp [go_sem]) ?_
    refine (unlock_deferred Try.muLib ⟨r, 0, none⟩ .returning _ q0 (froz_at hr3 0)).mono ?_
    rintro e u' w'' ⟨rfl, rfl, rfl⟩
    have hnr : w.heap.size ≠ r := by omega
    refine ⟨_, results_tmp rfl _ _ _, rfl, (HT0.out.inner hT (by simp)).set (.inl (by simp)) 0 _, ?_, ?_, ?_⟩
    · rw [blk_other hnr]; exact hnb
    · exact (blk_set hr3 0 _).trans (by simp)
    · rw [blk_other hxr]; exact hX
set_option maxHeartbeats 800000 in
theorem cRetryNew {w : World} {r x g : Nat} {cap : Array Value} (o : Option (Option Int)) {X' : Obj} (hr : w.heap[r]? = some (retryObj 0 (.func (.func g) #[] cap) none)) (hx : x < w.heap.size) (hxr : x ≠ r)
    (hg : ∀ w, (callFunc g cap).run Try.prog w = .ok (.enter g cap) w)
    (HM : ∀ w1, Turned [r] w w1 → Calls Try.prog g cap w1 fun e w2 => Ends o e ∧ Turned [x] w1 w2 ∧ w2.heap[x]? = some X') :
    Calls Try.prog 13 #[.pointer (some ⟨r, 0, none⟩), .pointer none] w fun e w' => e = .returned (.tuple #[.int .i64 (oV o), .int .i64 (oE o)]) ∧ Turned [r, x] w w' ∧ w'.heap[w.heap.size]? = some (onceObj 1 0 .nilFunc (oM o) (oV o) (oE o)) ∧
      w'.heap[r]? = some (keptObj o w.heap.size g cap) ∧ w'.heap[x]? = some X' := by
  have d3 := cell_at hr 3
  simp at d3
  have HT := cTry o hr hx hxr hg HM
  clear HM hr
  go_enter Try.func13, Try.ntmps13
  go_wp2_with (first
    | (go_at_call 35; refine (cStep _).mono ?_; rintro e w' ⟨rfl, rfl⟩)
    | (go_at_call 38; refine (cLoadNil d3).mono ?_; rintro e w' ⟨rfl, rfl⟩)
    | (go_at_call 39; refine HT.mono ?_; rintro e w2 ⟨rfl, hT, hnb, hR, hX⟩)
    | (go_at_call 36; refine (cgetOld hnb).mono ?_; rintro e w2 ⟨rfl, rfl⟩))
  go_ret2
  exact ⟨rfl, hT.drew, hnb, hR, hX⟩
set_option maxHeartbeats 800000 in
theorem cRetryOld {w : World} {r b : Nat} {fv fw : Value} {md v e : Int} (hr : w.heap[r]? = some (retryObj 0 fv (some ⟨b, 0, none⟩))) (hb : w.heap[b]? = some (onceObj 1 0 fw md v e)) :
    Calls Try.prog 13 #[.pointer (some ⟨r, 0, none⟩), .pointer none] w fun r w' => r = .returned (.tuple #[.int .i64 v, .int .i64 e]) ∧ w' = w.drew := by
  have d3 := cell_at hr 3
  simp at d3
  clear hr
  go_enter Try.func13, Try.ntmps13
  go_wp2_with (first
    | (go_at_call 35; refine (cStep _).mono ?_; rintro e w' ⟨rfl, rfl⟩)
    | (go_at_call 38; refine (cLoadSome d3 hb rfl).mono ?_; rintro e w' ⟨rfl, rfl⟩)
    | (go_at_call 36; refine (cgetOld hb).mono ?_; rintro e w2 ⟨rfl, rfl⟩))
  go_ret2
  exact ⟨rfl, rfl⟩
theorem cRDoneNot {w : World} {r : Nat} {fv : Value} (hr : w.heap[r]? = some (retryObj 0 fv none)) :
    Calls Try.prog 16 #[.pointer (some ⟨r, 0, none⟩), .pointer none] w fun r w' => r = .returned (.bool false) ∧ w' = w := by
  have d3 := cell_at hr 3
  simp at d3
  clear hr
  go_enter Try.func16, Try.ntmps16
  go_wp2_with (first
    | (go_at_call 35; refine (cStep _).mono ?_; rintro e w' ⟨rfl, rfl⟩)
    | (go_at_call 38; refine (cLoadNil d3).mono ?_; rintro e w' ⟨rfl, rfl⟩))
  go_ret
  exact ⟨rfl, rfl⟩
theorem cRDone {w : World} {r b : Nat} {fv fw : Value} {md v e : Int} (hr : w.heap[r]? = some (retryObj 0 fv (some ⟨b, 0, none⟩))) (hb : w.heap[b]? = some (onceObj 1 0 fw md v e)) :
    Calls Try.prog 16 #[.pointer (some ⟨r, 0, none⟩), .pointer none] w fun r w' => r = .returned (.bool true) ∧ w' = w := by
  have d3 := cell_at hr 3
  simp at d3
  clear hr
  go_enter Try.func16, Try.ntmps16
  go_wp2_with (first
    | (go_at_call 35; refine (cStep _).mono ?_; rintro e w' ⟨rfl, rfl⟩)
    | (go_at_call 38; refine (cLoadSome d3 hb rfl).mono ?_; rintro e w' ⟨rfl, rfl⟩))
  go_ret
  exact ⟨rfl, rfl⟩
end Go.Proofs.Ytogcjdbggihbpaa

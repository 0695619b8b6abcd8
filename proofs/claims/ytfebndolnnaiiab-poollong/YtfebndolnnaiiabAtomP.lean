/- sync/atomic's Pointer, alone. -/
import Derived.Test.YtfebndolnnaiiabAtom
namespace Go.Proofs.Ytfebndolnnaiiab
open Go.RowKit
section
variable {P : Program} {f : FuncId} {fn : Func} {a : Addr} {w : World} {q r : Option Addr}
theorem run_call_loadP (hf : P.funcs[f]? = some fn) (hname : (fn.name == "runtime.NumGoroutine") = false) (hb : fn.body.isNone = true) (hn : Extern.findNext fn = none)
    (he : Extern.find fn = some (Extern.Atomic.loadT .ptr)) (hc : w.cell? a = some (.pointer q)) :
    (callFunc f #[.pointer (some a)]).run P w = .ok (.value (.pointer q)) w := by
  rw [run_callFunc_extern hf hname hb hn he]
  change (Sem.run P (do Extern.Atomic.read .ptr (← asAddr (.pointer (some a)))) w).andThen _ = _
  simp [Extern.Atomic.read, asAddr, hc, Result.andThen]
theorem run_call_storeP (hf : P.funcs[f]? = some fn) (hname : (fn.name == "runtime.NumGoroutine") = false) (hb : fn.body.isNone = true) (hn : Extern.findNext fn = none)
    (he : Extern.find fn = some Extern.Atomic.storeT) {u : Value} (hc : w.cell? a = some u) (hz : w.frozen? a = false) :
    (callFunc f #[.pointer (some a), .pointer q]).run P w = .ok (.value (.tuple #[])) (w.setCell a (.pointer q)) := by
  rw [run_callFunc_extern hf hname hb hn he]
  change (Sem.run P (do
    store (← asAddr (.pointer (some a))) (.pointer q) .atomic
    pure Extern.Atomic.none_) w).andThen _ = _
  simp [asAddr, hc, hz, run_store P w a (.pointer q) .atomic rfl, Result.andThen, Extern.Atomic.none_]
theorem run_call_casP (hf : P.funcs[f]? = some fn) (hname : (fn.name == "runtime.NumGoroutine") = false) (hb : fn.body.isNone = true) (hn : Extern.findNext fn = none)
    (he : Extern.find fn = some (Extern.Atomic.casT .ptr)) {c : Addr} (hc : w.cell? a = some (.pointer (some c))) (hz : w.frozen? a = false) :
    (callFunc f #[.pointer (some a), .pointer (some c), .pointer r]).run P w = .ok (.value (.bool true)) (w.setCell a (.pointer r)) := by
  rw [run_callFunc_extern hf hname hb hn he]
  change (Sem.run P (do
    let a' ← asAddr (.pointer (some a))
    if ← Extern.Atomic.touchesFrozen a' then unsupported (.unsafePointer "a write to bytes that a string shares")
    let eq ← match Extern.Atomic.T.ptr, ← Extern.Atomic.read .ptr a', Value.pointer (some c) with
      | _, .int _ x, .int _ y => pure (x == y)
      | .ptr, .pointer x, .pointer y => samePointer x y
      | .int _, .pointer (some _), .int _ 0 | .int _, .int _ 0, .pointer (some _) => pure false
      | .int _, .pointer (some _), _ | .int _, _, .pointer (some _) => unsupported .addressObserved
      | _, _, _ => stuck "atomic.CompareAndSwap: old is no T"
    if eq then store a' (.pointer r) .atomic
    pure (Value.bool eq)) w).andThen _ = _
  simp [Extern.Atomic.touchesFrozen, Extern.Atomic.read, asAddr, viewAt, samePointer, sameAddr, World.shape?_isSome_of_cell? hc, hc, hz, run_store P w a (.pointer r) .atomic rfl, Result.andThen]
theorem run_convert_fromU {src dst u : TypeId} (hs : P.underlying src = some .unsafePointer) (hd : P.underlying dst = some (.pointer u)) {cs : Array Value} {b : Nat} (hb : w.heap[b]? = some (.cells cs u (0, 0)))
    (hi : (P.info? u).isSome = true) (hl : liesAt P P.depth u (cs.size / P.cellsOf u) 0 u 1 = true) : (convert src dst (.pointer (some ⟨b, 0, none⟩))).run P w = .ok (.pointer (some ⟨b, 0, none⟩)) w := by
  have hsh : w.shape? b = some (u, cs.size) := by simp [World.shape?, hb]
  obtain ⟨i, hi⟩ := Option.isSome_iff_exists.1 hi
  simp [convert, Conv.unsafePointer, Conv.seenAt, viewAt, variablesAt, sizeOf, typeInfo, hi, run_underlying hs, run_underlying hd, hsh, hl, Result.andThen]
end
abbrev lifeCells (g a b c d m l : Value) : Array Value := #[g, a, b, c, d, m, l]
theorem lies7 : liesAt Try.prog Try.prog.depth 66 (7 / Try.prog.cellsOf 66) 0 66 1 = true := by kernel_rfl
theorem cv_from {cs : Array Value} {b : Nat} {w : World} (hb : w.heap[b]? = some (.cells cs 66 (0, 0))) (hs : cs.size = 7) : (convert 68 64 (.pointer (some ⟨b, 0, none⟩))).run Try.prog w = .ok (.pointer (some ⟨b, 0, none⟩)) w :=
  run_convert_fromU (by kernel_rfl) (by kernel_rfl) hb (by kernel_rfl) (by rw [hs]; exact lies7)
theorem cv_to {cs : Array Value} {b : Nat} {w : World} (hb : w.heap[b]? = some (.cells cs 66 (0, 0))) (hs : cs.size = 7) : (convert 64 68 (.pointer (some ⟨b, 0, none⟩))).run Try.prog w = .ok (.pointer (some ⟨b, 0, none⟩)) w := by
  have hsh : w.shape? b = some (66, cs.size) := by simp [World.shape?, hb]
  obtain ⟨i, hi, hz0⟩ := Option.map_eq_some_iff.1 (show (Try.prog.info? 66).map (fun i => decide (i.size = 0)) = some false by kernel_rfl)
  have hz : i.size ≠ 0 := by simpa using hz0
  have hne : cs ≠ #[] := by intro e; rw [e] at hs; simp at hs
  simp [convert, Conv.unsafePointer, Conv.seenAt, viewAt, cellsIn, sizeOf, typeInfo, run_underlying (show Try.prog.underlying 64 = some (.pointer 66) by kernel_rfl), run_underlying (show Try.prog.underlying 68 = some .unsafePointer by kernel_rfl), hi, hz, hsh, hne, Result.andThen]
set_option maxRecDepth 100000 in
theorem cPLoad {a : Addr} {b : Nat} {cs : Array Value} {w : World} (hc : w.cell? a = some (.pointer (some ⟨b, 0, none⟩))) (hb : w.heap[b]? = some (.cells cs 66 (0, 0))) (hs : cs.size = 7) : Calls Try.prog 21 #[.pointer (some a)] w fun e w' => e = .returned (.pointer (some ⟨b, 0, none⟩)) ∧ w' = w := by
  have hl := run_call_loadP (P := Try.prog) Try.func41 (by kernel_rfl) (by kernel_rfl) (by kernel_rfl) (by kernel_rfl) hc
  have hv := cv_from hb hs
  obtain ⟨B, o, sp⟩ := a
  go_enter Try.func21, Try.ntmps21
  go_wp2
  go_ret
  exact ⟨rfl, rfl⟩
set_option maxRecDepth 100000 in
theorem cPStore {a : Addr} {u : Value} {b : Nat} {cs : Array Value} {w : World} (hc : w.cell? a = some u) (hz : w.frozen? a = false) (hb : w.heap[b]? = some (.cells cs 66 (0, 0))) (hs : cs.size = 7) : Calls Try.prog 19 #[.pointer (some a), .pointer (some ⟨b, 0, none⟩)] w fun e w' => e = .returned (.tuple #[]) ∧ w' = w.setCell a (.pointer (some ⟨b, 0, none⟩)) := by
  have hl := run_call_storeP (P := Try.prog) Try.func37 (by kernel_rfl) (by kernel_rfl) (by kernel_rfl) (by kernel_rfl) (q := some ⟨b, 0, none⟩) hc hz
  have hv := cv_to hb hs
  obtain ⟨B, o, sp⟩ := a
  go_enter Try.func19, Try.ntmps19
  go_wp2
  go_end0
  exact ⟨rfl, rfl⟩
set_option maxRecDepth 100000 in
theorem cPCas {a : Addr} {b c : Nat} {bs cs : Array Value} {w : World} (hc : w.cell? a = some (.pointer (some ⟨b, 0, none⟩))) (hz : w.frozen? a = false) (hb : w.heap[b]? = some (.cells bs 66 (0, 0))) (hbs : bs.size = 7) (hd : w.heap[c]? = some (.cells cs 66 (0, 0))) (hcs : cs.size = 7) : Calls Try.prog 22 #[.pointer (some a), .pointer (some ⟨b, 0, none⟩), .pointer (some ⟨c, 0, none⟩)] w fun e w' => e = .returned (.bool true) ∧ w' = w.setCell a (.pointer (some ⟨c, 0, none⟩)) := by
  have hl := run_call_casP (P := Try.prog) Try.func42 (by kernel_rfl) (by kernel_rfl) (by kernel_rfl) (by kernel_rfl) (r := some ⟨c, 0, none⟩) hc hz
  have hv := cv_to hb hbs
  have hv2 := cv_to hd hcs
  obtain ⟨B, o, sp⟩ := a
  go_enter Try.func22, Try.ntmps22
  go_wp2
  go_ret
  exact ⟨rfl, rfl⟩
end Go.Proofs.Ytfebndolnnaiiab

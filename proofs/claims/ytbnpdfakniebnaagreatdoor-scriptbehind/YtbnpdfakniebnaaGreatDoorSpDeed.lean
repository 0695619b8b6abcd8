/-
  What each word does, as maps that the reader makes: atFirst, further, inRepeat by contract. (By the verifier; no statement.)
-/
import Derived.Test.YtbnpdfakniebnaaGreatDoorSpMap
namespace Go.Proofs.YtbnpdfakniebnaaGreatDoor
open Go.RowKit
theorem und_deeds : Tryz.prog.underlying 94 = some (.map 9 154) := by kernel_rfl
abbrev dCall : Nat := 204
/-- What each word does: ahead of the first line, behind it, within a repeat. -/
def deedF : Nat → Bs → Option Nat
  | 0, x => if x = wParts then some 129 else none
  | 1, x => if kindB x ≠ 0 then some dCall else if x = wRepeat then some 196 else if x = wUntil then some 195 else if x = wHalt then some 194 else if x = wTurns then some 193 else if x = wWorker then some 192 else if x = wSource then some 191 else none
  | _, x => if kindB x ≠ 0 then some dCall else if x = wEnd then some 219 else none
theorem DM.putS {w : World} {b : Nat} {f : Bs → Option Nat} (h : DM w b f) (k : Bs) (v : Nat) : ∃ w', (Instr.mapUpdate 94 (.map (some b)) (.string ⟨k.toArray⟩) (.func (.func v) #[] #[])).run Tryz.prog w = .ok () w' ∧ Turned [b] w w' ∧ DM w' b (fun x => if x = k then some v else f x) := GM.put h keyStr und_deeds k v
theorem DM.alloc {w : World} {b : Nat} {f : Bs → Option Nat} (h : DM w b f) (o : Obj) : DM (w.alloc o) b f := GM.keep h ((Turned.refl [] w).alloc o) (by simp)
set_option maxRecDepth 100000 in
set_option maxHeartbeats 3200000 in
theorem cWith {w : World} {b : Nat} {f : Bs → Option Nat} (hT : TabC w) (h : DM w b f) : Calls Tryz.prog 190 #[.map (some b)] w fun r w' => r = .returned (.map (some b)) ∧ Turned [b] w w' ∧ DM w' b (fun x => if kindB x ≠ 0 then some dCall else f x) := by
  have HT : Hid (TabC w) := hT
  have H0 : Hid (DM w b f) := h
  clear hT h
  go_enter Tryz.func190, Tryz.ntmps190
  go_wp2_with (refine wpList_load_mid rfl 182 (.global 1) rfl 1 0 rfl tabV (.array 20 181) HT.out.at_ (by kernel_rfl) rfl (by kernel_rfl) ?_)
  generalize hA : tabV.toArray = A
  have HA : Hid (tabV.toArray = A) := hA
  clear hA
  go_loopg [6] 20 (fun g v wr => Hid (∃ i : Nat, v = .int .i64 i ∧ i + g = 20 ∧ Turned [b] w wr ∧ DM wr b (fun x => if x ∈ words1 i then some dCall else f x)))
  case atStart => exact ⟨0, rfl, rfl, Turned.refl _ _, by have := H0.out; simpa [words1] using this⟩
  case round =>
    obtain ⟨i, rfl, hi, ht, hD⟩ := hrel.out
    clear hrel
    have HTu : Hid _ := ht
    have HD : Hid _ := hD
    clear hD ht
    by_cases h20 : i < 20
    · obtain ⟨⟨wd, n, pb⟩, -, hq, hx⟩ := idx_row h20
      rw [HA.out] at hx
      obtain ⟨g, rfl⟩ : ∃ g, gk = g + 1 := ⟨gk - 1, by omega⟩
      by_cases h0 : 0 < i
      · have hst := words1_step h0 hq
        have HE : Hid (∀ W, DM W b (fun x => if x = wd then some dCall else if x ∈ words1 i then some dCall else f x) → DM W b (fun x => if x ∈ words1 (i + 1) then some dCall else f x)) := fun W h => by
          have : (fun x => if x = wd then some dCall else if x ∈ words1 i then some dCall else f x) = (fun x => if x ∈ words1 (i + 1) then some dCall else f x) := by
            funext x
            rw [hst]
            by_cases e : x = wd
            · simp [e]
            · simp [e]
          rw [← this]
          exact h
        clear hst hq
        obtain ⟨w2, hput, hT2, hG2⟩ := DM.putS (DM.alloc HD.out (.cells #[sV wd, .int .i64 n, .bool pb] 181 (0, 0))) wd dCall
        have HT2 : Hid _ := hT2
        have HG2 : Hid _ := hG2
        clear hT2 hG2
        go_wp2
        go_roundg g
        case rel => exact ⟨i + 1, by simp, by omega, (HTu.out.alloc _).trans HT2.out, HE.out _ HG2.out⟩
        · omega
      · obtain rfl : i = 0 := by omega
        clear hq
        have hx0 : ∀ w, (Instr.index 182 (.agg A) (.int .i64 0)).run Tryz.prog w = .ok (.agg #[sV wd, .int .i64 n, .bool pb]) w := hx
        clear hx
        go_wp2
        go_roundg g
        case rel => exact ⟨1, rfl, by omega, HTu.out.alloc _, DM.alloc HD.out _⟩
        · omega
    · obtain rfl : i = 20 := by omega
      have HE : Hid (DM wr b (fun x => if kindB x ≠ 0 then some dCall else f x)) := by
        have e : (fun x => if x ∈ words1 20 then some dCall else f x) = (fun x => if kindB x ≠ 0 then some dCall else f x) := by
          funext x
          by_cases hx : x ∈ words1 20
          · rw [if_pos hx, if_pos ((kindB_words x).1 hx)]
          · rw [if_neg hx, if_neg (fun h => hx ((kindB_words x).2 h))]
        rw [Hid, ← e]
        exact HD.out
      go_wp2
      go_ret
      exact ⟨rfl, HTu.out, HE.out⟩
set_option maxRecDepth 100000 in
set_option maxHeartbeats 3200000 in
theorem cAtFirst {w : World} : Calls Tryz.prog 84 #[] w fun r w' => ∃ mb, r = .returned (.map (some mb)) ∧ Turned [] w w' ∧ w.heap.size ≤ mb ∧ DM w' mb (deedF 0) := by
  obtain ⟨w1, p1, t1, g1⟩ := DM.putS (GM.made (ek := ekS) (ev := fV) w) wParts 129
  have HT : Hid (Turned [] w w1) := ((Turned.refl [] w).alloc _).inner t1 (by simp)
  have HG : Hid _ := g1
  clear t1 g1
  unfold wParts at p1
  have hmm := @run_makeMap Tryz.prog
  go_enter Tryz.func84, Tryz.ntmps84
  go_wp2
  go_ret
  exact ⟨_, rfl, HT.out, Nat.le_refl _, HG.out⟩
set_option maxRecDepth 100000 in
set_option maxHeartbeats 3200000 in
theorem cInRepeat {w : World} (hT : TabC w) : Calls Tryz.prog 210 #[] w fun r w' => ∃ mb, r = .returned (.map (some mb)) ∧ Turned [] w w' ∧ w.heap.size ≤ mb ∧ DM w' mb (deedF 2) := by
  obtain ⟨w1, p1, t1, g1⟩ := DM.putS (GM.made (ek := ekS) (ev := fV) w) wEnd 219
  have HT : Hid (Turned [] w w1) := ((Turned.refl [] w).alloc _).inner t1 (by simp)
  have HG : Hid _ := g1
  have HC : Hid _ := hT.still HT.out
  clear t1 g1 hT
  unfold wEnd at p1
  have hmm := @run_makeMap Tryz.prog
  go_enter Tryz.func210, Tryz.ntmps210
  go_wp2_with (go_at_call 190; refine (cWith HC.out HG.out).mono ?_; rintro r1 w2 ⟨rfl, ht, hD⟩; have HT2 : Hid _ := ht; have HD : Hid _ := hD; clear ht hD)
  go_ret
  exact ⟨_, rfl, HT.out.inner HT2.out (by simp), Nat.le_refl _, HD.out⟩
set_option maxRecDepth 100000 in
set_option maxHeartbeats 3200000 in
theorem cFurther {w : World} (hT : TabC w) : Calls Tryz.prog 157 #[] w fun r w' => ∃ mb, r = .returned (.map (some mb)) ∧ Turned [] w w' ∧ w.heap.size ≤ mb ∧ DM w' mb (deedF 1) := by
  obtain ⟨w1, p1, t1, g1⟩ := DM.putS (GM.made (ek := ekS) (ev := fV) w) wSource 191
  obtain ⟨w2, p2, t2, g2⟩ := DM.putS g1 wWorker 192
  obtain ⟨w3, p3, t3, g3⟩ := DM.putS g2 wTurns 193
  obtain ⟨w4, p4, t4, g4⟩ := DM.putS g3 wHalt 194
  obtain ⟨w5, p5, t5, g5⟩ := DM.putS g4 wUntil 195
  obtain ⟨w6, p6, t6, g6⟩ := DM.putS g5 wRepeat 196
  have HT : Hid (Turned [] w w6) := ((Turned.refl [] w).alloc _).inner (((((t1.trans t2).trans t3).trans t4).trans t5).trans t6) (by simp)
  have HG : Hid _ := g6
  have HC : Hid _ := hT.still HT.out
  clear t1 t2 t3 t4 t5 t6 g1 g2 g3 g4 g5 g6 hT
  unfold wSource at p1
  unfold wWorker at p2
  unfold wTurns at p3
  unfold wHalt at p4
  unfold wUntil at p5
  unfold wRepeat at p6
  have hmm := @run_makeMap Tryz.prog
  go_enter Tryz.func157, Tryz.ntmps157
  go_wp2_with (go_at_call 190; refine (cWith HC.out HG.out).mono ?_; rintro r1 w7 ⟨rfl, ht, hD⟩; have HT2 : Hid _ := ht; have HD : Hid _ := hD; clear ht hD)
  go_ret
  exact ⟨_, rfl, HT.out.inner HT2.out (by simp), Nat.le_refl _, HD.out⟩
end Go.Proofs.YtbnpdfakniebnaaGreatDoor

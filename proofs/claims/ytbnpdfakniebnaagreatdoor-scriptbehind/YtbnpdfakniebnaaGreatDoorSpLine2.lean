/-
  A line's methods by contract: number, named, numberFrom, end, atMost. (By the verifier; no statement.)
-/
import Derived.Test.YtbnpdfakniebnaaGreatDoorSpLine
namespace Go.Proofs.YtbnpdfakniebnaaGreatDoor
open Go.RowKit
/-- A line in memory, on the way from w0. -/
structure LS (w0 w : World) (lb : Nat) (f : Bs) (s : Ln) : Prop where
  tu : Turned [lb] w0 w
  at_ : LnAt w lb f s
theorem LnAt.ls {w : World} {lb : Nat} {f : Bs} {s : Ln} (h : LnAt w lb f s) : LS w w lb f s := ⟨Turned.refl _ _, h⟩
theorem LnAt.next_len {w : World} {lb : Nat} {f : Bs} {s : Ln} (h : LnAt w lb f s) : s.next.1.length ≤ 140737488355328 := by
  obtain ⟨b, o, c, _, _, _, _, _, _, _, hc, _, _⟩ := h.cells
  unfold Ln.next
  cases hw : s.ws with
  | nil => simp
  | cons x r =>
    by_cases he : s.err = 0
    · simp only [he, if_true]
      exact (hc x r hw).2.2
    · simp [he]
theorem size_of (x : Bs) : (⟨x.toArray⟩ : ByteArray).size = x.length := by rw [Lib.size_eq]
section
variable {w0 w : World} {lb : Nat} {f : Bs} {s : Ln}
theorem cFaultS (h : LS w0 w lb f s) (e : Nat) : Calls Tryz.prog 189 #[LP lb, .int .i64 e] w fun r w' => r = .returned (.tuple #[]) ∧ LS w0 w' lb f (s.fault e) :=
  (cFault h.at_ e).mono fun _ _ ⟨h1, h2, h3⟩ => ⟨h1, h.tu.trans h2, h3⟩
theorem cMoreS (h : LS w0 w lb f s) : Calls Tryz.prog 155 #[LP lb] w fun r w' => r = .returned (.bool s.more) ∧ w' = w := cMore h.at_
theorem cNextS (h : LS w0 w lb f s) : Calls Tryz.prog 188 #[LP lb] w fun r w' => r = .returned (sV s.next.1) ∧ LS w0 w' lb f s.next.2 :=
  (cNext h.at_).mono fun _ _ ⟨h1, h2, h3⟩ => ⟨h1, h.tu.trans h2, h3⟩
set_option maxRecDepth 100000 in
set_option maxHeartbeats 1600000 in
theorem cNumber (h : LS w0 w lb f s) : Calls Tryz.prog 153 #[LP lb] w fun r w' => r = .returned (.int .i64 s.number.1) ∧ LS w0 w' lb f s.number.2 := by
  have hlen := h.at_.next_len
  rw [← size_of] at hlen
  have hN : Hid (s.number = match numB s.next.1 with | some n => (n, s.next.2) | none => (0, s.next.2.fault 221)) := by
    rw [Hid, Ln.number]
    cases numB s.next.1 <;> rfl
  have hc := @cNextS w0 w lb f s h
  generalize s.next.1 = x at *
  generalize s.next.2 = t at *
  generalize s.number = R at *
  clear h
  cases hx : numB x with
  | some n =>
    rw [hx] at hN
    have hN' : Hid (R = (n, t)) := hN
    clear hN
    go_enter Tryz.func153, Tryz.ntmps153
    go_wp2_with (first | (go_at_call 188; refine hc.mono ?_; rintro r1 w1 ⟨rfl, hL⟩; clear hc) | (go_at_call 187; refine (cNumOf hlen).mono ?_; rintro r1 w2 ⟨rfl, rfl⟩; rw [hx]))
    go_ret
    rw [hN'.out]
    exact ⟨rfl, hL⟩
  | none =>
    rw [hx] at hN
    have hN' : Hid (R = (0, t.fault 221)) := hN
    clear hN
    go_enter Tryz.func153, Tryz.ntmps153
    go_wp2_with (first | (go_at_call 188; refine hc.mono ?_; rintro r1 w1 ⟨rfl, hL⟩; clear hc) | (go_at_call 187; refine (cNumOf hlen).mono ?_; rintro r1 w2 ⟨rfl, rfl⟩; rw [hx]) | (go_at_call 189; refine (cFaultS hL 221).mono ?_; rintro r1 w3 ⟨rfl, hL2⟩))
    go_ret
    rw [hN'.out]
    exact ⟨rfl, hL2⟩
set_option maxRecDepth 100000 in
set_option maxHeartbeats 1600000 in
theorem cEndL (h : LS w0 w lb f s) : Calls Tryz.prog 156 #[LP lb] w fun r w' => r = .returned (.tuple #[]) ∧ LS w0 w' lb f s.fin := by
  cases hm : s.more with
  | true =>
    have hN : Hid (s.fin = s.fault 220) := by rw [Hid, Ln.fin, hm]; rfl
    go_enter Tryz.func156, Tryz.ntmps156
    go_wp2_with (first | (go_at_call 155; refine (cMoreS h).mono ?_; rintro r1 w1 ⟨rfl, rfl⟩; rw [hm]) | (go_at_call 189; refine (cFaultS h 220).mono ?_; rintro r1 w3 ⟨rfl, hL2⟩))
    refine bodyPost_end (results_none rfl _ _ _) rfl ?_
    rw [hN.out]
    exact ⟨rfl, hL2⟩
  | false =>
    have hN : Hid (s.fin = s) := by rw [Hid, Ln.fin, hm]; rfl
    go_enter Tryz.func156, Tryz.ntmps156
    go_wp2_with (first | (go_at_call 155; refine (cMoreS h).mono ?_; rintro r1 w1 ⟨rfl, rfl⟩; rw [hm]))
    refine bodyPost_end (results_none rfl _ _ _) rfl ?_
    rw [hN.out]
    exact ⟨rfl, h⟩
set_option maxRecDepth 100000 in
set_option maxHeartbeats 1600000 in
theorem cAtMost (h : LS w0 w lb f s) (n m : Int) : Calls Tryz.prog 206 #[LP lb, .int .i64 n, .int .i64 m] w fun r w' => r = .returned (.tuple #[]) ∧ LS w0 w' lb f (s.atMost n m) := by
  by_cases hm : m < n
  · have hN : Hid (s.atMost n m = s.fault 223) := by rw [Hid, Ln.atMost, if_pos hm]
    go_enter Tryz.func206, Tryz.ntmps206
    go_wp2_with (first | (go_at_call 189; refine (cFaultS h 223).mono ?_; rintro r1 w3 ⟨rfl, hL2⟩))
    refine bodyPost_end (results_none rfl _ _ _) rfl ?_
    rw [hN.out]
    exact ⟨rfl, hL2⟩
  · have hN : Hid (s.atMost n m = s) := by rw [Hid, Ln.atMost, if_neg hm]
    go_enter Tryz.func206, Tryz.ntmps206
    go_wp2_with (fail)
    refine bodyPost_end (results_none rfl _ _ _) rfl ?_
    rw [hN.out]
    exact ⟨rfl, h⟩
set_option maxRecDepth 100000 in
set_option maxHeartbeats 1600000 in
theorem cNumFrom (h : LS w0 w lb f s) (lo hi : Int) : Calls Tryz.prog 209 #[LP lb, .int .i64 lo, .int .i64 hi] w fun r w' => r = .returned (.int .i64 (s.numberFrom lo hi).1) ∧ LS w0 w' lb f (s.numberFrom lo hi).2 := by
  have hc := @cNumber w0 w lb f s h
  have hN : Hid (s.numberFrom lo hi = (s.number.1, if s.number.1 < lo ∨ hi < s.number.1 then s.number.2.fault 221 else s.number.2)) := rfl
  generalize s.numberFrom lo hi = R at *
  generalize s.number.1 = n at *
  generalize s.number.2 = t at *
  clear h
  by_cases hb : n < lo ∨ hi < n
  · have hN' : Hid (R = (n, t.fault 221)) := by rw [Hid, hN.out, if_pos hb]
    clear hN
    go_enter Tryz.func209, Tryz.ntmps209
    go_wp2_with (first | (go_at_call 153; refine hc.mono ?_; rintro r1 w1 ⟨rfl, hL⟩; clear hc) | (go_at_call 189; refine (cFaultS hL 221).mono ?_; rintro r1 w3 ⟨rfl, hL2⟩))
    all_goals (go_ret; rw [hN'.out]; exact ⟨rfl, hL2⟩)
  · have hN' : Hid (R = (n, t)) := by rw [Hid, hN.out, if_neg hb]
    clear hN
    go_enter Tryz.func209, Tryz.ntmps209
    go_wp2_with (first | (go_at_call 153; refine hc.mono ?_; rintro r1 w1 ⟨rfl, hL⟩; clear hc) | (go_at_call 189; refine (cFaultS hL 221).mono ?_; rintro r1 w3 ⟨rfl, hL2⟩))
    all_goals (go_ret; rw [hN'.out]; exact ⟨rfl, hL⟩)
theorem eq_bytes (x y : Bs) : ((⟨x.toArray⟩ : ByteArray).toList = (⟨y.toArray⟩ : ByteArray).toList) = (x = y) := by
  rw [ByteArray.toList_eq, ByteArray.toList_eq]
set_option maxRecDepth 100000 in
set_option maxHeartbeats 1600000 in
theorem cNamed (h : LS w0 w lb f s) (y : Bs) : Calls Tryz.prog 154 #[LP lb, sV y] w fun r w' => r = .returned (.int .i64 (s.named y).1) ∧ LS w0 w' lb f (s.named y).2 := by
  have hc := @cNextS w0 w lb f s h
  have hN : Hid (s.named y = (if s.next.1 = y then s.next.2 else s.next.2.fault 220).number) := rfl
  generalize s.named y = R at *
  generalize s.next.1 = x at *
  generalize s.next.2 = t at *
  clear h
  by_cases hb : x = y
  · have hN' : Hid (R = t.number) := by rw [Hid, hN.out, if_pos hb]
    subst hb
    clear hN
    go_enter Tryz.func154, Tryz.ntmps154
    go_wp2_with (first | (go_at_call 188; refine hc.mono ?_; rintro r1 w1 ⟨rfl, hL⟩; clear hc) | (go_at_call 153; refine (cNumber hL).mono ?_; rintro r1 w3 ⟨rfl, hL2⟩))
    go_ret
    rw [hN'.out]
    exact ⟨rfl, hL2⟩
  · have hN' : Hid (R = (t.fault 220).number) := by rw [Hid, hN.out, if_neg hb]
    have hb1 : (x == y) = false := by simpa using hb
    clear hN
    go_enter Tryz.func154, Tryz.ntmps154
    go_wp2_with (first | (go_at_call 188; refine hc.mono ?_; rintro r1 w1 ⟨rfl, hL⟩; clear hc) | (go_at_call 189; refine (cFaultS hL 220).mono ?_; rintro r1 w3 ⟨rfl, hL3⟩) | (go_at_call 153; refine (cNumber hL3).mono ?_; rintro r1 w3 ⟨rfl, hL2⟩))
    go_ret
    rw [hN'.out]
    exact ⟨rfl, hL2⟩
end
end Go.Proofs.YtbnpdfakniebnaaGreatDoor

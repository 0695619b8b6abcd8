/-
  A line in memory; its methods by contract: more, fault, next. (By the verifier; no statement.)
-/
import Derived.Test.YtbnpdfakniebnaaGreatDoorSpDig
import Derived.Test.YtbnpdfakniebnaaGreatDoorSpRow
namespace Go.Proofs.YtbnpdfakniebnaaGreatDoor
open Go.RowKit
abbrev sV (l : Bs) : Value := .string ⟨l.toArray⟩
abbrev LP (b : Nat) : Value := .pointer (some ⟨b, 0, none⟩)
/-- What is left of a line, in memory. -/
structure LnAt (w : World) (lb : Nat) (f : Bs) (s : Ln) : Prop where
  ex : ∃ b o c cs, w.heap[lb]? = some (.cells #[sV f, .slice (some ⟨b, o, none⟩) s.ws.length c, .int .i64 s.err] 152 (0, 0)) ∧ w.heap[b]? = some (.cells cs 9 (0, 0)) ∧ s.ws.length ≤ c ∧ c ≤ 140737488355328 ∧ ∀ (i : Nat) (h : i < s.ws.length), cs[o + i]? = some (sV s.ws[i]) ∧ s.ws[i].length ≤ 140737488355328
theorem tyne {w : World} {a b : Nat} {cs ds : Array Value} {T U : TypeId} (h : w.heap[a]? = some (.cells cs T (0, 0))) (k : w.heap[b]? = some (.cells ds U (0, 0))) (hne : T ≠ U) : a ≠ b := by
  intro e
  subst e
  rw [h] at k
  simp only [Option.some.injEq, Obj.cells.injEq] at k
  exact hne k.2.1
section
variable {w w' : World} {lb : Nat} {f : Bs} {s : Ln}
theorem LnAt.keep {F : List Nat} (h : LnAt w lb f s) (ht : Turned F w w') (hl : lb ∉ F) (hF : ∀ b cs, w.heap[b]? = some (.cells cs 9 (0, 0)) → b ∉ F) : LnAt w' lb f s := by
  obtain ⟨b, o, c, cs, h1, h2, h3, h4, h5⟩ := h.ex
  exact ⟨b, o, c, cs, ht.heap h1 hl, ht.heap h2 (hF b cs h2), h3, h4, h5⟩
theorem LnAt.still (h : LnAt w lb f s) (ht : Turned [] w w') : LnAt w' lb f s := h.keep ht (by simp) (by simp)
theorem LnAt.type (h : LnAt w lb f s) : ∃ cs, w.heap[lb]? = some (.cells cs 152 (0, 0)) := by
  obtain ⟨b, o, c, cs, h1, _⟩ := h.ex
  exact ⟨_, h1⟩
theorem LnAt.lt (h : LnAt w lb f s) : lb < w.heap.size := by
  obtain ⟨b, o, c, cs, h1, _⟩ := h.ex
  exact lt_of_heap h1
/-- A block of another type turns. -/
theorem LnAt.off (h : LnAt w lb f s) {F : List Nat} (ht : Turned F w w') (hF : ∀ b ∈ F, ∃ cs T, w.heap[b]? = some (.cells cs T (0, 0)) ∧ T ≠ 152 ∧ T ≠ 9) : LnAt w' lb f s := by
  obtain ⟨cs, hl⟩ := h.type
  refine h.keep ht (fun hm => ?_) fun b cs hb hm => ?_
  · obtain ⟨cs', T, h1, h2, -⟩ := hF _ hm
    exact tyne h1 hl h2 rfl
  · obtain ⟨cs', T, h1, -, h2⟩ := hF _ hm
    exact tyne h1 hb h2 rfl
/-- What the walk reads of it. -/
theorem LnAt.cells (h : LnAt w lb f s) : ∃ b o c, lb < w.heap.size ∧ w.cell? ⟨lb, 0, none⟩ = some (sV f) ∧ w.cell? ⟨lb, 1, none⟩ = some (.slice (some ⟨b, o, none⟩) s.ws.length c) ∧ w.cell? ⟨lb, 2, none⟩ = some (.int .i64 s.err) ∧ (∀ i, w.frozen? ⟨lb, i, none⟩ = false) ∧ s.ws.length ≤ c ∧ c ≤ 140737488355328 ∧
    (∀ x r, s.ws = x :: r → w.cell? ⟨b, o, none⟩ = some (sV x) ∧ b < w.heap.size ∧ x.length ≤ 140737488355328) ∧
    (∀ e : Nat, LnAt (w.setCell ⟨lb, 2, none⟩ (.int .i64 e)) lb f { s with err := e }) ∧
    (∀ x r o2 c2, s.ws = x :: r → (o2 = o + 1 ∨ r = []) → r.length ≤ c2 → c2 ≤ 140737488355328 → LnAt (w.setCell ⟨lb, 1, none⟩ (.slice (some ⟨b, o2, none⟩) r.length c2)) lb f { s with ws := r }) := by
  obtain ⟨b, o, c, cs, h1, h2, h3, h4, h5⟩ := h.ex
  have hbl : b ≠ lb := tyne h2 h1 (by decide)
  refine ⟨b, o, c, lt_of_heap h1, by rw [cell_at h1]; rfl, by rw [cell_at h1]; rfl, by rw [cell_at h1]; rfl, fun i => froz_at h1 i, h3, h4, fun x r hx => ?_, fun e => ?_, fun x r o2 c2 hx ho hc2 hc3 => ?_⟩
  · have h0 : 0 < s.ws.length := by rw [hx]; simp
    have := h5 0 h0
    have e : s.ws[0] = x := by simp [hx]
    rw [e] at this
    exact ⟨by rw [cell_at h2]; exact this.1, lt_of_heap h2, this.2⟩
  · refine ⟨b, o, c, cs, ?_, ?_, h3, h4, h5⟩
    · rw [blk_set h1]; rfl
    · exact (blk_other hbl _ _).trans h2
  · refine ⟨b, o2, c2, cs, ?_, ?_, hc2, hc3, fun i hi => ?_⟩
    · rw [blk_set h1]; rfl
    · exact (blk_other hbl _ _).trans h2
    · have hi' : i < r.length := hi
      have hl : s.ws.length = r.length + 1 := by rw [hx]; rfl
      have e : s.ws[i + 1]'(by omega) = r[i] := by simp [hx]
      have := h5 (i + 1) (by omega)
      rw [e] at this
      refine ⟨?_, this.2⟩
      have h7 : o2 = o + 1 := by
        rcases ho with e | e
        · exact e
        · rw [e] at hi'; simp at hi'
      subst h7
      rw [show o + 1 + i = o + (i + 1) by omega]
      exact this.1
end
set_option maxRecDepth 100000 in
set_option maxHeartbeats 1600000 in
theorem cMore {w : World} {lb : Nat} {f : Bs} {s : Ln} (h : LnAt w lb f s) : Calls Tryz.prog 155 #[LP lb] w fun r w' => r = .returned (.bool s.more) ∧ w' = w := by
  obtain ⟨b, o, c, h0, -, h1, h2, -, h3, h4, -, -, -⟩ := h.cells
  have hm : Hid (s.more = (decide (s.err = 0) && decide (0 < s.ws.length))) := by
    rw [Hid, Ln.more]
    cases s.ws <;> simp
  clear h
  obtain ⟨ws, err⟩ := s
  dsimp only at *
  generalize hn : ws.length = n at *
  rw [hm.out]
  clear hm hn
  by_cases he : err = 0
  · subst he
    by_cases hw : 0 < n
    · go_enter Tryz.func155, Tryz.ntmps155
      go_wp2
      go_ret
      simp [hw]
    · go_enter Tryz.func155, Tryz.ntmps155
      go_wp2
      go_ret
      simp [hw]
  · have he' : ¬ ((err : Int) = 0) := by omega
    go_enter Tryz.func155, Tryz.ntmps155
    go_wp2
    go_ret
    simp [he]
set_option maxRecDepth 100000 in
set_option maxHeartbeats 1600000 in
theorem cFault {w : World} {lb : Nat} {f : Bs} {s : Ln} (h : LnAt w lb f s) (e : Nat) : Calls Tryz.prog 189 #[LP lb, .int .i64 e] w fun r w' => r = .returned (.tuple #[]) ∧ Turned [lb] w w' ∧ LnAt w' lb f (s.fault e) := by
  obtain ⟨b, o, c, h0, -, -, h2, hz, -, -, -, hs, -⟩ := h.cells
  have HS : Hid (LnAt (w.setCell ⟨lb, 2, none⟩ (.int .i64 e)) lb f { s with err := e }) := hs e
  have H : Hid (LnAt w lb f s) := h
  have hz2 := hz 2
  clear hs h hz
  by_cases he : s.err = 0
  · rw [he] at h2
    have hf : Hid (s.fault e = { s with err := e }) := by rw [Hid, Ln.fault, if_pos he]
    go_enter Tryz.func189, Tryz.ntmps189
    go_wp2
    refine bodyPost_end (results_none rfl _ _ _) rfl ?_
    rw [hf.out]
    exact ⟨rfl, (Turned.refl [lb] w).set (by simp) _ _, HS.out⟩
  · have he' : ¬ ((s.err : Int) = 0) := by omega
    have hf : Hid (s.fault e = s) := by rw [Hid, Ln.fault, if_neg he]
    go_enter Tryz.func189, Tryz.ntmps189
    go_wp2
    refine bodyPost_end (results_none rfl _ _ _) rfl ?_
    rw [hf.out]
    exact ⟨rfl, Turned.refl _ _, H.out⟩
set_option maxRecDepth 100000 in
set_option maxHeartbeats 1600000 in
theorem cNext {w : World} {lb : Nat} {f : Bs} {s : Ln} (h : LnAt w lb f s) : Calls Tryz.prog 188 #[LP lb] w fun r w' => r = .returned (sV s.next.1) ∧ Turned [lb] w w' ∧ LnAt w' lb f s.next.2 := by
  have H : Hid (LnAt w lb f s) := h
  cases hm : s.more with
  | true =>
    obtain ⟨x, r, hx⟩ : ∃ x r, s.ws = x :: r := by
      unfold Ln.more at hm
      cases hw : s.ws with
      | nil => rw [hw] at hm; simp at hm
      | cons x r => exact ⟨x, r, rfl⟩
    have he : s.err = 0 := by unfold Ln.more at hm; simp at hm; exact hm.1
    obtain ⟨b, o, c, h0, -, h1, -, hz, h3, h4, hc, -, hs⟩ := h.cells
    obtain ⟨hc1, hc2, -⟩ := hc x r hx
    have HS : Hid (∀ o2 c2, (o2 = o + 1 ∨ r = []) → r.length ≤ c2 → c2 ≤ 140737488355328 → LnAt (w.setCell ⟨lb, 1, none⟩ (.slice (some ⟨b, o2, none⟩) r.length c2)) lb f { s with ws := r }) := fun o2 c2 => hs x r o2 c2 hx
    have hz1 := hz 1
    have hn : Hid (s.next = (x, { s with ws := r })) := by rw [Hid, Ln.next, hx]; simp [he]
    rw [hn.out]
    clear hs h hz hc hn
    rw [hx] at h1 h3
    simp only [List.length_cons] at h1 h3
    generalize hrl : r.length = n at *
    have e1 : ((n + 1 : Nat) : Int) = (n : Int) + 1 := by omega
    go_enter Tryz.func188, Tryz.ntmps188
    go_wp2_with (go_at_call 155; refine (cMore H.out).mono ?_; rintro r1 w1 ⟨rfl, rfl⟩; rw [hm])
    · go_ret
      obtain rfl : n = 0 := by omega
      exact ⟨rfl, (Turned.refl [lb] _).set (by simp) _ _, by have := HS.out o 0 (.inr (List.length_eq_zero_iff.1 hrl)) (by omega) (by omega); rw [he] at this; exact this⟩
    · go_ret
      exact ⟨rfl, (Turned.refl [lb] _).set (by simp) _ _, by have := HS.out (o + 1) (c - 1) (.inl rfl) (by omega) (by omega); rw [he] at this; exact this⟩
  | false =>
    have hn : Hid (s.next = ([], s.fault 224)) := by
      rw [Hid, Ln.next]
      unfold Ln.more at hm
      cases hw : s.ws with
      | nil => rfl
      | cons x r =>
        rw [hw] at hm
        simp at hm
        simp [hm, Ln.fault]
    rw [hn.out]
    clear h hn
    go_enter Tryz.func188, Tryz.ntmps188
    go_wp2_with (first | (go_at_call 155; refine (cMore H.out).mono ?_; rintro r1 w1 ⟨rfl, rfl⟩; rw [hm]) | (go_at_call 189; refine (cFault H.out 224).mono ?_; rintro r1 w2 ⟨rfl, HT, HL⟩; have HT' : Hid _ := HT; have HL' : Hid _ := HL; clear HT HL))
    go_ret
    exact ⟨rfl, HT'.out, HL'.out⟩
end Go.Proofs.YtbnpdfakniebnaaGreatDoor

/-
  Two events compared; by contract. (By the verifier; no statement.)
-/
import Derived.Test.YtbielnehggcaoaaDoorL17
namespace Go.Proofs.YtbielnehggcaoaaDoor
open Go.RowKit
theorem pub_snap {e : Ev} (h : e.pub = true) : e.snap = false := by
  unfold Ev.pub at h
  unfold Ev.snap
  simp only [Bool.or_eq_true, decide_eq_true_eq] at h
  exact decide_eq_false (by omega)
theorem wp_cut {P : Program} {c d : Code} {Q : Exit → Act → World → Prop} {a : Act} {w : World} (R : Act → World → Prop) (h1 : c.wp P (Exit.then R (fun _ _ _ => False)) a w) (h2 : ∀ a' w', R a' w' → d.wp P Q a' w') : (Code.seq c d).wp P Q a w :=
  wp_seq (Code.wp_mono (fun e a w h => by
    cases e
    case normal => exact h2 _ _ h
    all_goals exact h.elim) h1)
/-- Between two tests: the frame, the court. -/
structure SG (w0 : World) (cb kb : Nat) (sv ev ve : Value) (s : Ct) (eb eo i j : Nat) (a : Act) (x : World) : Prop where
  ex : a.tmps.size = 85 ∧ a.defers = [] ∧ a.eval (.tmp 0) = .pointer (some ⟨cb, 0, none⟩) ∧ a.eval (.tmp 1) = .int .i64 i ∧ a.eval (.tmp 2) = .int .i64 j ∧ a.eval (.tmp 6) = .pointer (some ⟨eb, eo + i * 13, none⟩) ∧ a.eval (.tmp 7) = .pointer (some ⟨eb, eo + j * 13, none⟩) ∧ CT w0 cb kb sv ev ve s x
section
variable {w0 : World} {cb kb : Nat} {sv ev ve : Value} {D : List Ev} {s : Ct} {x : World} {m : Nat} {i j : Nat}
set_option maxRecDepth 100000 in
set_option maxHeartbeats 6400000 in
theorem cCompare (hE : EsAt w0 ev D) (h : CT w0 cb kb sv ev ve s x) (hi : i < D.length) (hj : j < D.length) (he : endB m (eAt D i) = true) (he' : endB m (eAt D j) = true) (h64 : m ≤ 64) (hl : s.bl.length ≤ 900000000) : Calls Tryd.prog 65 #[.pointer (some ⟨cb, 0, none⟩), .int .i64 i, .int .i64 j] x fun r x' => r = .returned (.tuple #[]) ∧ CT w0 cb kb sv ev ve { s with bl := s.bl ++ cmpL D i j } x' := by
  obtain ⟨hlt, -, c1, -, -, -, -, -⟩ := h.cells
  have HC : Hid (CT w0 cb kb sv ev ve s x) := h
  have HL : Hid (s.bl.length ≤ 900000000) := hl
  have hDn := hE.len
  obtain ⟨eb, eo, ec, rfl, he0⟩ := hE.get hi
  have he1 : EvAt w0 eb (eo + j * 13) (eAt D j) := by
    obtain ⟨b2, o2, c2, e2, h2⟩ := hE.get hj
    simp only [Value.slice.injEq, Option.some.injEq, Addr.mk.injEq] at e2
    obtain ⟨⟨rfl, rfl, -⟩, -, -⟩ := e2
    exact h2
  have HEi : Hid (EvAt w0 eb (eo + i * 13) (eAt D i)) := he0
  have HEj : Hid (EvAt w0 eb (eo + j * 13) (eAt D j)) := he1
  obtain ⟨gi, gi0⟩ := end_good he
  obtain ⟨gj, gj0⟩ := end_good he'
  have PT : Hid (∀ y, Below w0.heap.size w0 y → Calls Tryd.prog 81 #[.pointer (some ⟨eb, eo + i * 13, none⟩), .pointer (some ⟨eb, eo + j * 13, none⟩)] y fun r w' => r = .returned (.bool (twiceB (eAt D i) (eAt D j))) ∧ ∃ n, w' = y.drewN n) := fun y hy => cTwice (he0.below hy rfl) (he1.below hy rfl)
  have PK : Hid (∀ y, Below w0.heap.size w0 y → Calls Tryd.prog 82 #[.pointer (some ⟨eb, eo + i * 13, none⟩), .pointer (some ⟨eb, eo + j * 13, none⟩)] y fun r w' => r = .returned (.bool (backB (eAt D i) (eAt D j))) ∧ ∃ n, w' = y.drewN n) := fun y hy => cBack (he0.below hy rfl) (he1.below hy rfl)
  have PWl : Hid (∀ y, Below w0.heap.size w0 y → Calls Tryd.prog 83 #[.pointer (some ⟨eb, eo + i * 13, none⟩), .pointer (some ⟨eb, eo + j * 13, none⟩)] y fun r w' => r = .returned (.bool (wlateB (eAt D i) (eAt D j))) ∧ ∃ n, w' = y.drewN n) := fun y hy => cWLate (he0.below hy rfl) (he1.below hy rfl) fun h1 h2 => by
    have q1 := good_inPart gi (pub_snap h2)
    have q2 := good_nums gj gj0 h1
    omega
  have PSl : Hid (∀ y, Below w0.heap.size w0 y → Calls Tryd.prog 84 #[.pointer (some ⟨eb, eo + i * 13, none⟩), .pointer (some ⟨eb, eo + j * 13, none⟩)] y fun r w' => r = .returned (.bool (slateB (eAt D i) (eAt D j))) ∧ ∃ n, w' = y.drewN n) := fun y hy => cSLate (he0.below hy rfl) (he1.below hy rfl) fun h1 h2 => by
    have q1 := good_inPart gj h2
    have q2 := good_nums gi gi0 h1
    omega
  have PA : Hid (∀ y, Below w0.heap.size w0 y → Calls Tryd.prog 85 #[.pointer (some ⟨eb, eo + i * 13, none⟩), .pointer (some ⟨eb, eo + j * 13, none⟩)] y fun r w' => r = .returned (.bool (apartB (eAt D i) (eAt D j))) ∧ ∃ n, w' = y.drewN n) := fun y hy => cApart (he0.below hy rfl) (he1.below hy rfl) fun h1 h2 => by
    have q1 := good_nums gi gi0 h1
    have q2 := good_nums gj gj0 h2
    omega
  have PW : Hid (∀ y, Calls Tryd.prog 46 #[.int .i64 (eAt D j).e, .int .i64 (eAt D i).b] y fun r w' => r = .returned (.bool (wasA (eAt D j).e (eAt D i).b)) ∧ w' = y) := fun y => cWasA _ _ y
  unfold cmpL
  generalize twiceB (eAt D i) (eAt D j) = t1 at PT ⊢
  generalize backB (eAt D i) (eAt D j) = t2 at PK ⊢
  generalize wlateB (eAt D i) (eAt D j) = t3 at PWl ⊢
  generalize slateB (eAt D i) (eAt D j) = t4 at PSl ⊢
  generalize apartB (eAt D i) (eAt D j) = t5 at PA ⊢
  generalize wasA (eAt D j).e (eAt D i).b = ta at PW ⊢
  obtain ⟨lt, hlt1, hlt2⟩ : ∃ lt, decide (j < i) = lt ∧ decide ((j : Int) < (i : Int)) = lt := ⟨_, rfl, by
    by_cases h : j < i
    · rw [decide_eq_true h, decide_eq_true (by omega)]
    · rw [decide_eq_false h, decide_eq_false (by omega)]⟩
  rw [hlt1]
  clear h hl hE he0 he1 gi gj gi0 gj0 he he'
  generalize D.length = dn at *
  obtain ⟨A1, hA1, l1⟩ : ∃ A1 : List Bm, A1 = (if lt && t1 then [((i : Int), (j : Int), 2)] else []) ∧ A1.length ≤ 1 := ⟨_, rfl, by split <;> simp⟩
  obtain ⟨A2, hA2, l2⟩ : ∃ A2 : List Bm, A2 = (if ta && t2 then [((i : Int), (j : Int), 5)] else []) ∧ A2.length ≤ 1 := ⟨_, rfl, by split <;> simp⟩
  obtain ⟨A3, hA3, l3⟩ : ∃ A3 : List Bm, A3 = (if ta && (t3 || t4) then [((i : Int), (j : Int), 6)] else []) ∧ A3.length ≤ 1 := ⟨_, rfl, by split <;> simp⟩
  obtain ⟨A4, hA4⟩ : ∃ A4 : List Bm, A4 = (if lt && t5 then [((i : Int), (j : Int), 7)] else []) := ⟨_, rfl⟩
  rw [← hA1, ← hA2, ← hA3, ← hA4]
  have H1 : Hid _ := hA1
  have H2 : Hid _ := hA2
  have H3 : Hid _ := hA3
  have H4 : Hid _ := hA4
  have L1 : Hid (s.bl.length ≤ 900000001) := by have := HL.out; rw [Hid]; omega
  have L2 : Hid ((s.bl ++ A1).length ≤ 900000001) := by have := HL.out; rw [Hid, List.length_append]; omega
  have L3 : Hid ((s.bl ++ A1 ++ A2).length ≤ 900000002) := by have := HL.out; rw [Hid, List.length_append, List.length_append]; omega
  have L4 : Hid ((s.bl ++ A1 ++ A2 ++ A3).length ≤ 900000003) := by have := HL.out; rw [Hid, List.length_append, List.length_append, List.length_append]; omega
  clear HL hA1 hA2 hA3 hA4 l1 l2 l3
  go_enter Tryd.func65, Tryd.ntmps65
  refine wp_cut (SG w0 cb kb sv (.slice (some ⟨eb, eo, none⟩) dn ec) ve s eb eo i j) ?_ ?_
  · go_quiet (fail)
    go_wp2
    exact ⟨rfl, rfl, rfl, rfl, rfl, rfl, rfl, HC.out.drewN _⟩
  intro a y hsg
  clear HC hlt c1 x
  refine wp_cut (SG w0 cb kb sv (.slice (some ⟨eb, eo, none⟩) dn ec) ve { s with bl := s.bl ++ A1 } eb eo i j) ?_ ?_
  · obtain ⟨hs, hd, p0, p1, p2, p6, p7, HC0⟩ := hsg.ex
    have HC : Hid _ := HC0
    clear HC0 hsg
    obtain ⟨cc, hcc, hce⟩ := expand85 hs hd
    have q0 := (hce 0).trans p0
    have q1 := (hce 1).trans p1
    have q2 := (hce 2).trans p2
    have q6 := (hce 6).trans p6
    have q7 := (hce 7).trans p7
    clear hce p0 p1 p2 p6 p7 hs hd
    subst hcc
    simp only [lit85, q0, q1, q2, q6, q7]
    clear q0 q1 q2 q6 q7
    cases lt with
    | false =>
      have e1 : A1 = [] := H1.out
      subst e1
      go_wp2
      exact ⟨rfl, rfl, rfl, rfl, rfl, rfl, rfl, (by simpa using HC.out)⟩
    | true =>
      cases t1 with
      | false =>
        have e1 : A1 = [] := H1.out
        subst e1
        go_wp2_with (go_at_call 81; refine (PT.out _ HC.out.below).mono ?_; rintro r z ⟨rfl, n1, hz⟩; have hC := HC.out.drewN n1; rw [← hz] at hC; clear hz HC; have HC : Hid _ := hC; clear hC)
        exact ⟨rfl, rfl, rfl, rfl, rfl, rfl, rfl, (by simpa using HC.out)⟩
      | true =>
        have e1 : A1 = [((i : Int), (j : Int), 2)] := H1.out
        subst e1
        go_wp2_with (first | (go_at_call 81; refine (PT.out _ HC.out.below).mono ?_; rintro r z ⟨rfl, n1, hz⟩; have hC := HC.out.drewN n1; rw [← hz] at hC; clear hz HC; have HC : Hid _ := hC; clear hC) | (go_at_call 74; refine (cBlame HC.out (Nat.le_trans L1.out (by decide)) _ _ _).mono ?_; rintro r z ⟨rfl, C2, -⟩; have HC2 : Hid _ := C2; clear C2))
        exact ⟨rfl, rfl, rfl, rfl, rfl, rfl, rfl, HC2.out⟩
  clear hsg a y
  intro a y hsg
  refine wp_cut (SG w0 cb kb sv (.slice (some ⟨eb, eo, none⟩) dn ec) ve { s with bl := s.bl ++ A1 ++ A2 } eb eo i j) ?_ ?_
  · obtain ⟨hs, hd, p0, p1, p2, p6, p7, HC0⟩ := hsg.ex
    have HC : Hid _ := HC0
    clear HC0 hsg
    obtain ⟨cc, hcc, hce⟩ := expand85 hs hd
    have q0 := (hce 0).trans p0
    have q1 := (hce 1).trans p1
    have q2 := (hce 2).trans p2
    have q6 := (hce 6).trans p6
    have q7 := (hce 7).trans p7
    clear hce p0 p1 p2 p6 p7 hs hd
    subst hcc
    simp only [lit85, q0, q1, q2, q6, q7]
    clear q0 q1 q2 q6 q7
    have fi := HEi.out.below HC.out.below rfl
    have fj := HEj.out.below HC.out.below rfl
    have i1 := fi.c1
    have j2 := fj.c2
    have il := fi.lt
    clear fi fj
    cases ta with
    | false =>
      have e2 : A2 = [] := H2.out
      subst e2
      go_wp2
      go_quiet ((go_at_call 46; exact Calls.quiet_of_same (PW.out _)))
      go_wp2
      exact ⟨rfl, rfl, rfl, rfl, rfl, rfl, rfl, by simpa using HC.out.drewN _⟩
    | true =>
      cases t2 with
      | false =>
        have e2 : A2 = [] := H2.out
        subst e2
        go_wp2
        go_quiet (first | (go_at_call 46; exact Calls.quiet_of_same (PW.out _)) | (go_at_call 82; exact Calls.quiet_of (PK.out _ (belowDrew HC.out.below _))))
        go_wp2
        exact ⟨rfl, rfl, rfl, rfl, rfl, rfl, rfl, by simpa using HC.out.drewN _⟩
      | true =>
        have e2 : A2 = [((i : Int), (j : Int), 5)] := H2.out
        subst e2
        go_wp2
        go_quiet (first | (go_at_call 46; exact Calls.quiet_of_same (PW.out _)) | (go_at_call 82; exact Calls.quiet_of (PK.out _ (belowDrew HC.out.below _))))
        have hC := HC.out.drewN nq
        clear HC
        have HC : Hid _ := hC
        clear hC
        go_wp2_with (go_at_call 74; refine (cBlame HC.out (Nat.le_trans L2.out (by decide)) _ _ _).mono ?_; rintro r z ⟨rfl, C2, -⟩; have HC2 : Hid _ := C2; clear C2)
        exact ⟨rfl, rfl, rfl, rfl, rfl, rfl, rfl, HC2.out⟩
  clear hsg a y
  intro a y hsg
  refine wp_cut (SG w0 cb kb sv (.slice (some ⟨eb, eo, none⟩) dn ec) ve { s with bl := s.bl ++ A1 ++ A2 ++ A3 } eb eo i j) ?_ ?_
  · obtain ⟨hs, hd, p0, p1, p2, p6, p7, HC0⟩ := hsg.ex
    have HC : Hid _ := HC0
    clear HC0 hsg
    obtain ⟨cc, hcc, hce⟩ := expand85 hs hd
    have q0 := (hce 0).trans p0
    have q1 := (hce 1).trans p1
    have q2 := (hce 2).trans p2
    have q6 := (hce 6).trans p6
    have q7 := (hce 7).trans p7
    clear hce p0 p1 p2 p6 p7 hs hd
    subst hcc
    simp only [lit85, q0, q1, q2, q6, q7]
    clear q0 q1 q2 q6 q7
    have fi := HEi.out.below HC.out.below rfl
    have fj := HEj.out.below HC.out.below rfl
    have i1 := fi.c1
    have j2 := fj.c2
    have il := fi.lt
    clear fi fj
    cases ta with
    | false =>
      have e3 : A3 = [] := H3.out
      subst e3
      go_wp2
      go_quiet ((go_at_call 46; exact Calls.quiet_of_same (PW.out _)))
      go_wp2
      exact ⟨rfl, rfl, rfl, rfl, rfl, rfl, rfl, by simpa using HC.out.drewN _⟩
    | true =>
      cases t3 with
      | true =>
        have e3 : A3 = [((i : Int), (j : Int), 6)] := H3.out
        subst e3
        go_wp2
        go_quiet (first | (go_at_call 46; exact Calls.quiet_of_same (PW.out _)) | (go_at_call 83; exact Calls.quiet_of (PWl.out _ (belowDrew HC.out.below _))))
        have hC := HC.out.drewN nq
        clear HC
        have HC : Hid _ := hC
        clear hC
        go_wp2_with (go_at_call 74; refine (cBlame HC.out (Nat.le_trans L3.out (by decide)) _ _ _).mono ?_; rintro r z ⟨rfl, C2, -⟩; have HC2 : Hid _ := C2; clear C2)
        exact ⟨rfl, rfl, rfl, rfl, rfl, rfl, rfl, HC2.out⟩
      | false =>
        cases t4 with
        | false =>
          have e3 : A3 = [] := H3.out
          subst e3
          go_wp2
          go_quiet (first | (go_at_call 46; exact Calls.quiet_of_same (PW.out _)) | (go_at_call 83; exact Calls.quiet_of (PWl.out _ (belowDrew HC.out.below _))) | (go_at_call 84; exact Calls.quiet_of (PSl.out _ (belowDrew HC.out.below _))))
          go_wp2
          exact ⟨rfl, rfl, rfl, rfl, rfl, rfl, rfl, by simpa using HC.out.drewN _⟩
        | true =>
          have e3 : A3 = [((i : Int), (j : Int), 6)] := H3.out
          subst e3
          go_wp2
          go_quiet (first | (go_at_call 46; exact Calls.quiet_of_same (PW.out _)) | (go_at_call 83; exact Calls.quiet_of (PWl.out _ (belowDrew HC.out.below _))) | (go_at_call 84; exact Calls.quiet_of (PSl.out _ (belowDrew HC.out.below _))))
          have hC := HC.out.drewN nq
          clear HC
          have HC : Hid _ := hC
          clear hC
          go_wp2_with (go_at_call 74; refine (cBlame HC.out (Nat.le_trans L3.out (by decide)) _ _ _).mono ?_; rintro r z ⟨rfl, C2, -⟩; have HC2 : Hid _ := C2; clear C2)
          exact ⟨rfl, rfl, rfl, rfl, rfl, rfl, rfl, HC2.out⟩
  clear hsg a y
  intro a y hsg
  · obtain ⟨hs, hd, p0, p1, p2, p6, p7, HC0⟩ := hsg.ex
    have HC : Hid _ := HC0
    clear HC0 hsg
    obtain ⟨cc, hcc, hce⟩ := expand85 hs hd
    have q0 := (hce 0).trans p0
    have q1 := (hce 1).trans p1
    have q2 := (hce 2).trans p2
    have q6 := (hce 6).trans p6
    have q7 := (hce 7).trans p7
    clear hce p0 p1 p2 p6 p7 hs hd
    subst hcc
    simp only [lit85, q0, q1, q2, q6, q7]
    clear q0 q1 q2 q6 q7
    cases lt with
    | false =>
      have e4 : A4 = [] := H4.out
      subst e4
      go_wp2
      go_end0
      exact ⟨rfl, by simpa using HC.out⟩
    | true =>
      cases t5 with
      | false =>
        have e4 : A4 = [] := H4.out
        subst e4
        go_wp2_with (go_at_call 85; refine (PA.out _ HC.out.below).mono ?_; rintro r z ⟨rfl, n1, hz⟩; have hC := HC.out.drewN n1; rw [← hz] at hC; clear hz HC; have HC : Hid _ := hC; clear hC)
        go_end0
        exact ⟨rfl, by simpa using HC.out⟩
      | true =>
        have e4 : A4 = [((i : Int), (j : Int), 7)] := H4.out
        subst e4
        go_wp2_with (first | (go_at_call 85; refine (PA.out _ HC.out.below).mono ?_; rintro r z ⟨rfl, n1, hz⟩; have hC := HC.out.drewN n1; rw [← hz] at hC; clear hz HC; have HC : Hid _ := hC; clear hC) | (go_at_call 74; refine (cBlame HC.out (Nat.le_trans L4.out (by decide)) _ _ _).mono ?_; rintro r z ⟨rfl, C2, -⟩; have HC2 : Hid _ := C2; clear C2))
        go_end0
        exact ⟨rfl, by simpa using HC2.out⟩
end
end Go.Proofs.YtbielnehggcaoaaDoor

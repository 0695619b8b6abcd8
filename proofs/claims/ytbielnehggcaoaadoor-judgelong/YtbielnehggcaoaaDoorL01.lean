/-
  Orders of deeds: what an order is, and that cells may be looked at one by one. (By the verifier; no statement, no memory.)
-/
import Derived.Test.YtbielnehggcaoaaDoorRows
import Derived.RowKit
namespace Go.Proofs.YtbielnehggcaoaaDoor
/-- A deed, as a history tells it: Begin, End, Kind, A, B, C, N, Ok. -/
structure Dd where
  b : Int
  e : Int
  k : Int
  a : Int
  x : Int
  c : Int
  n : Int
  ok : Bool
def Dd.zero : Dd := ⟨0, 0, 0, 0, 0, 0, 0, false⟩
/-- What a deed makes of its cell, and what it answers, alone. -/
def Dd.next (d : Dd) (v : Int) : Int :=
  if d.k = 1 then v else if d.k = 2 then d.x else if d.k = 3 then RowKit.wrap64 (v + d.x) else if d.k = 4 then d.x else if d.k = 5 then (if v = d.x then d.c else v) else if d.k = 6 then max v d.x else if d.k = 7 then min v d.x else v
def Dd.ans (d : Dd) (v : Int) : Int :=
  if d.k = 1 then v else if d.k = 2 then 0 else if d.k = 3 then RowKit.wrap64 (v + d.x) else if d.k = 4 then v else if d.k = 5 then 0 else if d.k = 6 then max v d.x else if d.k = 7 then min v d.x else v
def Dd.did (d : Dd) (v : Int) : Bool := decide (d.k = 5 ∧ v = d.x)
def Dd.fits (d : Dd) (v : Int) : Bool := decide (d.e = 0) || (decide (d.ans v = d.n) && decide (d.did v = d.ok))
/-- Can it be, over m cells? -/
def Dd.right (m : Nat) (d : Dd) : Prop := 1 ≤ d.k ∧ d.k ≤ 7 ∧ 0 ≤ d.a ∧ d.a < m ∧ 1 ≤ d.b ∧ (d.e = 0 ∨ d.b ≤ d.e)
def wasA (e b : Int) : Bool := decide (e ≠ 0) && decide (e < b)
def dAt (D : List Dd) (i : Nat) : Dd := D.getD i Dd.zero
abbrev Pl := Nat → Bool
def Pl.upd (S : Pl) (i : Nat) : Pl := fun j => S j || decide (j = i)
def updV (v : Int → Int) (a x : Int) : Int → Int := fun c => if c = a then x else v c
section
variable (D : List Dd)
/-- The deed i may stand next behind those of S. -/
def may (S : Pl) (i : Nat) : Bool := !S i && (List.range D.length).all fun j => !wasA (dAt D j).e (dAt D i).b || S j
def allIn (S : Pl) : Bool := (List.range D.length).all fun j => decide ((dAt D j).e = 0) || S j
inductive Goes : Pl → (Int → Int) → List Nat → Prop
  | nil {S v} (h : allIn D S = true) : Goes S v []
  | cons {S v i os} (hi : i < D.length) (hm : may D S i = true) (hf : (dAt D i).fits (v (dAt D i).a) = true) (h : Goes (S.upd i) (updV v (dAt D i).a ((dAt D i).next (v (dAt D i).a))) os) : Goes S v (i :: os)
/-- The same of one cell. -/
def cmay (c : Int) (S : Pl) (i : Nat) : Bool := decide ((dAt D i).a = c) && !S i && (List.range D.length).all fun j => !decide ((dAt D j).a = c) || (!wasA (dAt D j).e (dAt D i).b || S j)
def callIn (c : Int) (S : Pl) : Bool := (List.range D.length).all fun j => !decide ((dAt D j).a = c) || (decide ((dAt D j).e = 0) || S j)
inductive CGoes (c : Int) : Pl → Int → List Nat → Prop
  | nil {S v} (h : callIn D c S = true) : CGoes c S v []
  | cons {S v i os} (hi : i < D.length) (hm : cmay D c S i = true) (hf : (dAt D i).fits v = true) (h : CGoes c (S.upd i) ((dAt D i).next v) os) : CGoes c S v (i :: os)
def CCan (c : Int) (S : Pl) (v : Int) : Prop := ∃ os, CGoes D c S v os
def Can (S : Pl) (v : Int → Int) : Prop := ∃ os, Goes D S v os
end
variable {D : List Dd}
theorem all_range {n : Nat} {p : Nat → Bool} : (List.range n).all p = true ↔ ∀ j, j < n → p j = true := by
  simp [List.all_eq_true]
theorem may_iff {S : Pl} {i : Nat} : may D S i = true ↔ S i = false ∧ ∀ j, j < D.length → wasA (dAt D j).e (dAt D i).b = true → S j = true := by
  unfold may
  rw [Bool.and_eq_true, all_range]
  constructor
  · rintro ⟨h1, h2⟩
    refine ⟨by simpa using h1, fun j hj hw => ?_⟩
    have := h2 j hj
    rw [hw] at this
    simpa using this
  · rintro ⟨h1, h2⟩
    refine ⟨by simp [h1], fun j hj => ?_⟩
    cases hw : wasA (dAt D j).e (dAt D i).b with
    | false => rfl
    | true => simp [h2 j hj hw]
theorem cmay_iff {c : Int} {S : Pl} {i : Nat} : cmay D c S i = true ↔ (dAt D i).a = c ∧ S i = false ∧ ∀ j, j < D.length → (dAt D j).a = c → wasA (dAt D j).e (dAt D i).b = true → S j = true := by
  unfold cmay
  rw [Bool.and_eq_true, Bool.and_eq_true, all_range]
  constructor
  · rintro ⟨⟨h0, h1⟩, h2⟩
    refine ⟨by simpa using h0, by simpa using h1, fun j hj hc hw => ?_⟩
    have := h2 j hj
    rw [hw, hc] at this
    simpa using this
  · rintro ⟨h0, h1, h2⟩
    refine ⟨⟨by simp [h0], by simp [h1]⟩, fun j hj => ?_⟩
    by_cases hc : (dAt D j).a = c
    · cases hw : wasA (dAt D j).e (dAt D i).b with
      | false => simp
      | true => simp [h2 j hj hc hw]
    · simp [hc]
theorem allIn_iff {S : Pl} : allIn D S = true ↔ ∀ j, j < D.length → (dAt D j).e ≠ 0 → S j = true := by
  unfold allIn
  rw [all_range]
  refine forall_congr' fun j => forall_congr' fun _ => ?_
  rw [Bool.or_eq_true, decide_eq_true_eq]
  constructor
  · rintro (h | h) hne
    · exact absurd h hne
    · exact h
  · intro h
    by_cases e : (dAt D j).e = 0
    · exact .inl e
    · exact .inr (h e)
theorem callIn_iff {c : Int} {S : Pl} : callIn D c S = true ↔ ∀ j, j < D.length → (dAt D j).a = c → (dAt D j).e ≠ 0 → S j = true := by
  unfold callIn
  rw [all_range]
  refine forall_congr' fun j => forall_congr' fun _ => ?_
  rw [Bool.or_eq_true, Bool.or_eq_true, decide_eq_true_eq, Bool.not_eq_true', decide_eq_false_iff_not]
  constructor
  · rintro (h | h | h) hc hne
    · exact absurd hc h
    · exact absurd h hne
    · exact h
  · intro h
    by_cases hc : (dAt D j).a = c
    · by_cases e : (dAt D j).e = 0
      · exact .inr (.inl e)
      · exact .inr (.inr (h hc e))
    · exact .inl hc
theorem upd_true {S : Pl} {i j : Nat} : S.upd i j = true ↔ S j = true ∨ j = i := by simp [Pl.upd]
/-- One cell's orders hang on the cell's own deeds alone. -/
theorem CGoes.congr {c : Int} {S S' : Pl} {v : Int} {os : List Nat} (h : CGoes D c S v os) (hs : ∀ j, j < D.length → (dAt D j).a = c → S j = S' j) : CGoes D c S' v os := by
  induction h generalizing S' with
  | nil h => exact .nil (callIn_iff.2 fun j hj hc he => by rw [← hs j hj hc]; exact callIn_iff.1 h j hj hc he)
  | @cons S v i os hi hm hf _ ih =>
    obtain ⟨h0, h1, h2⟩ := cmay_iff.1 hm
    refine .cons hi (cmay_iff.2 ⟨h0, by rw [← hs i hi h0]; exact h1, fun j hj hc hw => by rw [← hs j hj hc]; exact h2 j hj hc hw⟩) hf (ih fun j hj hc => ?_)
    simp only [Pl.upd, hs j hj hc]
/-- An order of all is one of each cell. -/
theorem Goes.cell {S : Pl} {v : Int → Int} {os : List Nat} (h : Goes D S v os) (c : Int) : CGoes D c S (v c) (os.filter fun i => decide ((dAt D i).a = c)) := by
  induction h with
  | nil h => exact .nil (callIn_iff.2 fun j hj _ he => allIn_iff.1 h j hj he)
  | @cons S v i os hi hm hf _ ih =>
    obtain ⟨h1, h2⟩ := may_iff.1 hm
    by_cases hc : (dAt D i).a = c
    · rw [List.filter_cons_of_pos (by simpa using hc)]
      refine .cons hi (cmay_iff.2 ⟨hc, h1, fun j hj _ hw => h2 j hj hw⟩) (by rw [← hc]; exact hf) ?_
      have e : updV v (dAt D i).a ((dAt D i).next (v (dAt D i).a)) c = (dAt D i).next (v c) := by simp [updV, hc]
      rw [e] at ih
      exact ih
    · rw [List.filter_cons_of_neg (by simpa using hc)]
      have e : updV v (dAt D i).a ((dAt D i).next (v (dAt D i).a)) c = v c := by simp only [updV, if_neg (fun h => hc (Eq.symm h))]
      rw [e] at ih
      refine ih.congr fun j hj hcj => ?_
      have hne : j ≠ i := fun e => hc (e ▸ hcj)
      simp [Pl.upd, hne]
theorem least_of {p : Nat → Prop} (f : Nat → Int) : ∀ {n : Nat}, (∃ i, i < n ∧ p i) → ∃ i, i < n ∧ p i ∧ ∀ j, j < n → p j → f i ≤ f j
  | 0, ⟨_, h, _⟩ => absurd h (Nat.not_lt_zero _)
  | n + 1, ⟨i, hi, hp⟩ => by
    by_cases h : ∃ i, i < n ∧ p i
    · obtain ⟨m, hm, hpm, hle⟩ := least_of f h
      by_cases hn : p n ∧ f n < f m
      · refine ⟨n, Nat.lt_succ_self n, hn.1, fun j hj hpj => ?_⟩
        rcases Nat.lt_succ_iff_lt_or_eq.1 hj with h1 | rfl
        · exact Int.le_trans (Int.le_of_lt hn.2) (hle j h1 hpj)
        · exact Int.le_refl _
      · refine ⟨m, Nat.lt_succ_of_lt hm, hpm, fun j hj hpj => ?_⟩
        rcases Nat.lt_succ_iff_lt_or_eq.1 hj with h1 | rfl
        · exact hle j h1 hpj
        · exact Int.not_lt.1 fun hlt => hn ⟨hpj, hlt⟩
    · have : i = n := by
        rcases Nat.lt_succ_iff_lt_or_eq.1 hi with h1 | h1
        · exact absurd ⟨i, h1, hp⟩ h
        · exact h1
      subst this
      refine ⟨i, hi, hp, fun j hj hpj => ?_⟩
      rcases Nat.lt_succ_iff_lt_or_eq.1 hj with h1 | rfl
      · exact absurd ⟨j, h1, hpj⟩ h
      · exact Int.le_refl _
/-- How many stand outside. -/
def outN (n : Nat) (S : Pl) : Nat := ((List.range n).filter fun j => !S j).length
theorem outN_upd {S : Pl} {i : Nat} : ∀ {n : Nat}, i < n → S i = false → outN n (S.upd i) < outN n S
  | 0, h, _ => absurd h (Nat.not_lt_zero _)
  | n + 1, h, hs => by
    have mono : outN n (S.upd i) ≤ outN n S := by
      unfold outN
      rw [← List.countP_eq_length_filter, ← List.countP_eq_length_filter]
      refine List.countP_mono_left fun j _ hj => ?_
      simp only [Pl.upd, Bool.not_eq_true', Bool.or_eq_false_iff] at hj ⊢
      exact hj.1
    have e : ∀ S : Pl, outN (n + 1) S = outN n S + (if S n then 0 else 1) := fun S => by
      unfold outN
      rw [List.range_succ, List.filter_append, List.length_append]
      cases hh : S n <;> simp [hh]
    rw [e, e]
    rcases Nat.lt_succ_iff_lt_or_eq.1 h with h1 | rfl
    · have := outN_upd (n := n) h1 hs
      have h2 : (if S.upd i n then 0 else 1) ≤ (if S n then 0 else 1) := by
        have hne : n ≠ i := by omega
        simp [Pl.upd, hne]
      omega
    · simp only [hs, Pl.upd, decide_true, Bool.or_true, if_true, Bool.false_eq_true, if_false]
      omega
/-- CELLS MAY BE LOOKED AT ONE BY ONE: if each cell has an order of its own, all together have one. -/
theorem Can.of_cells (hr : ∀ i, i < D.length → (dAt D i).e = 0 ∨ (dAt D i).b ≤ (dAt D i).e) : ∀ (n : Nat) {S : Pl} {v : Int → Int}, outN D.length S ≤ n → (∀ c, CCan D c S (v c)) → Can D S v
  | n, S, v, hn, h => by
    by_cases ha : allIn D S = true
    · exact ⟨[], .nil ha⟩
    have hex : ∃ j, j < D.length ∧ (dAt D j).e ≠ 0 ∧ S j = false := by
      apply Classical.byContradiction
      intro hno
      refine ha (allIn_iff.2 fun j hj he => ?_)
      cases hS : S j with
      | true => rfl
      | false => exact absurd ⟨j, hj, he, hS⟩ hno
    -- a first deed of a cell that isn't at its end
    let p : Nat → Prop := fun i => ∃ os, CGoes D (dAt D i).a S (v (dAt D i).a) (i :: os)
    have first : ∀ j, j < D.length → (dAt D j).e ≠ 0 → S j = false → ∃ i, i < D.length ∧ (dAt D i).a = (dAt D j).a ∧ p i := by
      intro j hj he hS
      obtain ⟨os, hos⟩ := h (dAt D j).a
      cases hos with
      | nil hh =>
        have := callIn_iff.1 hh j hj rfl he
        rw [hS] at this
        cases this
      | @cons _ _ i os hi hm hf hh =>
        have hc := (cmay_iff.1 hm).1
        exact ⟨i, hi, hc, os, by rw [hc]; exact .cons hi hm hf hh⟩
    obtain ⟨j0, hj0, he0, hs0⟩ := hex
    obtain ⟨i0, hi0, _, hp0⟩ := first j0 hj0 he0 hs0
    obtain ⟨i, hi, ⟨os, hos⟩, hmin⟩ := least_of (p := p) (fun i => (dAt D i).b) ⟨i0, hi0, hp0⟩
    cases hos with
    | @cons _ _ _ _ _ hm hf hh =>
      obtain ⟨_, hS, hA⟩ := cmay_iff.1 hm
      have hmay : may D S i = true := by
        refine may_iff.2 ⟨hS, fun j hj hw => ?_⟩
        cases hSj : S j with
        | true => rfl
        | false =>
          exfalso
          have hw' : (dAt D j).e ≠ 0 ∧ (dAt D j).e < (dAt D i).b := by simpa [wasA] using hw
          obtain ⟨k, hk, hck, os', hos'⟩ := first j hj hw'.1 hSj
          have hle := hmin k hk ⟨os', hos'⟩
          cases hos' with
          | @cons _ _ _ _ _ hm' _ _ =>
            obtain ⟨_, _, hA'⟩ := cmay_iff.1 hm'
            have : S j = true := hA' j hj hck.symm (by simp only [wasA, Bool.and_eq_true, decide_eq_true_eq]; exact ⟨hw'.1, by omega⟩)
            rw [hSj] at this
            cases this
      have hlt := outN_upd hi hS
      cases n with
      | zero => omega
      | succ n =>
        obtain ⟨os2, h2⟩ := Can.of_cells hr n (S := S.upd i) (v := updV v (dAt D i).a ((dAt D i).next (v (dAt D i).a))) (by omega) fun c => by
          by_cases hc : c = (dAt D i).a
          · subst hc
            exact ⟨os, by simpa [updV] using hh⟩
          · obtain ⟨os3, h3⟩ := h c
            refine ⟨os3, ?_⟩
            have e : updV v (dAt D i).a ((dAt D i).next (v (dAt D i).a)) c = v c := by simp [updV, hc]
            rw [e]
            refine h3.congr fun j hj hcj => ?_
            have hne : j ≠ i := fun e => hc (e ▸ hcj.symm)
            simp [Pl.upd, hne]
        exact ⟨i :: os2, .cons hi hmay hf h2⟩
  termination_by n => n
/-- What a step of the search asks of a deed. -/
def Cond (D : List Dd) (S : Pl) (v : Int → Int) (i : Nat) : Prop := may D S i = true ∧ (dAt D i).fits (v (dAt D i).a) = true ∧ CCan D (dAt D i).a (S.upd i) ((dAt D i).next (v (dAt D i).a))
def stepV (D : List Dd) (v : Int → Int) (i : Nat) : Int → Int := updV v (dAt D i).a ((dAt D i).next (v (dAt D i).a))
theorem Cond.keeps {S : Pl} {v : Int → Int} {i : Nat} (h : Cond D S v i) (hc : ∀ c, CCan D c S (v c)) : ∀ c, CCan D c (S.upd i) (stepV D v i c) := fun c => by
  by_cases e : c = (dAt D i).a
  · subst e
    have := h.2.2
    simpa [stepV, updV] using this
  · obtain ⟨os, ho⟩ := hc c
    refine ⟨os, ?_⟩
    have e2 : stepV D v i c = v c := by simp [stepV, updV, e]
    rw [e2]
    refine ho.congr fun j hj hcj => ?_
    have hne : j ≠ i := fun e3 => e (e3 ▸ hcj.symm)
    simp [Pl.upd, hne]
theorem Can.cells {S : Pl} {v : Int → Int} (h : Can D S v) (c : Int) : CCan D c S (v c) := by
  obtain ⟨os, ho⟩ := h
  exact ⟨_, ho.cell c⟩
/-- Where none serves, and not all stand in it, there is none. -/
theorem Can.cond {S : Pl} {v : Int → Int} (h : Can D S v) (ha : allIn D S = false) : ∃ i, i < D.length ∧ Cond D S v i := by
  obtain ⟨os, ho⟩ := h
  cases ho with
  | nil hh => rw [ha] at hh; cases hh
  | @cons _ _ i os hi hm hf hh =>
    refine ⟨i, hi, hm, hf, ?_⟩
    have := (Goes.cell hh (dAt D i).a)
    refine ⟨os.filter fun j => decide ((dAt D j).a = (dAt D i).a), ?_⟩
    · have e : updV v (dAt D i).a ((dAt D i).next (v (dAt D i).a)) (dAt D i).a = (dAt D i).next (v (dAt D i).a) := by simp [updV]
      rw [e] at this
      exact this
/-- The least order. -/
inductive Least (D : List Dd) : Pl → (Int → Int) → List Nat → Prop
  | nil {S v} (h : allIn D S = true) : Least D S v []
  | cons {S v i os} (ha : allIn D S = false) (hi : i < D.length) (hc : Cond D S v i) (hl : ∀ j, j < i → ¬ Cond D S v j) (h : Least D (S.upd i) (stepV D v i) os) : Least D S v (i :: os)
theorem Least.goes {S : Pl} {v : Int → Int} {os : List Nat} (h : Least D S v os) : Goes D S v os := by
  induction h with
  | nil h => exact .nil h
  | cons _ hi hc _ _ ih => exact .cons hi hc.1 hc.2.1 ih
end Go.Proofs.YtbielnehggcaoaaDoor

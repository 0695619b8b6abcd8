/-
  The blames in the order of the document's own walk. (By the verifier; no statement, no memory.)
-/
import Derived.Test.YtbielnehggcaoaaDoorL22
import Derived.Test.YtbielnehggcaoaaDoorL07
namespace Go.Proofs.YtbielnehggcaoaaDoor
open Go.RowKit
/-- What is blamed of one event, in the order of the document's own walk. -/
def pairL (m : Int) (D : List Ev) (i k : Nat) : List Bm := (List.range k).flatMap fun j => if j ≠ i ∧ endB m (eAt D j) = true then cmpL D i j else []
def selfL (S : List (List (Int × Int))) (D : List Ev) (i : Nat) : List Bm :=
  if (eAt D i).good S.length then (if endB S.length (eAt D i) then (if untoldB S.length D (lastF S D) i then [((i : Int), -1, 3)] else []) ++ fourL S D i else []) else [((i : Int), -1, 1)]
def xL (S : List (List (Int × Int))) (D : List Ev) (i : Nat) : List Bm := selfL S D i ++ (if endB S.length (eAt D i) then pairL S.length D i D.length else [])
theorem pairL_succ (m : Int) (D : List Ev) (i k : Nat) : pairL m D i (k + 1) = pairL m D i k ++ (if k ≠ i ∧ endB m (eAt D k) = true then cmpL D i k else []) := by
  unfold pairL
  rw [List.range_succ, List.flatMap_append, List.flatMap_cons, List.flatMap_nil, List.append_nil]
theorem wasA_self {e : Ev} {m : Int} (h : e.good m = true) : wasA e.e e.b = false := by
  unfold Ev.good at h
  simp only [Bool.and_eq_true] at h
  obtain ⟨⟨⟨⟨_, _⟩, h3⟩, _⟩, _⟩ := h
  unfold timeB at h3
  unfold wasA
  simp only [Bool.and_eq_true, Bool.or_eq_true, decide_eq_true_eq, Bool.and_eq_false_iff, decide_eq_false_iff_not] at *
  omega
theorem cmpL_self {D : List Ev} {m : Int} {i : Nat} (h : (eAt D i).good m = true) : cmpL D i i = [] := by
  unfold cmpL
  rw [wasA_self h, decide_eq_false (Nat.lt_irrefl i)]
  rfl
theorem pairL_all {D : List Ev} {m : Int} {i : Nat} (h : (eAt D i).good m = true) : pairL m D i D.length = (endL m D D.length).flatMap (cmpL D i) := by
  unfold pairL endL
  rw [flat_if]
  refine flat_congr _ fun j _ => ?_
  by_cases e : j = i
  · subst e
    rw [if_neg (by simp), cmpL_self h]
    split <;> rfl
  · cases hj : endB m (eAt D j)
    · rw [if_neg (by simp)]; rfl
    · rw [if_pos ⟨e, rfl⟩]; rfl
theorem endX_good {m : Int} {e : Ev} (h : endB m e = true) : e.good m = true := by
  unfold endB at h
  rw [Bool.and_eq_true] at h
  exact h.1
theorem xL_perm (S : List (List (Int × Int))) (D : List Ev) (i : Nat) : (xL S D i).Perm (refL S D i) := by
  unfold xL refL selfL
  cases hg : (eAt D i).good S.length with
  | false =>
    have he : endB S.length (eAt D i) = false := by
      cases h : endB S.length (eAt D i) with
      | false => rfl
      | true => rw [endX_good h] at hg; cases hg
    rw [he]
    exact .refl _
  | true =>
    cases he : endB S.length (eAt D i) with
    | false => exact .refl _
    | true =>
      simp only [if_true]
      rw [pairL_all hg]
      unfold eachL
      simp only [List.nil_append]
      rw [← List.append_assoc]
      exact List.perm_append_comm.append_right _
theorem cmpL_len4 (D : List Ev) (i j : Nat) : (cmpL D i j).length ≤ 4 := by
  unfold cmpL
  simp only [List.length_append]
  split <;> split <;> split <;> split <;> simp
theorem pairL_len (m : Int) (D : List Ev) (i : Nat) : ∀ k, (pairL m D i k).length ≤ 4 * k
  | 0 => Nat.le_refl _
  | k + 1 => by
    have := pairL_len m D i k
    have h2 := cmpL_len4 D i k
    rw [pairL_succ, List.length_append]
    split
    · omega
    · simp; omega
theorem selfL_len (S : List (List (Int × Int))) (D : List Ev) (i : Nat) : (selfL S D i).length ≤ 2 := by
  unfold selfL fourL
  split
  · split
    · rw [List.length_append]
      split <;> split <;> simp
    · simp
  · simp
theorem refL_at {S : List (List (Int × Int))} {D : List Ev} {i : Nat} {x : Bm} (h : x ∈ refL S D i) : x.1 = i := by
  unfold refL fourL eachL at h
  simp only [List.mem_append] at h
  rcases h with h | h | h
  · split at h
    · cases h
    · rw [List.mem_singleton.1 h]
  · split at h
    · split at h
      · rw [List.mem_singleton.1 h]
      · cases h
    · cases h
  · split at h
    · rcases List.mem_append.1 h with h | h
      · split at h
        · rw [List.mem_singleton.1 h]
        · cases h
      · obtain ⟨j, _, hx⟩ := List.mem_flatMap.1 h
        exact (mem_cmp hx).1
    · cases h
/-- The blames of the first i events, in their order. -/
structure VO (S : List (List (Int × Int))) (D : List Ev) (i : Nat) (O : List Bm) : Prop where
  pm : O.Perm ((List.range i).flatMap (refL S D))
  so : O.Pairwise fun x y => ¬ ltBm y x
theorem VO.start (S : List (List (Int × Int))) (D : List Ev) : VO S D 0 [] := ⟨.refl _, .nil⟩
theorem VO.lt {S : List (List (Int × Int))} {D : List Ev} {i : Nat} {O : List Bm} (h : VO S D i O) {x : Bm} (hx : x ∈ O) : x.1 < (i : Int) := by
  obtain ⟨j, hj, hm⟩ := List.mem_flatMap.1 (h.pm.mem_iff.1 hx)
  rw [refL_at hm]
  have := List.mem_range.1 hj
  omega
theorem VO.next {S : List (List (Int × Int))} {D : List Ev} {i : Nat} {O O' : List Bm} (h : VO S D i O) (h1 : O'.take O.length = O) (h2 : (O'.drop O.length).Perm (xL S D i)) (h3 : (O'.drop O.length).Pairwise leWy) : VO S D (i + 1) O' := by
  have e : O' = O ++ O'.drop O.length := by
    conv => lhs; rw [← List.take_append_drop O.length O', h1]
  have hat : ∀ b, b ∈ O'.drop O.length → b.1 = (i : Int) := fun b hb => refL_at ((h2.trans (xL_perm S D i)).mem_iff.1 hb)
  generalize O'.drop O.length = X at e h2 h3 hat
  subst e
  refine ⟨?_, ?_⟩
  · rw [List.range_succ, List.flatMap_append, List.flatMap_cons, List.flatMap_nil, List.append_nil]
    exact h.pm.append (h2.trans (xL_perm S D i))
  · rw [List.pairwise_append]
    refine ⟨h.so, ?_, fun a ha b hb => ?_⟩
    · refine List.Pairwise.imp_of_mem ?_ h3
      intro a b ha hb hab
      have h4 := hat a ha
      have h5 := hat b hb
      unfold leWy ltWy at hab
      unfold ltBm
      omega
    · have h4 := h.lt ha
      have h5 := hat b hb
      unfold ltBm
      omega
theorem VO.len {S : List (List (Int × Int))} {D : List Ev} {i : Nat} {O : List Bm} (h : VO S D i O) (hi : i ≤ D.length) (hD : D.length ≤ 1024) (h64 : S.length ≤ 64) : O.length ≤ 1000000000 := by
  have h1 := h.pm.length_eq
  have h2 := (ref_perm S D).length_eq
  have h3 := allBm_len (S := S) (D := D) hD h64
  obtain ⟨k, hk⟩ : ∃ k, D.length = i + k := ⟨D.length - i, by omega⟩
  rw [hk, List.range_add, List.flatMap_append, List.length_append] at h2
  omega
theorem VO.fin {S : List (List (Int × Int))} {D : List Ev} {O R : List Bm} (h : VO S D D.length O) (h1 : R.Perm (allBm S D)) (h2 : R.Pairwise fun x y => ¬ ltBm y x) : R = O :=
  sorted_one (h1.trans ((h.pm.trans (ref_perm S D)).symm)) h2 h.so
end Go.Proofs.YtbielnehggcaoaaDoor
/-
  A history that was: each event at its moment; nobody is to blame. (By the verifier; no statement, no memory.)
-/
namespace Go.Proofs.YtbielnehggcaoaaDoor
open Go.RowKit
def pubP (p : Int) (e : Ev) : Bool := e.pub && decide (e.p = p)
/-- The number of a part's version behind events. -/
def nuL (D : List Ev) (p : Int) : Nat := 1 + (D.filter (pubP p)).length
/-- What it holds. -/
def hoL (f : Hold) (D : List Ev) (p : Int) : Hold := D.foldl (fun f e => if pubP p e then f.chg e else f) f
def firstH (S : List (List (Int × Int))) (p : Int) : Hold := Hold.none.lay (S.getD p.toNat [])
/-- An event is right, and its numbers are those of its moment: behind the events P. -/
structure EvT (S : List (List (Int × Int))) (P : List Ev) (i : Nat) (e : Ev) : Prop where
  b : 1 ≤ e.b ∧ e.b ≤ 1 + 3 * (i : Int) ∧ 1 + 3 * (i : Int) ≤ e.e
  kind : (e.k = 4 ∧ e.p = 0 ∧ e.ns = (List.range S.length).map fun p : Nat => (nuL P p : Int)) ∨ ((e.k = 1 ∨ e.k = 3) ∧ 0 ≤ e.p ∧ e.p < S.length ∧ e.num = nuL P e.p) ∨ (e.k = 2 ∧ 0 ≤ e.p ∧ e.p < S.length ∧ e.num = nuL P e.p + 1)
/-- What it tells of its key was so. -/
structure EvV (S : List (List (Int × Int))) (P : List Ev) (e : Ev) : Prop where
  had : e.k ≠ 4 → e.had = (hoL (firstH S e.p) P e.p e.key).isSome
  val : e.k ≠ 4 → e.val = (hoL (firstH S e.p) P e.p e.key).getD 0
structure Sto (S : List (List (Int × Int))) (D : List Ev) : Prop where
  len : D.length ≤ 1024
  t : ∀ i, i < D.length → EvT S (D.take i) i (eAt D i)
theorem takeE {D : List Ev} {i : Nat} (h : i < D.length) : D.take (i + 1) = D.take i ++ [eAt D i] := by
  rw [List.take_add_one, List.getElem?_eq_getElem h, Option.toList_some]
  congr 2
  exact (eAt_of (List.getElem?_eq_getElem h)).symm
theorem nu_succ {D : List Ev} {i : Nat} (h : i < D.length) (p : Int) : nuL (D.take (i + 1)) p = nuL (D.take i) p + (if pubP p (eAt D i) then 1 else 0) := by
  unfold nuL
  rw [takeE h, List.filter_append, List.length_append]
  cases hb : pubP p (eAt D i) <;> simp [hb, Nat.add_assoc]
theorem ho_succ {D : List Ev} {i : Nat} (h : i < D.length) (f : Hold) (p : Int) : hoL f (D.take (i + 1)) p = if pubP p (eAt D i) then (hoL f (D.take i) p).chg (eAt D i) else hoL f (D.take i) p := by
  unfold hoL
  rw [takeE h, List.foldl_append]
  rfl
theorem nu_mono {D : List Ev} (p : Int) {i j : Nat} (h : i ≤ j) : nuL (D.take i) p ≤ nuL (D.take j) p := by
  obtain ⟨d, rfl⟩ : ∃ d, j = i + d := ⟨j - i, by omega⟩
  clear h
  induction d with
  | zero => exact Nat.le_refl _
  | succ d ih =>
    by_cases hl : i + d < D.length
    · rw [← Nat.add_assoc, nu_succ hl]
      omega
    · have e1 : D.take (i + (d + 1)) = D.take (i + d) := by rw [List.take_of_length_le (by omega), List.take_of_length_le (by omega)]
      rw [e1]
      exact ih
theorem nu_all {D : List Ev} (p : Int) (i : Nat) : nuL (D.take i) p ≤ nuL D p := by
  have h := nu_mono (D := D) p (show i ≤ i + D.length by omega)
  rwa [List.take_of_length_le (l := D) (i := i + D.length) (by omega)] at h
theorem nu_len (D : List Ev) (p : Int) : 1 ≤ nuL D p ∧ nuL D p ≤ D.length + 1 := by
  unfold nuL
  have := List.length_filter_le (pubP p) D
  omega
/-- No version between: nothing has changed. -/
theorem ho_same {D : List Ev} (f : Hold) (p : Int) {i j : Nat} (h : i ≤ j) (e : nuL (D.take i) p = nuL (D.take j) p) : hoL f (D.take i) p = hoL f (D.take j) p := by
  obtain ⟨d, rfl⟩ : ∃ d, j = i + d := ⟨j - i, by omega⟩
  clear h
  induction d with
  | zero => rfl
  | succ d ih =>
    have h1 := nu_mono (D := D) p (show i ≤ i + d by omega)
    by_cases hl : i + d < D.length
    · rw [← Nat.add_assoc, nu_succ hl] at e
      rw [← Nat.add_assoc, ho_succ hl]
      cases hb : pubP p (eAt D (i + d)) with
      | true => rw [hb] at e; simp at e; omega
      | false =>
        rw [hb] at e
        simp at e
        exact ih e
    · have e1 : D.take (i + (d + 1)) = D.take (i + d) := by rw [List.take_of_length_le (by omega), List.take_of_length_le (by omega)]
      rw [e1] at e ⊢
      exact ih e
/-- Each version was published by one. -/
theorem nu_who {D : List Ev} (p : Int) {u : Nat} (h1 : 1 ≤ u) : ∀ n, n ≤ D.length → u < nuL (D.take n) p → ∃ q, q < n ∧ pubP p (eAt D q) = true ∧ nuL (D.take q) p = u
  | 0, _, h => by simp [nuL] at h; omega
  | n + 1, hn, h => by
    by_cases g : u < nuL (D.take n) p
    · obtain ⟨q, h2, h3⟩ := nu_who p h1 n (by omega) g
      exact ⟨q, by omega, h3⟩
    · rw [nu_succ (by omega)] at h
      cases hb : pubP p (eAt D n) with
      | true =>
        rw [hb] at h
        simp at h
        exact ⟨n, by omega, hb, by omega⟩
      | false => rw [hb] at h; simp at h; omega
theorem range_one {P : Nat → Bool} {q : Nat} (hP : ∀ j, P j = true → j = q) (hq : P q = true) : ∀ n, (List.range n).filter P = if q < n then [q] else []
  | 0 => rfl
  | n + 1 => by
    rw [List.range_succ, List.filter_append, range_one hP hq n]
    rcases Nat.lt_trichotomy q n with h | h | h
    · rw [if_pos h, if_pos (by omega)]
      have : P n = false := by
        cases hb : P n with
        | false => rfl
        | true => have := hP n hb; omega
      simp [this]
    · subst h
      rw [if_neg (by omega), if_pos (by omega)]
      simp [hq]
    · rw [if_neg (by omega), if_neg (by omega)]
      have : P n = false := by
        cases hb : P n with
        | false => rfl
        | true => have := hP n hb; omega
      simp [this]
theorem range_none {P : Nat → Bool} (hP : ∀ j, P j = false) (n : Nat) : (List.range n).filter P = [] := by
  rw [List.filter_eq_nil_iff]
  intro j _
  rw [hP j]
  decide
section
variable {S : List (List (Int × Int))} {D : List Ev}
theorem EvT.good {P : List Ev} {i : Nat} {e : Ev} (h : EvT S P i e) : e.good S.length = true ∧ e.e ≠ 0 := by
  obtain ⟨b1, b2, b3⟩ := h.b
  have he : e.e ≠ 0 := by omega
  refine ⟨?_, he⟩
  unfold Ev.good timeB Ev.inPart Ev.pub numsB
  rw [if_neg he]
  rcases h.kind with ⟨k, hp, hn⟩ | ⟨k, p0, p1, hn⟩ | ⟨k, p0, p1, hn⟩
  · rw [if_pos k, if_pos k, hp, hn]
    simp only [Bool.and_eq_true, Bool.or_eq_true, decide_eq_true_eq, List.length_map, List.length_range, List.all_eq_true, List.mem_map, List.mem_range]
    refine ⟨⟨⟨⟨by omega, by omega⟩, b1, .inr (by omega)⟩, trivial⟩, trivial, ?_⟩
    rintro x ⟨p, -, rfl⟩
    have := (nu_len P p).1
    omega
  · have hk : e.k ≠ 4 := by omega
    have := (nu_len P e.p).1
    rw [if_neg hk, if_neg hk, decide_eq_false (show ¬ e.k = 2 by omega), decide_eq_false (show ¬ e.k = 5 by omega)]
    simp only [Bool.and_eq_true, Bool.or_eq_true, decide_eq_true_eq, Bool.or_self, Bool.false_eq_true, if_false]
    exact ⟨⟨⟨⟨by omega, by omega⟩, b1, .inr (by omega)⟩, p0, p1⟩, by omega⟩
  · have hk : e.k ≠ 4 := by omega
    have := (nu_len P e.p).1
    rw [if_neg hk, if_neg hk, decide_eq_true k]
    simp only [Bool.and_eq_true, Bool.or_eq_true, decide_eq_true_eq, Bool.true_or, if_true]
    exact ⟨⟨⟨⟨by omega, by omega⟩, b1, .inr (by omega)⟩, p0, p1⟩, by omega⟩
theorem EvT.endB {P : List Ev} {i : Nat} {e : Ev} (h : EvT S P i e) : endB S.length e = true := by
  unfold Go.Proofs.YtbielnehggcaoaaDoor.endB
  rw [h.good.1, decide_eq_false h.good.2]
  rfl
theorem EvT.pub {P : List Ev} {i : Nat} {e : Ev} (h : EvT S P i e) (hp : e.pub = true) : e.k = 2 ∧ 0 ≤ e.p ∧ e.p < S.length ∧ e.num = nuL P e.p + 1 := by
  unfold Ev.pub at hp
  simp only [Bool.or_eq_true, decide_eq_true_eq] at hp
  rcases h.kind with ⟨k, -⟩ | ⟨k, -⟩ | h
  · omega
  · omega
  · exact h
theorem Sto.uniq (h : Sto S D) {p : Int} {i j : Nat} (hi : i < j) (hj : j < D.length) (h1 : pubP p (eAt D i) = true) (h2 : pubP p (eAt D j) = true) : (eAt D i).num < (eAt D j).num := by
  have e1 := h1
  unfold pubP at h1 h2
  simp only [Bool.and_eq_true, decide_eq_true_eq] at h1 h2
  obtain ⟨-, -, -, n1⟩ := (h.t i (by omega)).pub h1.1
  obtain ⟨-, -, -, n2⟩ := (h.t j hj).pub h2.1
  have hs := nu_succ (show i < D.length by omega) p
  rw [e1] at hs
  have hm := nu_mono (D := D) p (show i + 1 ≤ j by omega)
  rw [n1, n2, h1.2, h2.2]
  simp at hs
  omega
theorem pubL_flat (m : Int) (n : Nat) (p u : Int) : pubL m D n p u = (List.range n).filter fun i => endB m (eAt D i) && ((eAt D i).pub && decide ((eAt D i).p = p) && decide ((eAt D i).num = u)) := by
  unfold pubL endL
  rw [List.filter_filter]
  refine List.filter_congr fun i _ => ?_
  rw [Bool.and_comm]
theorem Sto.pubOne (h : Sto S D) {p : Int} {q : Nat} (hq : q < D.length) (hp : pubP p (eAt D q) = true) : pubL S.length D D.length p ((nuL (D.take q) p : Int) + 1) = [q] := by
  rw [pubL_flat]
  have hp' := hp
  unfold pubP at hp'
  simp only [Bool.and_eq_true, decide_eq_true_eq] at hp'
  have key : ∀ j, j < D.length → ((endB S.length (eAt D j) && ((eAt D j).pub && decide ((eAt D j).p = p) && decide ((eAt D j).num = (nuL (D.take q) p : Int) + 1))) = true ↔ j = q) := fun j hj => by
    obtain ⟨-, -, -, n1⟩ := (h.t q hq).pub hp'.1
    rw [hp'.2] at n1
    constructor
    · intro hb
      simp only [Bool.and_eq_true, decide_eq_true_eq] at hb
      obtain ⟨-, ⟨b1, b2⟩, b3⟩ := hb
      have hpj : pubP p (eAt D j) = true := by unfold pubP; rw [b1, decide_eq_true b2]; rfl
      rcases Nat.lt_trichotomy j q with g | g | g
      · have := h.uniq g hq hpj hp; omega
      · exact g
      · have := h.uniq g hj hp hpj; omega
    · rintro rfl
      rw [(h.t j hj).endB, hp'.1, decide_eq_true hp'.2, decide_eq_true n1]
      rfl
  have e1 : (List.range D.length).filter (fun i => endB S.length (eAt D i) && ((eAt D i).pub && decide ((eAt D i).p = p) && decide ((eAt D i).num = (nuL (D.take q) p : Int) + 1))) = (List.range D.length).filter (fun i => decide (i = q)) := by
    refine List.filter_congr fun j hj => ?_
    rw [Bool.eq_iff_iff, key j (List.mem_range.1 hj)]
    simp
  rw [e1, range_one (q := q) (fun j hj => by simpa using hj) (by simp), if_pos hq]
theorem Sto.pubNone (h : Sto S D) {p : Int} : pubL S.length D D.length p ((nuL D p : Int) + 1) = [] := by
  rw [pubL_flat, List.filter_eq_nil_iff]
  intro j hj hb
  have hj := List.mem_range.1 hj
  simp only [Bool.and_eq_true, decide_eq_true_eq] at hb
  obtain ⟨-, ⟨b1, b2⟩, b3⟩ := hb
  obtain ⟨-, -, -, n1⟩ := (h.t j hj).pub b1
  have hpj : pubP p (eAt D j) = true := by unfold pubP; rw [b1, decide_eq_true b2]; rfl
  have hs := nu_succ hj p
  rw [hpj] at hs
  simp at hs
  have := nu_all (D := D) p (j + 1)
  rw [b2] at n1
  omega
/-- The versions that are told are those that were. -/
theorem Sto.tbl (h : Sto S D) (p : Int) (f0 : Hold) : ∀ (g u i : Nat), i ≤ D.length → nuL (D.take i) p = u → nuL D p ≤ g + u → (tblL S.length D p g u (hoL f0 (D.take i) p)).length + u = nuL D p + 1 ∧ ∀ j, j ≤ D.length → u ≤ nuL (D.take j) p → (tblL S.length D p g u (hoL f0 (D.take i) p)).getD (nuL (D.take j) p - u) Hold.none = hoL f0 (D.take j) p := by
  have hsame : ∀ i j u, i ≤ D.length → j ≤ D.length → nuL (D.take i) p = u → nuL (D.take j) p = u → hoL f0 (D.take i) p = hoL f0 (D.take j) p := fun i j u _ _ h1 h2 => by
    rcases Nat.le_total i j with g | g
    · exact ho_same f0 p g (by omega)
    · exact (ho_same f0 p g (by omega)).symm
  intro g
  induction g with
  | zero =>
    intro u i hi hu hg
    have ha := nu_all (D := D) p i
    unfold tblL
    refine ⟨by simp; omega, fun j hj hju => ?_⟩
    have hb := nu_all (D := D) p j
    have e : nuL (D.take j) p - u = 0 := by omega
    rw [e]
    exact hsame i j u hi hj hu (by omega)
  | succ g ih =>
    intro u i hi hu hg
    have ha := nu_all (D := D) p i
    have hu1 := (nu_len (D.take i) p).1
    unfold tblL
    by_cases hm : u < nuL D p
    · obtain ⟨q, hq, hpq, hnq⟩ := nu_who (D := D) p (by omega : 1 ≤ u) D.length (Nat.le_refl _) (by rw [List.take_length]; exact hm)
      have hone := h.pubOne hq hpq
      rw [hnq] at hone
      have ht : timesN S.length D D.length p (u + 1) = 1 := by unfold timesN; rw [hone]; rfl
      have hpl : placeN S.length D D.length p (u + 1) = q := by unfold placeN; rw [hone]; rfl
      rw [if_pos ht, hpl, hsame i q u hi (by omega) hu hnq]
      have e1 : (hoL f0 (D.take q) p).chg (eAt D q) = hoL f0 (D.take (q + 1)) p := by rw [ho_succ hq, hpq]; rfl
      have e2 : nuL (D.take (q + 1)) p = u + 1 := by rw [nu_succ hq, hpq, hnq]; rfl
      rw [e1]
      obtain ⟨i1, i2⟩ := ih (u + 1) (q + 1) (by omega) e2 (by omega)
      refine ⟨by rw [List.length_cons]; omega, fun j hj hju => ?_⟩
      by_cases hje : nuL (D.take j) p = u
      · rw [hje, Nat.sub_self, List.getD_cons_zero]
        exact hsame q j u (by omega) hj hnq hje
      · obtain ⟨k, hk⟩ : ∃ k, nuL (D.take j) p - u = k + 1 := ⟨nuL (D.take j) p - u - 1, by omega⟩
        rw [hk, List.getD_cons_succ, ← i2 j hj (by omega)]
        congr 1
        omega
    · have ht : ¬ timesN S.length D D.length p (u + 1) = 1 := by
        have := h.pubNone (p := p)
        rw [show nuL D p = u by omega] at this
        unfold timesN
        rw [this]
        decide
      rw [if_neg ht]
      refine ⟨by simp; omega, fun j hj hju => ?_⟩
      have hb := nu_all (D := D) p j
      rw [show nuL (D.take j) p - u = 0 by omega]
      exact hsame i j u hi hj hu (by omega)
theorem Sto.vs (h : Sto S D) (p : Nat) : (vsOf S D p).length = nuL D p ∧ ∀ j, j ≤ D.length → (vsOf S D p).getD (nuL (D.take j) p - 1) Hold.none = hoL (firstH S p) (D.take j) p := by
  have hb := (nu_len D (p : Int)).2
  obtain ⟨h1, h2⟩ := h.tbl (p : Int) (firstH S p) D.length 1 0 (Nat.zero_le _) rfl (by omega)
  have e : vsOf S D p = tblL S.length D p D.length 1 (hoL (firstH S p) (D.take 0) p) := rfl
  rw [e]
  exact ⟨by omega, fun j hj => h2 j hj (nu_len _ _).1⟩
theorem Sto.last (h : Sto S D) {p : Int} (hp : 0 ≤ p) : lastF S D p = (nuL D p : Nat) := by
  rw [lastF_vs, (h.vs p.toNat).1, show ((p.toNat : Nat) : Int) = p by omega]
theorem Sto.untold (h : Sto S D) {i : Nat} (hi : i < D.length) : untoldB S.length D (lastF S D) i = false := by
  unfold untoldB
  have ht := h.t i hi
  have hs := nu_succ hi (eAt D i).p
  have ha := nu_all (D := D) (eAt D i).p i
  have ha1 := nu_all (D := D) (eAt D i).p (i + 1)
  rcases ht.kind with ⟨k, -⟩ | ⟨k, p0, p1, hn⟩ | ⟨k, p0, p1, hn⟩
  · unfold Ev.snap
    rw [decide_eq_true k]
    rfl
  · rw [h.last p0, hn, decide_eq_false (by omega)]
    simp
  · have : pubP (eAt D i).p (eAt D i) = true := by unfold pubP Ev.pub; simp [k]
    rw [this] at hs
    simp at hs
    rw [h.last p0, hn, decide_eq_false (by omega)]
    simp
/-- Which version an event tells of. -/
theorem Sto.told (h : Sto S D) {i : Nat} (hi : i < D.length) (hk : (eAt D i).k ≠ 4) : (eAt D i).told = (nuL (D.take i) (eAt D i).p : Nat) ∧ 0 ≤ (eAt D i).p := by
  have hl := (nu_len (D.take i) (eAt D i).p).2
  have hl2 : (D.take i).length ≤ 1024 := by rw [List.length_take]; have := h.len; omega
  unfold Ev.told
  rcases (h.t i hi).kind with ⟨k, -⟩ | ⟨k, p0, p1, hn⟩ | ⟨k, p0, p1, hn⟩
  · exact absurd k hk
  · rw [if_pos k]
    exact ⟨hn, p0⟩
  · rw [if_neg (by omega), if_pos k, hn]
    refine ⟨?_, p0⟩
    unfold wrap64
    omega
theorem Sto.four (h : Sto S D) {i : Nat} (hi : i < D.length) : fourL S D i = if (eAt D i).k ≠ 4 ∧ otherB (hoL (firstH S (eAt D i).p) (D.take i) (eAt D i).p) (eAt D i) = true then [((i : Int), -1, 4)] else [] := by
  unfold fourL
  by_cases hk : (eAt D i).k = 4
  · have ht : (eAt D i).told = 0 := by
      unfold Ev.told
      rw [if_neg (by omega), if_neg (by omega)]
    rw [if_neg (show ¬ ((eAt D i).k ≠ 4 ∧ _) from fun h => h.1 hk), ht, decide_eq_false (by omega)]
    rfl
  · obtain ⟨ht, p0⟩ := h.told hi hk
    obtain ⟨v1, v2⟩ := h.vs (eAt D i).p.toNat
    have hpp : (((eAt D i).p.toNat : Nat) : Int) = (eAt D i).p := by omega
    rw [hpp] at v1 v2
    have ha := nu_all (D := D) (eAt D i).p i
    have h1 := (nu_len (D.take i) (eAt D i).p).1
    have h2 := v2 i (by omega)
    rw [ht, v1, decide_eq_true (by omega), decide_eq_true (by omega), show ((nuL (D.take i) (eAt D i).p : Nat) : Int).toNat - 1 = nuL (D.take i) (eAt D i).p - 1 by omega, h2]
    simp [hk]
theorem otherB_no {f : Hold} {e : Ev} (h1 : e.had = (f e.key).isSome) (h2 : e.val = (f e.key).getD 0) : otherB f e = false := by
  unfold otherB
  rw [decide_eq_true h1.symm, decide_eq_true h2.symm]
  rfl
theorem otherB_yes {f : Hold} {e : Ev} (h2 : e.val ≠ (f e.key).getD 0) : otherB f e = true := by
  unfold otherB
  rw [show decide ((f e.key).getD 0 = e.val) = false from decide_eq_false (fun h => h2 h.symm)]
  simp
theorem Sto.ahead (h : Sto S D) {i j : Nat} (hi : i < D.length) (hj : j < D.length) (hw : wasA (eAt D j).e (eAt D i).b = true) : j < i := by
  unfold wasA at hw
  simp only [Bool.and_eq_true, decide_eq_true_eq] at hw
  have b1 := (h.t i hi).b
  have b2 := (h.t j hj).b
  omega
theorem Sto.ns (h : Sto S D) {i : Nat} (hi : i < D.length) (hk : (eAt D i).k = 4) {p : Nat} (hp : p < S.length) : (eAt D i).ns.getD p 0 = (nuL (D.take i) p : Nat) := by
  rcases (h.t i hi).kind with ⟨_, _, e⟩ | ⟨k, _⟩ | ⟨k, _⟩
  · rw [e]; simp [hp]
  · omega
  · omega
theorem Sto.nsl (h : Sto S D) {i : Nat} (hi : i < D.length) (hk : (eAt D i).k = 4) : (eAt D i).ns.length = S.length := by
  rcases (h.t i hi).kind with ⟨_, _, e⟩ | ⟨k, _⟩ | ⟨k, _⟩
  · rw [e]; simp
  · omega
  · omega
theorem Sto.below (h : Sto S D) {i j : Nat} (hij : j ≤ i) (hi : i < D.length) (hki : (eAt D i).k = 4) (hkj : (eAt D j).k = 4) : belowB (eAt D i).ns (eAt D j).ns = false := by
  unfold belowB
  rw [List.any_eq_false]
  intro p hp
  rw [List.mem_range, h.nsl hi hki] at hp
  rw [h.ns hi hki hp, h.ns (by omega) hkj hp]
  have := nu_mono (D := D) p hij
  simp
  omega
theorem Sto.num (h : Sto S D) {i : Nat} (hi : i < D.length) (hk : (eAt D i).k ≠ 4) : 0 ≤ (eAt D i).p ∧ (eAt D i).p < S.length ∧ (nuL (D.take i) (eAt D i).p : Int) ≤ (eAt D i).num ∧ (eAt D i).num ≤ nuL (D.take (i + 1)) (eAt D i).p ∧ ((eAt D i).pub = true → (eAt D i).num = nuL (D.take i) (eAt D i).p + 1) := by
  have hs := nu_succ hi (eAt D i).p
  have hm := nu_mono (D := D) (eAt D i).p (show i ≤ i + 1 by omega)
  rcases (h.t i hi).kind with ⟨k, -⟩ | ⟨k, p0, p1, hn⟩ | ⟨k, p0, p1, hn⟩
  · exact absurd k hk
  · refine ⟨p0, p1, by omega, by omega, fun hp => ?_⟩
    obtain ⟨k2, -⟩ := (h.t i hi).pub hp
    omega
  · have : pubP (eAt D i).p (eAt D i) = true := by unfold pubP Ev.pub; simp [k]
    rw [this] at hs
    simp at hs
    exact ⟨p0, p1, by omega, by omega, fun _ => hn⟩
theorem Sto.cmp (h : Sto S D) {i j : Nat} (hi : i < D.length) (hj : j < D.length) : cmpL D i j = [] := by
  have hsn : ∀ k, (eAt D k).snap = true ↔ (eAt D k).k = 4 := fun k => by unfold Ev.snap; simp
  have hsf : ∀ k, (eAt D k).snap = false ↔ (eAt D k).k ≠ 4 := fun k => by unfold Ev.snap; simp
  have hpk : ∀ k, k < D.length → (eAt D k).pub = true → (eAt D k).k ≠ 4 := fun k hk hp => by have := ((h.t k hk).pub hp).1; omega
  have c1 : (decide (j < i) && twiceB (eAt D i) (eAt D j)) = false := by
    rw [Bool.eq_false_iff]
    intro hb
    unfold twiceB at hb
    simp only [Bool.and_eq_true, decide_eq_true_eq] at hb
    obtain ⟨hji, ⟨⟨p1, p2⟩, p3⟩, p4⟩ := hb
    have := h.uniq (p := (eAt D i).p) hji hi (by unfold pubP; rw [p2, decide_eq_true p3.symm]; rfl) (by unfold pubP; rw [p1]; simp)
    omega
  have c2 : (wasA (eAt D j).e (eAt D i).b && backB (eAt D i) (eAt D j)) = false := by
    rw [Bool.eq_false_iff]
    intro hb
    unfold backB at hb
    simp only [Bool.and_eq_true, Bool.not_eq_true', Bool.or_eq_true, decide_eq_true_eq] at hb
    obtain ⟨hw, ⟨⟨s1, s2⟩, hp⟩, hn⟩ := hb
    have hji := h.ahead hi hj hw
    obtain ⟨-, -, a3, a4, a5⟩ := h.num hi ((hsf i).1 s1)
    obtain ⟨-, -, b3, b4, b5⟩ := h.num hj ((hsf j).1 s2)
    have hm := nu_mono (D := D) (eAt D i).p (show j + 1 ≤ i by omega)
    rw [← hp] at b4
    rcases hn with hn | ⟨hn, hq⟩
    · omega
    · have := a5 hq; omega
  have c3 : (wasA (eAt D j).e (eAt D i).b && (wlateB (eAt D i) (eAt D j) || slateB (eAt D i) (eAt D j))) = false := by
    rw [Bool.eq_false_iff]
    intro hb
    unfold wlateB slateB at hb
    simp only [Bool.and_eq_true, Bool.not_eq_true', Bool.or_eq_true, decide_eq_true_eq] at hb
    obtain ⟨hw, hq⟩ := hb
    have hji := h.ahead hi hj hw
    rcases hq with ⟨⟨s, q⟩, hn⟩ | ⟨⟨s, q⟩, hn⟩
    · obtain ⟨p0, p1, a3, a4, a5⟩ := h.num hi (hpk i hi q)
      rw [h.ns hj ((hsn j).1 s) (by omega), show (((eAt D i).p.toNat : Nat) : Int) = (eAt D i).p by omega] at hn
      have := a5 q
      have hm := nu_mono (D := D) (eAt D i).p (show j ≤ i by omega)
      omega
    · obtain ⟨p0, p1, a3, a4, a5⟩ := h.num hj ((hsf j).1 q)
      rw [h.ns hi ((hsn i).1 s) (by omega), show (((eAt D j).p.toNat : Nat) : Int) = (eAt D j).p by omega] at hn
      have hm := nu_mono (D := D) (eAt D j).p (show j + 1 ≤ i by omega)
      omega
  have c4 : (decide (j < i) && apartB (eAt D i) (eAt D j)) = false := by
    rw [Bool.eq_false_iff]
    intro hb
    unfold apartB at hb
    simp only [Bool.and_eq_true, Bool.or_eq_true, decide_eq_true_eq] at hb
    obtain ⟨hji, ⟨s1, s2⟩, hq⟩ := hb
    have k1 := (hsn i).1 s1
    have k2 := (hsn j).1 s2
    have hb1 := h.below (show j ≤ i by omega) hi k1 k2
    rcases hq with (⟨q, -⟩ | ⟨q, -⟩) | ⟨q, hw⟩
    · rw [hb1] at q; cases q
    · rw [hb1] at q; cases q
    · have := h.ahead hj hi hw
      omega
  unfold cmpL
  rw [c1, c2, c3, c4]
  rfl
theorem Sto.ref (h : Sto S D) {i : Nat} (hi : i < D.length) : refL S D i = if (eAt D i).k ≠ 4 ∧ otherB (hoL (firstH S (eAt D i).p) (D.take i) (eAt D i).p) (eAt D i) = true then [((i : Int), -1, 4)] else [] := by
  have e1 : (endL S.length D D.length).flatMap (cmpL D i) = [] := by
    rw [flat_congr (G := fun _ => []) _ fun j hj => h.cmp hi (mem_endL.1 hj).1]
    exact flat_nil _
  unfold refL eachL
  rw [(h.t i hi).good.1, (h.t i hi).endB, h.untold hi, e1, h.four hi]
  simp
theorem ref_out (S : List (List (Int × Int))) (D : List Ev) {x : Bm} (h : x ∈ (List.range D.length).flatMap (refL S D)) : ∃ i, i < D.length ∧ x ∈ refL S D i := by
  obtain ⟨i, hi, hx⟩ := List.mem_flatMap.1 h
  exact ⟨i, List.mem_range.1 hi, hx⟩
/-- A history that was has no blames. -/
theorem Sto.none (h : Sto S D) (hv : ∀ i, i < D.length → EvV S (D.take i) (eAt D i)) : allBm S D = [] := by
  have e : (List.range D.length).flatMap (refL S D) = [] := by
    rw [flat_congr (G := fun _ => []) _ fun i hi => by
      have hi := List.mem_range.1 hi
      rw [h.ref hi, if_neg]
      rintro ⟨hk, ho⟩
      rw [otherB_no ((hv i hi).had hk) ((hv i hi).val hk)] at ho
      cases ho]
    exact flat_nil _
  have := ref_perm S D
  rw [e] at this
  exact this.symm.eq_nil
/-- With the value of one changed, that one is blamed. -/
theorem Sto.one (h : Sto S D) {q : Nat} (hq : q < D.length) (hv : ∀ i, i < D.length → i ≠ q → EvV S (D.take i) (eAt D i)) (hk : (eAt D q).k ≠ 4) (ho : (eAt D q).val ≠ (hoL (firstH S (eAt D q).p) (D.take q) (eAt D q).p (eAt D q).key).getD 0) : (allBm S D).Perm [((q : Int), -1, 4)] := by
  refine (ref_perm S D).symm.trans (.of_eq ?_)
  rw [flat_congr (G := fun i => if i = q then [((q : Int), -1, 4)] else []) _ fun i hi => by
    have hi := List.mem_range.1 hi
    rw [h.ref hi]
    by_cases e : i = q
    · subst e
      rw [if_pos ⟨hk, otherB_yes ho⟩, if_pos rfl]
    · rw [if_neg e, if_neg]
      rintro ⟨hk, ho⟩
      rw [otherB_no ((hv i hi e).had hk) ((hv i hi e).val hk)] at ho
      cases ho]
  rw [flat_one _ q (fun j hj => if_neg hj), if_pos hq, if_pos rfl]
end
end Go.Proofs.YtbielnehggcaoaaDoor
/-
  A history in which one write is told twice: both are blamed, and that there is no version of theirs. (By the verifier; no statement, no memory.)
-/
namespace Go.Proofs.YtbielnehggcaoaaDoor
open Go.RowKit
def threeB (n q : Nat) (x : Bm) : Bool := decide (x = ((n : Int), (q : Int), 2)) || (decide (x = ((q : Int), -1, 3)) || decide (x = ((n : Int), -1, 3)))
theorem cntS {β : Type} (P : β → Bool) (F : Nat → List β) (n : Nat) : ((List.range (n + 1)).flatMap F).countP P = ((List.range n).flatMap F).countP P + (F n).countP P := by
  rw [List.range_succ, List.flatMap_append, List.countP_append, List.flatMap_cons, List.flatMap_nil, List.append_nil]
theorem cntZ {β : Type} (P : β → Bool) (F : Nat → List β) : ∀ n, (∀ j, j < n → (F j).countP P = 0) → ((List.range n).flatMap F).countP P = 0
  | 0, _ => rfl
  | n + 1, h => by rw [cntS, cntZ P F n fun j hj => h j (by omega), h n (by omega)]
theorem cntO {β : Type} (P : β → Bool) (F : Nat → List β) {q : Nat} : ∀ n, q < n → (∀ j, j < n → j ≠ q → (F j).countP P = 0) → ((List.range n).flatMap F).countP P = (F q).countP P
  | 0, h, _ => absurd h (Nat.not_lt_zero _)
  | n + 1, h, hz => by
    rw [cntS]
    by_cases e : q = n
    · subst e
      rw [cntZ P F q fun j hj => hz j (by omega) (by omega), Nat.zero_add]
    · rw [cntO P F n (by omega) fun j hj => hz j (by omega), hz n (by omega) (fun h => e h.symm), Nat.add_zero]
theorem eAt_app {D : List Ev} {e : Ev} {i : Nat} (h : i < D.length) : eAt (D ++ [e]) i = eAt D i := by
  unfold eAt
  simp [List.getElem?_append_left h]
theorem eAt_last (D : List Ev) (e : Ev) : eAt (D ++ [e]) D.length = e := by
  unfold eAt
  simp
section
variable {S : List (List (Int × Int))} {D : List Ev} {q : Nat}
theorem Sto.at2 (h : Sto S D) (hq : q < D.length) {i : Nat} (hi : i < D.length + 1) : (eAt (D ++ [eAt D q]) i).good S.length = true ∧ (eAt (D ++ [eAt D q]) i).e ≠ 0 ∧ endB S.length (eAt (D ++ [eAt D q]) i) = true := by
  by_cases e : i < D.length
  · rw [eAt_app e]
    exact ⟨(h.t i e).good.1, (h.t i e).good.2, (h.t i e).endB⟩
  · obtain rfl : i = D.length := by omega
    rw [eAt_last]
    exact ⟨(h.t q hq).good.1, (h.t q hq).good.2, (h.t q hq).endB⟩
/-- It is the first one. -/
theorem Sto.first (h : Sto S D) (hq : q < D.length) (hf : ∀ i, i < q → (eAt D i).k ≠ 2) (p : Int) : ∀ j, j ≤ q → nuL (D.take j) p = 1
  | 0, _ => rfl
  | j + 1, hj => by
    rw [nu_succ (by omega), Sto.first h hq hf p j (by omega)]
    cases hb : pubP p (eAt D j) with
    | false => rfl
    | true =>
      unfold pubP at hb
      simp only [Bool.and_eq_true] at hb
      exact absurd ((h.t j (by omega)).pub hb.1).1 (hf j (by omega))
theorem Sto.pub2 (h : Sto S D) (hq : q < D.length) (hk : (eAt D q).k = 2) (hf : ∀ i, i < q → (eAt D i).k ≠ 2) : timesN S.length (D ++ [eAt D q]) (D.length + 1) (eAt D q).p 2 = 2 ∧ (eAt D q).num = 2 := by
  have hpub : (eAt D q).pub = true := by unfold Ev.pub; simp [hk]
  obtain ⟨-, -, -, hn⟩ := (h.t q hq).pub hpub
  have hf1 := h.first hq hf (eAt D q).p q (Nat.le_refl _)
  rw [hf1] at hn
  have hn2 : (eAt D q).num = 2 := by omega
  refine ⟨?_, hn2⟩
  unfold timesN
  rw [pubL_succ, eAt_last, (h.t q hq).endB, hpub, hn2]
  have e1 : pubL S.length (D ++ [eAt D q]) D.length (eAt D q).p 2 = [q] := by
    have e2 : pubL S.length (D ++ [eAt D q]) D.length (eAt D q).p 2 = pubL S.length D D.length (eAt D q).p ((nuL (D.take q) (eAt D q).p : Int) + 1) := by
      rw [pubL_flat, pubL_flat, hf1]
      refine List.filter_congr fun i hi => ?_
      rw [eAt_app (List.mem_range.1 hi)]
      rfl
    rw [e2, h.pubOne hq (by unfold pubP; rw [hpub]; simp)]
  rw [e1]
  simp
theorem Sto.last2 (h : Sto S D) (hq : q < D.length) (hk : (eAt D q).k = 2) (hf : ∀ i, i < q → (eAt D i).k ≠ 2) : lastF S (D ++ [eAt D q]) (eAt D q).p = 1 := by
  have hpub : (eAt D q).pub = true := by unfold Ev.pub; simp [hk]
  obtain ⟨-, p0, -⟩ := (h.t q hq).pub hpub
  have h2 := (h.pub2 hq hk hf).1
  rw [lastF_vs]
  unfold vsOf
  have el : (D ++ [eAt D q]).length = D.length + 1 := by simp
  rw [el]
  unfold tblL
  rw [el, show (((eAt D q).p.toNat : Nat) : Int) = (eAt D q).p by omega, if_neg (show ¬ timesN S.length (D ++ [eAt D q]) (D.length + 1) (eAt D q).p ((1 : Nat) + 1) = 1 by
    rw [show ((1 : Nat) : Int) + 1 = 2 by rfl, h2]
    decide)]
  rfl
theorem Sto.untold2 (h : Sto S D) (hq : q < D.length) (hk : (eAt D q).k = 2) (hf : ∀ i, i < q → (eAt D i).k ≠ 2) {i : Nat} (hi : eAt (D ++ [eAt D q]) i = eAt D q) : untoldB S.length (D ++ [eAt D q]) (lastF S (D ++ [eAt D q])) i = true := by
  have hb : busyB S.length (D ++ [eAt D q]) (D ++ [eAt D q]).length (eAt D q).p = false := by
    unfold busyB
    rw [List.any_eq_false]
    intro j hj
    rw [List.mem_range, List.length_append] at hj
    have := (h.at2 hq (i := j) (by simpa using hj)).2.1
    simp [this]
  unfold untoldB
  rw [hi, h.last2 hq hk hf, (h.pub2 hq hk hf).2, hb]
  unfold Ev.snap
  rw [hk]
  rfl
theorem cmp_with {D : List Ev} {i j : Nat} {x : Bm} (h : x ∈ cmpL D i j) : x.1 = (i : Int) ∧ x.2.1 = (j : Int) := by
  unfold cmpL at h
  simp only [List.mem_append] at h
  rcases h with h | h | h | h <;>
  · split at h
    · rw [List.mem_singleton.1 h]
      exact ⟨rfl, rfl⟩
    · cases h
theorem four_no {S : List (List (Int × Int))} {D : List Ev} (n q i : Nat) : (fourL S D i).countP (threeB n q) = 0 := by
  unfold fourL
  split
  · simp [threeB]
  · rfl
theorem Sto.ref2 (h : Sto S D) (hq : q < D.length) (hk : (eAt D q).k = 2) (hf : ∀ i, i < q → (eAt D i).k ≠ 2) {i : Nat} (hi : i < D.length + 1) (he : eAt (D ++ [eAt D q]) i = eAt D q) : (refL S (D ++ [eAt D q]) i).countP (threeB D.length q) = (threeB D.length q ((i : Int), -1, 3)).toNat + ((List.range (D.length + 1)).flatMap fun j => if endB S.length (eAt (D ++ [eAt D q]) j) then cmpL (D ++ [eAt D q]) i j else []).countP (threeB D.length q) := by
  unfold refL eachL
  obtain ⟨a1, a2, a3⟩ := h.at2 hq hi
  rw [a1, a3, h.untold2 hq hk hf he]
  unfold endL
  rw [flat_if]
  simp only [if_true, List.countP_append, four_no, List.countP_nil, Nat.zero_add, List.length_append, List.length_cons, List.length_nil]
  congr 1
/-- The three blames, each once. -/
theorem Sto.two (h : Sto S D) (hq : q < D.length) (hk : (eAt D q).k = 2) (hf : ∀ i, i < q → (eAt D i).k ≠ 2) : (allBm S (D ++ [eAt D q])).countP (threeB D.length q) = 3 := by
  have hpub : (eAt D q).pub = true := by unfold Ev.pub; simp [hk]
  rw [← (ref_perm S (D ++ [eAt D q])).countP_eq]
  have el : (D ++ [eAt D q]).length = D.length + 1 := by simp
  rw [el, cntS, cntO (q := q) _ _ _ hq fun j hj hne => by
    rw [List.countP_eq_zero]
    intro x hx
    have h1 := refL_at hx
    unfold threeB
    simp only [Bool.or_eq_true, decide_eq_true_eq]
    rintro (e | e | e) <;> · rw [e] at h1; dsimp only at h1; omega]
  rw [h.ref2 hq hk hf (by omega) (eAt_app hq), h.ref2 hq hk hf (by omega) (eAt_last D _)]
  have z1 : ((List.range (D.length + 1)).flatMap fun j => if endB S.length (eAt (D ++ [eAt D q]) j) then cmpL (D ++ [eAt D q]) q j else []).countP (threeB D.length q) = 0 := by
    refine cntZ _ _ _ fun j hj => ?_
    rw [List.countP_eq_zero]
    intro x hx
    split at hx
    · obtain ⟨h1, h2⟩ := cmp_with hx
      unfold threeB
      simp only [Bool.or_eq_true, decide_eq_true_eq]
      rintro (e | e | e) <;> · rw [e] at h1 h2; dsimp only at h1 h2; omega
    · cases hx
  have z2 : ((List.range (D.length + 1)).flatMap fun j => if endB S.length (eAt (D ++ [eAt D q]) j) then cmpL (D ++ [eAt D q]) D.length j else []).countP (threeB D.length q) = 1 := by
    rw [cntO (q := q) _ _ _ (by omega) fun j hj hne => by
      rw [List.countP_eq_zero]
      intro x hx
      split at hx
      · obtain ⟨h1, h2⟩ := cmp_with hx
        unfold threeB
        simp only [Bool.or_eq_true, decide_eq_true_eq]
        rintro (e | e | e) <;> · rw [e] at h1 h2; dsimp only at h1 h2; omega
      · cases hx]
    rw [(h.at2 hq (i := q) (by omega)).2.2, if_pos rfl]
    unfold cmpL
    rw [eAt_last, eAt_app hq, decide_eq_true hq, show twiceB (eAt D q) (eAt D q) = true by unfold twiceB; rw [hpub]; simp]
    have k : ∀ (c : Bool) (w : Int), w ≠ 2 → (if c then [((D.length : Int), (q : Int), w)] else []).countP (threeB D.length q) = 0 := fun c w hw => by
      cases c
      · rfl
      · have : threeB D.length q ((D.length : Int), (q : Int), w) = false := by
          unfold threeB
          simp only [Bool.or_eq_false_iff, decide_eq_false_iff_not, Prod.mk.injEq]
          omega
        simp [this]
    simp only [List.countP_append]
    rw [k _ 5 (by decide), k _ 6 (by decide), k _ 7 (by decide)]
    simp [threeB]
  rw [z1, z2]
  have t1 : threeB D.length q ((q : Int), -1, 3) = true := by unfold threeB; simp
  have t2 : threeB D.length q ((D.length : Int), -1, 3) = true := by unfold threeB; simp
  rw [t1, t2]
  rfl
end
end Go.Proofs.YtbielnehggcaoaaDoor
/-
  Is a list of numbers an order? (By the verifier; no statement, no memory.)
-/
namespace Go.Proofs.YtbielnehggcaoaaDoor
open Go.RowKit
def fitGo (D : List Dd) : Pl → (Int → Int) → List Int → Bool
  | S, _, [] => allIn D S
  | S, v, k :: os => decide (0 ≤ k) && (decide (k < D.length) && (may D S k.toNat && ((dAt D k.toNat).fits (v (dAt D k.toNat).a) && fitGo D (S.upd k.toNat) (stepV D v k.toNat) os)))
variable {D : List Dd}
theorem fitGo_goes : ∀ (os : List Int) (S : Pl) (v : Int → Int), fitGo D S v os = true → ∃ l : List Nat, os = ints l ∧ Goes D S v l
  | [], S, v, h => ⟨[], rfl, .nil h⟩
  | k :: os, S, v, h => by
    unfold fitGo at h
    simp only [Bool.and_eq_true, decide_eq_true_eq] at h
    obtain ⟨h0, h1, h2, h3, h4⟩ := h
    obtain ⟨l, e, g⟩ := fitGo_goes os _ _ h4
    exact ⟨k.toNat :: l, by rw [e]; simp only [ints, List.map_cons]; rw [Int.toNat_of_nonneg h0], .cons (by omega) h2 h3 g⟩
theorem goes_fitGo {S : Pl} {v : Int → Int} {os : List Nat} (h : Goes D S v os) : fitGo D S v (ints os) = true := by
  induction h with
  | nil h => exact h
  | @cons S v i os hi hm hf _ ih =>
    simp only [ints, List.map_cons]
    unfold fitGo
    rw [Int.toNat_natCast, decide_eq_true (by omega), decide_eq_true (by omega), hm, hf]
    exact ih
end Go.Proofs.YtbielnehggcaoaaDoor
/- A frame, spelled out. -/
namespace Go.Proofs.YtbielnehggcaoaaDoor
open Go.RowKit
def lit184 (c : Nat → Value) : Array Value := #[c 0, c 1, c 2, c 3, c 4, c 5, c 6, c 7, c 8, c 9, c 10, c 11, c 12, c 13, c 14, c 15, c 16, c 17, c 18, c 19, c 20, c 21, c 22, c 23, c 24, c 25, c 26, c 27, c 28, c 29, c 30, c 31, c 32, c 33, c 34, c 35, c 36, c 37, c 38, c 39, c 40, c 41, c 42, c 43, c 44, c 45, c 46, c 47, c 48, c 49, c 50, c 51, c 52, c 53, c 54, c 55, c 56, c 57, c 58, c 59, c 60, c 61, c 62, c 63, c 64, c 65, c 66, c 67, c 68, c 69, c 70, c 71, c 72, c 73, c 74, c 75, c 76, c 77, c 78, c 79, c 80, c 81, c 82, c 83, c 84, c 85, c 86, c 87, c 88, c 89, c 90, c 91, c 92, c 93, c 94, c 95, c 96, c 97, c 98, c 99, c 100, c 101, c 102, c 103, c 104, c 105, c 106, c 107, c 108, c 109, c 110, c 111, c 112, c 113, c 114, c 115, c 116, c 117, c 118, c 119, c 120, c 121, c 122, c 123, c 124, c 125, c 126, c 127, c 128, c 129, c 130, c 131, c 132, c 133, c 134, c 135, c 136, c 137, c 138, c 139, c 140, c 141, c 142, c 143, c 144, c 145, c 146, c 147, c 148, c 149, c 150, c 151, c 152, c 153, c 154, c 155, c 156, c 157, c 158, c 159, c 160, c 161, c 162, c 163, c 164, c 165, c 166, c 167, c 168, c 169, c 170, c 171, c 172, c 173, c 174, c 175, c 176, c 177, c 178, c 179, c 180, c 181, c 182, c 183]
set_option maxRecDepth 100000 in
theorem lit184_eq (c : Nat → Value) : lit184 c = ((List.range 184).map c).toArray := by rfl
theorem expand184 {a : Act} (hs : a.tmps.size = 184) (hd : a.defers = []) : ∃ c : Nat → Value, a = ⟨lit184 c, []⟩ ∧ ∀ s, c s = a.eval (.tmp s) := by
  refine ⟨fun s => a.tmps.getD s undef, ?_, fun s => rfl⟩
  obtain ⟨t, d⟩ := a
  simp only at hs hd
  subst hd
  congr 1
  rw [lit184_eq]
  refine Array.ext (by simp [hs]) fun i h1 h2 => ?_
  simp [Array.getD, h1]
theorem expand184d {a : Act} {ds : List Deferred} (hs : a.tmps.size = 184) (hd : a.defers = ds) : ∃ c : Nat → Value, a = ⟨lit184 c, ds⟩ ∧ ∀ s, c s = a.eval (.tmp s) := by
  refine ⟨fun s => a.tmps.getD s undef, ?_, fun s => rfl⟩
  obtain ⟨t, d⟩ := a
  simp only at hs hd
  subst hd
  congr 1
  rw [lit184_eq]
  refine Array.ext (by simp [hs]) fun i h1 h2 => ?_
  simp [Array.getD, h1]
end Go.Proofs.YtbielnehggcaoaaDoor
/-
  What a deed does alone, by the law's own switch. (By the verifier; no statement.)
-/
namespace Go.Proofs.YtbielnehggcaoaaDoor
open Go.RowKit
/-- Slots that the switch and what is behind it leave alone. -/
def keepL : List Nat := [0, 1, 2, 3, 4, 5, 6, 7, 8, 9, 10, 11, 12, 17, 18, 19, 20, 21, 22, 165, 166, 167, 168, 169, 170, 171, 172, 173, 174, 175, 176, 177, 178, 179, 180, 181, 182, 183]
set_option maxRecDepth 100000 in
set_option maxHeartbeats 6400000 in
theorem fit_sw {a : Act} {x : World} {K : Act → World → Prop} {Q : Exit → Act → World → Prop} {db : Nat} {d : Dd} {v : Int} (hs : a.tmps.size = 184) (hd : a.defers = []) (h1 : 1 ≤ d.k) (h7 : d.k ≤ 7) (p12 : a.eval (.tmp 12) = .pointer (some ⟨db, 0, none⟩)) (p13 : a.eval (.tmp 13) = .int .i64 v) (p14 : a.eval (.tmp 14) = .int .i64 v) (p15 : a.eval (.tmp 15) = .int .i64 0) (p16 : a.eval (.tmp 16) = .bool false)
    (hb : x.heap[db]? = some (.cells (dcs d).toArray 27 (0, 0)))
    (hK : ∀ a' n, a'.tmps.size = 184 → a'.defers = [] → (∀ s ∈ keepL, a'.eval (.tmp s) = a.eval (.tmp s)) → a'.eval (.tmp 14) = .int .i64 (d.next v) → a'.eval (.tmp 15) = .int .i64 (d.ans v) → a'.eval (.tmp 16) = .bool (d.did v) → K a' (x.drewN n)) :
    (atc Tryd.f16.body [1, 1, 1, 0, 1, 0, 0, 1, 0, 0, 1, 1, 1, 1, 1, 1, 1, 0]).wp Tryd.prog (Exit.then K Q) a x := by
  obtain ⟨bl, -, -, b2, -, b4, b5, -, -⟩ := cells8 hb
  have HK : Hid _ := hK
  clear hK hb
  obtain ⟨cc, hcc, hce⟩ := expand184 hs hd
  have q12 := (hce 12).trans p12
  have q13 := (hce 13).trans p13
  have q14 := (hce 14).trans p14
  have q15 := (hce 15).trans p15
  have q16 := (hce 16).trans p16
  clear hce p12 p13 p14 p15 p16 hs hd
  subst hcc
  have T13 : ∀ a' : Act, a'.eval (.tmp 0) = cc 0 → a'.eval (.tmp 1) = cc 1 → a'.eval (.tmp 2) = cc 2 → a'.eval (.tmp 3) = cc 3 → a'.eval (.tmp 4) = cc 4 → a'.eval (.tmp 5) = cc 5 → a'.eval (.tmp 6) = cc 6 → a'.eval (.tmp 7) = cc 7 → a'.eval (.tmp 8) = cc 8 → a'.eval (.tmp 9) = cc 9 → a'.eval (.tmp 10) = cc 10 → a'.eval (.tmp 11) = cc 11 → a'.eval (.tmp 12) = .pointer (some ⟨db, 0, none⟩) → a'.eval (.tmp 17) = cc 17 → a'.eval (.tmp 18) = cc 18 → a'.eval (.tmp 19) = cc 19 → a'.eval (.tmp 20) = cc 20 → a'.eval (.tmp 21) = cc 21 → a'.eval (.tmp 22) = cc 22 → a'.eval (.tmp 165) = cc 165 → a'.eval (.tmp 166) = cc 166 → a'.eval (.tmp 167) = cc 167 → a'.eval (.tmp 168) = cc 168 → a'.eval (.tmp 169) = cc 169 → a'.eval (.tmp 170) = cc 170 → a'.eval (.tmp 171) = cc 171 → a'.eval (.tmp 172) = cc 172 → a'.eval (.tmp 173) = cc 173 → a'.eval (.tmp 174) = cc 174 → a'.eval (.tmp 175) = cc 175 → a'.eval (.tmp 176) = cc 176 → a'.eval (.tmp 177) = cc 177 → a'.eval (.tmp 178) = cc 178 → a'.eval (.tmp 179) = cc 179 → a'.eval (.tmp 180) = cc 180 → a'.eval (.tmp 181) = cc 181 → a'.eval (.tmp 182) = cc 182 → a'.eval (.tmp 183) = cc 183 → ∀ s ∈ keepL, a'.eval (.tmp s) = (⟨lit184 cc, []⟩ : Act).eval (.tmp s) := by
    intro a' z0 z1 z2 z3 z4 z5 z6 z7 z8 z9 z10 z11 z12 z17 z18 z19 z20 z21 z22 z165 z166 z167 z168 z169 z170 z171 z172 z173 z174 z175 z176 z177 z178 z179 z180 z181 z182 z183 s hs
    simp only [keepL, List.mem_cons, List.not_mem_nil, or_false] at hs
    rcases hs with rfl | rfl | rfl | rfl | rfl | rfl | rfl | rfl | rfl | rfl | rfl | rfl | rfl | rfl | rfl | rfl | rfl | rfl | rfl | rfl | rfl | rfl | rfl | rfl | rfl | rfl | rfl | rfl | rfl | rfl | rfl | rfl | rfl | rfl | rfl | rfl | rfl | rfl
    · exact z0
    · exact z1
    · exact z2
    · exact z3
    · exact z4
    · exact z5
    · exact z6
    · exact z7
    · exact z8
    · exact z9
    · exact z10
    · exact z11
    · exact z12.trans q12.symm
    · exact z17
    · exact z18
    · exact z19
    · exact z20
    · exact z21
    · exact z22
    · exact z165
    · exact z166
    · exact z167
    · exact z168
    · exact z169
    · exact z170
    · exact z171
    · exact z172
    · exact z173
    · exact z174
    · exact z175
    · exact z176
    · exact z177
    · exact z178
    · exact z179
    · exact z180
    · exact z181
    · exact z182
    · exact z183
  have HT13 : Hid _ := T13
  clear T13
  conv => arg 2; whnf
  unfold lit184
  simp only [q12, q13, q14, q15, q16]
  rcases (by omega : d.k = 1 ∨ d.k = 2 ∨ d.k = 3 ∨ d.k = 4 ∨ d.k = 5 ∨ d.k = 6 ∨ d.k = 7) with g | g | g | g | g | g | g
  · rw [g] at b2
    go_wp2
    exact HK.out _ 0 rfl rfl (HT13.out _ rfl rfl rfl rfl rfl rfl rfl rfl rfl rfl rfl rfl rfl rfl rfl rfl rfl rfl rfl rfl rfl rfl rfl rfl rfl rfl rfl rfl rfl rfl rfl rfl rfl rfl rfl rfl rfl rfl) (by rw [show d.next v = v by simp [Dd.next, g]]; rfl) (by rw [show d.ans v = v by simp [Dd.ans, g]]; rfl) (by rw [show d.did v = false by simp [Dd.did, g]]; rfl)
  · rw [g] at b2
    go_wp2
    exact HK.out _ 0 rfl rfl (HT13.out _ rfl rfl rfl rfl rfl rfl rfl rfl rfl rfl rfl rfl rfl rfl rfl rfl rfl rfl rfl rfl rfl rfl rfl rfl rfl rfl rfl rfl rfl rfl rfl rfl rfl rfl rfl rfl rfl rfl) (by rw [show d.next v = d.x by simp [Dd.next, g]]; rfl) (by rw [show d.ans v = 0 by simp [Dd.ans, g]]; rfl) (by rw [show d.did v = false by simp [Dd.did, g]]; rfl)
  · rw [g] at b2
    go_wp2
    go_quiet (fail)
    go_wp2
    exact HK.out _ _ rfl rfl (HT13.out _ rfl rfl rfl rfl rfl rfl rfl rfl rfl rfl rfl rfl rfl rfl rfl rfl rfl rfl rfl rfl rfl rfl rfl rfl rfl rfl rfl rfl rfl rfl rfl rfl rfl rfl rfl rfl rfl rfl) (by rw [show d.next v = wrap64 (v + d.x) by simp [Dd.next, g]]; rfl) (by rw [show d.ans v = wrap64 (v + d.x) by simp [Dd.ans, g]]; rfl) (by rw [show d.did v = false by simp [Dd.did, g]]; rfl)
  · rw [g] at b2
    go_wp2
    exact HK.out _ 0 rfl rfl (HT13.out _ rfl rfl rfl rfl rfl rfl rfl rfl rfl rfl rfl rfl rfl rfl rfl rfl rfl rfl rfl rfl rfl rfl rfl rfl rfl rfl rfl rfl rfl rfl rfl rfl rfl rfl rfl rfl rfl rfl) (by rw [show d.next v = d.x by simp [Dd.next, g]]; rfl) (by rw [show d.ans v = v by simp [Dd.ans, g]]; rfl) (by rw [show d.did v = false by simp [Dd.did, g]]; rfl)
  · rw [g] at b2
    by_cases e : v = d.x
    · have e2 : (v == d.x) = true := by simpa using e
      go_wp2
      exact HK.out _ 0 rfl rfl (HT13.out _ rfl rfl rfl rfl rfl rfl rfl rfl rfl rfl rfl rfl rfl rfl rfl rfl rfl rfl rfl rfl rfl rfl rfl rfl rfl rfl rfl rfl rfl rfl rfl rfl rfl rfl rfl rfl rfl rfl) (by rw [show d.next v = d.c by simp [Dd.next, g, e]]; rfl) (by rw [show d.ans v = 0 by simp [Dd.ans, g]]; rfl) (by rw [show d.did v = true by simp [Dd.did, g, e]]; rfl)
    · have e2 : (v == d.x) = false := by simpa using e
      go_wp2
      exact HK.out _ 0 rfl rfl (HT13.out _ rfl rfl rfl rfl rfl rfl rfl rfl rfl rfl rfl rfl rfl rfl rfl rfl rfl rfl rfl rfl rfl rfl rfl rfl rfl rfl rfl rfl rfl rfl rfl rfl rfl rfl rfl rfl rfl rfl) (by rw [show d.next v = v by simp [Dd.next, g, e]]; rfl) (by rw [show d.ans v = 0 by simp [Dd.ans, g]]; rfl) (by rw [show d.did v = false by simp [Dd.did, g, e]]; rfl)
  · rw [g] at b2
    have hN : d.next v = max v d.x := by simp [Dd.next, g]
    have hA : d.ans v = max v d.x := by simp [Dd.ans, g]
    rcases (by omega : v < d.x ∨ ¬ v < d.x) with e | e
    · have hm : max v d.x = d.x := by omega
      go_wp2
      go_quiet (fail)
      go_wp2
      exact HK.out _ _ rfl rfl (HT13.out _ rfl rfl rfl rfl rfl rfl rfl rfl rfl rfl rfl rfl rfl rfl rfl rfl rfl rfl rfl rfl rfl rfl rfl rfl rfl rfl rfl rfl rfl rfl rfl rfl rfl rfl rfl rfl rfl rfl) (by rw [hN, hm]; rfl) (by rw [hA, hm]; rfl) (by rw [show d.did v = false by simp [Dd.did, g]]; rfl)
    · have hm : max v d.x = v := by omega
      go_wp2
      go_quiet (fail)
      go_wp2
      exact HK.out _ _ rfl rfl (HT13.out _ rfl rfl rfl rfl rfl rfl rfl rfl rfl rfl rfl rfl rfl rfl rfl rfl rfl rfl rfl rfl rfl rfl rfl rfl rfl rfl rfl rfl rfl rfl rfl rfl rfl rfl rfl rfl rfl rfl) (by rw [hN, hm]; rfl) (by rw [hA, hm]; rfl) (by rw [show d.did v = false by simp [Dd.did, g]]; rfl)
  · rw [g] at b2
    have hN : d.next v = min v d.x := by simp [Dd.next, g]
    have hA : d.ans v = min v d.x := by simp [Dd.ans, g]
    rcases (by omega : v < d.x ∨ ¬ v < d.x) with e | e
    · have hm : min v d.x = v := by omega
      go_wp2
      go_quiet (fail)
      go_wp2
      exact HK.out _ _ rfl rfl (HT13.out _ rfl rfl rfl rfl rfl rfl rfl rfl rfl rfl rfl rfl rfl rfl rfl rfl rfl rfl rfl rfl rfl rfl rfl rfl rfl rfl rfl rfl rfl rfl rfl rfl rfl rfl rfl rfl rfl rfl) (by rw [hN, hm]; rfl) (by rw [hA, hm]; rfl) (by rw [show d.did v = false by simp [Dd.did, g]]; rfl)
    · have hm : min v d.x = d.x := by omega
      go_wp2
      go_quiet (fail)
      go_wp2
      exact HK.out _ _ rfl rfl (HT13.out _ rfl rfl rfl rfl rfl rfl rfl rfl rfl rfl rfl rfl rfl rfl rfl rfl rfl rfl rfl rfl rfl rfl rfl rfl rfl rfl rfl rfl rfl rfl rfl rfl rfl rfl rfl rfl rfl rfl) (by rw [hN, hm]; rfl) (by rw [hA, hm]; rfl) (by rw [show d.did v = false by simp [Dd.did, g]]; rfl)
end Go.Proofs.YtbielnehggcaoaaDoor
/-
  Does a deed answer what it would alone? Its cell is written. (By the verifier; no statement.)
-/
namespace Go.Proofs.YtbielnehggcaoaaDoor
open Go.RowKit
set_option maxRecDepth 100000 in
set_option maxHeartbeats 6400000 in
theorem fit_tail {a : Act} {y : World} {Q : Exit → Act → World → Prop} {db cg cc0 m ix : Nat} {d : Dd} {v nx old : Int} (hs : a.tmps.size = 184) (hd : a.defers = []) (ha : d.a = (ix : Int)) (hix : ix < m) (p7 : a.eval (.tmp 7) = .slice (some ⟨cg, 0, none⟩) m cc0) (p12 : a.eval (.tmp 12) = .pointer (some ⟨db, 0, none⟩)) (p14 : a.eval (.tmp 14) = .int .i64 nx) (p15 : a.eval (.tmp 15) = .int .i64 (d.ans v)) (p16 : a.eval (.tmp 16) = .bool (d.did v))
    (hb : y.heap[db]? = some (.cells (dcs d).toArray 27 (0, 0))) (hcell : y.cell? ⟨cg, ix, none⟩ = some (.int .i64 old)) (hfr : y.frozen? ⟨cg, ix, none⟩ = false)
    (hN : d.fits v = true → ∀ a' : Act, a'.tmps.size = 184 → a'.defers = [] → (∀ s ∈ keepL, a'.eval (.tmp s) = a.eval (.tmp s)) → Q .normal a' (y.setCell ⟨cg, ix, none⟩ (.int .i64 nx)))
    (hF : d.fits v = false → ∀ a' : Act, a'.defers = [] → a'.eval (.tmp 6) = .bool false → Q .ret a' y) :
    (atc Tryd.f16.body [1, 1, 1, 0, 1, 0, 0, 1, 0, 0, 1, 1, 1, 1, 1, 1, 1, 1]).wp Tryd.prog Q a y := by
  obtain ⟨bl, -, b1, -, b3, -, -, b6, b7⟩ := cells8 hb
  rw [ha] at b3
  have HN : Hid _ := hN
  have HF : Hid _ := hF
  clear hN hF hb ha
  obtain ⟨cc, hcc, hce⟩ := expand184 hs hd
  have q7 := (hce 7).trans p7
  have q12 := (hce 12).trans p12
  have q14 := (hce 14).trans p14
  have q15 := (hce 15).trans p15
  have q16 := (hce 16).trans p16
  clear hce p7 p12 p14 p15 p16 hs hd
  subst hcc
  have T13 : ∀ a' : Act, a'.eval (.tmp 0) = cc 0 → a'.eval (.tmp 1) = cc 1 → a'.eval (.tmp 2) = cc 2 → a'.eval (.tmp 3) = cc 3 → a'.eval (.tmp 4) = cc 4 → a'.eval (.tmp 5) = cc 5 → a'.eval (.tmp 6) = cc 6 → a'.eval (.tmp 7) = .slice (some ⟨cg, 0, none⟩) m cc0 → a'.eval (.tmp 8) = cc 8 → a'.eval (.tmp 9) = cc 9 → a'.eval (.tmp 10) = cc 10 → a'.eval (.tmp 11) = cc 11 → a'.eval (.tmp 12) = .pointer (some ⟨db, 0, none⟩) → a'.eval (.tmp 17) = cc 17 → a'.eval (.tmp 18) = cc 18 → a'.eval (.tmp 19) = cc 19 → a'.eval (.tmp 20) = cc 20 → a'.eval (.tmp 21) = cc 21 → a'.eval (.tmp 22) = cc 22 → a'.eval (.tmp 165) = cc 165 → a'.eval (.tmp 166) = cc 166 → a'.eval (.tmp 167) = cc 167 → a'.eval (.tmp 168) = cc 168 → a'.eval (.tmp 169) = cc 169 → a'.eval (.tmp 170) = cc 170 → a'.eval (.tmp 171) = cc 171 → a'.eval (.tmp 172) = cc 172 → a'.eval (.tmp 173) = cc 173 → a'.eval (.tmp 174) = cc 174 → a'.eval (.tmp 175) = cc 175 → a'.eval (.tmp 176) = cc 176 → a'.eval (.tmp 177) = cc 177 → a'.eval (.tmp 178) = cc 178 → a'.eval (.tmp 179) = cc 179 → a'.eval (.tmp 180) = cc 180 → a'.eval (.tmp 181) = cc 181 → a'.eval (.tmp 182) = cc 182 → a'.eval (.tmp 183) = cc 183 → ∀ s ∈ keepL, a'.eval (.tmp s) = (⟨lit184 cc, []⟩ : Act).eval (.tmp s) := by
    intro a' z0 z1 z2 z3 z4 z5 z6 z7 z8 z9 z10 z11 z12 z17 z18 z19 z20 z21 z22 z165 z166 z167 z168 z169 z170 z171 z172 z173 z174 z175 z176 z177 z178 z179 z180 z181 z182 z183 s hs
    simp only [keepL, List.mem_cons, List.not_mem_nil, or_false] at hs
    rcases hs with rfl | rfl | rfl | rfl | rfl | rfl | rfl | rfl | rfl | rfl | rfl | rfl | rfl | rfl | rfl | rfl | rfl | rfl | rfl | rfl | rfl | rfl | rfl | rfl | rfl | rfl | rfl | rfl | rfl | rfl | rfl | rfl | rfl | rfl | rfl | rfl | rfl | rfl
    · exact z0
    · exact z1
    · exact z2
    · exact z3
    · exact z4
    · exact z5
    · exact z6
    · exact z7.trans q7.symm
    · exact z8
    · exact z9
    · exact z10
    · exact z11
    · exact z12.trans q12.symm
    · exact z17
    · exact z18
    · exact z19
    · exact z20
    · exact z21
    · exact z22
    · exact z165
    · exact z166
    · exact z167
    · exact z168
    · exact z169
    · exact z170
    · exact z171
    · exact z172
    · exact z173
    · exact z174
    · exact z175
    · exact z176
    · exact z177
    · exact z178
    · exact z179
    · exact z180
    · exact z181
    · exact z182
    · exact z183
  have HT13 : Hid _ := T13
  clear T13
  conv => arg 2; whnf
  unfold lit184
  simp only [q7, q12, q14, q15, q16]
  have HFt : Hid (d.fits v = (decide (d.e = 0) || (decide (d.ans v = d.n) && decide (d.did v = d.ok)))) := rfl
  rcases (by omega : d.e = 0 ∨ d.e ≠ 0) with g | g
  · have HT : Hid (d.fits v = true) := by rw [Hid, HFt.out, decide_eq_true g]; rfl
    rw [g] at b1
    go_wp2
    exact HN.out HT.out _ rfl rfl (HT13.out _ rfl rfl rfl rfl rfl rfl rfl rfl rfl rfl rfl rfl rfl rfl rfl rfl rfl rfl rfl rfl rfl rfl rfl rfl rfl rfl rfl rfl rfl rfl rfl rfl rfl rfl rfl rfl rfl rfl)
  · have g1 : (d.e != 0) = true := by simpa using g
    rcases (by omega : d.ans v = d.n ∨ d.ans v ≠ d.n) with g2 | g2
    · have g3 : (d.ans v != d.n) = false := by simpa using g2
      have HFa : Hid (d.fits v = decide (d.did v = d.ok)) := by rw [Hid, HFt.out, decide_eq_false g, decide_eq_true g2]; simp
      clear g2 HFt
      cases hdd : d.did v with
      | true =>
        cases hkk : d.ok with
        | true =>
          have HT : Hid (d.fits v = true) := by rw [Hid, HFa.out, hdd, hkk]; rfl
          rw [hkk] at b7
          clear hdd hkk
          go_wp2
          exact HN.out HT.out _ rfl rfl (HT13.out _ rfl rfl rfl rfl rfl rfl rfl rfl rfl rfl rfl rfl rfl rfl rfl rfl rfl rfl rfl rfl rfl rfl rfl rfl rfl rfl rfl rfl rfl rfl rfl rfl rfl rfl rfl rfl rfl rfl)
        | false =>
          have HT : Hid (d.fits v = false) := by rw [Hid, HFa.out, hdd, hkk]; rfl
          rw [hkk] at b7
          clear hdd hkk
          go_wp2
          exact HF.out HT.out _ rfl rfl
      | false =>
        cases hkk : d.ok with
        | false =>
          have HT : Hid (d.fits v = true) := by rw [Hid, HFa.out, hdd, hkk]; rfl
          rw [hkk] at b7
          clear hdd hkk
          go_wp2
          exact HN.out HT.out _ rfl rfl (HT13.out _ rfl rfl rfl rfl rfl rfl rfl rfl rfl rfl rfl rfl rfl rfl rfl rfl rfl rfl rfl rfl rfl rfl rfl rfl rfl rfl rfl rfl rfl rfl rfl rfl rfl rfl rfl rfl rfl rfl)
        | true =>
          have HT : Hid (d.fits v = false) := by rw [Hid, HFa.out, hdd, hkk]; rfl
          rw [hkk] at b7
          clear hdd hkk
          go_wp2
          exact HF.out HT.out _ rfl rfl
    · have g3 : (d.ans v != d.n) = true := by simpa using g2
      have HT : Hid (d.fits v = false) := by rw [Hid, HFt.out, decide_eq_false g, decide_eq_false g2]; simp
      go_wp2
      exact HF.out HT.out _ rfl rfl
end Go.Proofs.YtbielnehggcaoaaDoor

/-
  Plain mathematics of turns: who is ready, who is picked, what is left; no program text in it.
-/
import GoSem.Claim
namespace Go.Proofs.Ytlbekopcaifijaa

/-- The numbers below n at which B is true, rising. -/
def rdyN (B : Nat → Bool) (n : Nat) : List Nat := (List.range n).filter B
theorem rdy_zero (B : Nat → Bool) : rdyN B 0 = [] := rfl
theorem rdy_yes {B : Nat → Bool} {n : Nat} (h : B n = true) : rdyN B (n + 1) = rdyN B n ++ [n] := by
  simp [rdyN, List.range_succ, List.filter_append, h]
theorem rdy_no {B : Nat → Bool} {n : Nat} (h : B n = false) : rdyN B (n + 1) = rdyN B n := by
  simp [rdyN, List.range_succ, List.filter_append, h]
theorem rdy_len (B : Nat → Bool) (n : Nat) : (rdyN B n).length ≤ n := by
  have := List.length_filter_le B (List.range n)
  simpa [rdyN] using this
theorem rdy_mem {B : Nat → Bool} {n x : Nat} : x ∈ rdyN B n ↔ x < n ∧ B x = true := by simp [rdyN]
theorem rdy_congr {B C : Nat → Bool} {n : Nat} (h : ∀ i, i < n → B i = C i) : rdyN B n = rdyN C n := by
  unfold rdyN
  exact List.filter_congr fun x hx => h x (by simpa using hx)
theorem rdy_sorted (B : Nat → Bool) (n : Nat) : (rdyN B n).Pairwise (· < ·) := by
  unfold rdyN
  exact List.Pairwise.filter _ (List.pairwise_lt_range)

/-- The first of l above 'last'; if there is none, the first. -/
def nextV (l : List Nat) (last : Int) : Nat := (l.find? fun x : Nat => decide (last < (x : Int))).getD (l.headD 0)
/-- Who of l steps. -/
def chosen (l : List Nat) (ts : List Int) (last : Int) : Nat :=
  match ts with
  | [] => nextV l last
  | t :: _ => l.getD (t % (l.length : Int)).toNat 0
def pickV (l : List Nat) (ts : List Int) (last : Int) : Int := if l = [] then -1 else (chosen l ts last : Int)
def tsAft (l : List Nat) (ts : List Int) : List Int := if l = [] then ts else ts.tail
def lastAft (l : List Nat) (ts : List Int) (last : Int) : Int := if l = [] then last else (chosen l ts last : Int)

theorem next_mem {l : List Nat} (h : l ≠ []) (last : Int) : nextV l last ∈ l := by
  unfold nextV
  cases hf : l.find? fun x : Nat => decide (last < (x : Int)) with
  | some y => exact List.mem_of_find?_eq_some hf
  | none =>
    cases l with
    | nil => exact absurd rfl h
    | cons a r => simp
theorem mod_lt (t : Int) {n : Nat} (h : 0 < n) : (t % (n : Int)).toNat < n ∧ 0 ≤ t % (n : Int) := by
  have h1 := Int.emod_nonneg t (b := (n : Int)) (by omega)
  have h2 := Int.emod_lt_of_pos t (b := (n : Int)) (by omega)
  omega
theorem chosen_mem {l : List Nat} (h : l ≠ []) (ts : List Int) (last : Int) : chosen l ts last ∈ l := by
  cases ts with
  | nil => exact next_mem h last
  | cons t r =>
    have hl : 0 < l.length := List.length_pos_iff.2 h
    have := (mod_lt t hl).1
    show l.getD (t % (l.length : Int)).toNat 0 ∈ l
    rw [List.getD_eq_getElem?_getD, List.getElem?_eq_getElem this]
    exact List.getElem_mem _
theorem chosen_lt {B : Nat → Bool} {n : Nat} (h : rdyN B n ≠ []) (ts : List Int) (last : Int) : chosen (rdyN B n) ts last < n :=
  (rdy_mem.1 (chosen_mem h ts last)).1
theorem pick_le (B : Nat → Bool) (n : Nat) (ts : List Int) (last : Int) : -1 ≤ pickV (rdyN B n) ts last ∧ (pickV (rdyN B n) ts last < n ∨ n = 0) := by
  unfold pickV
  split
  · omega
  · have := chosen_lt ‹_› ts last; omega
theorem tsAft_len (l : List Nat) (ts : List Int) : (tsAft l ts).length ≤ ts.length := by
  unfold tsAft; split <;> simp

/-- Go's remainder, mended below 0, is the one that is never below 0. -/
theorem mod_neg (t : Int) (n : Nat) (h : 0 < n) (hr : t.tmod n < 0) : t.tmod n + n = t % (n : Int) := by
  have h1 := Int.emod_nonneg t (b := (n : Int)) (by omega)
  have h2 := Int.emod_lt_of_pos t (b := (n : Int)) (by omega)
  have h3 := Int.tmod_eq_emod (a := t) (b := (n : Int))
  split at h3 <;> omega
theorem mod_pos (t : Int) (n : Nat) (h : 0 < n) (hr : 0 ≤ t.tmod n) : t.tmod n = t % (n : Int) := by
  have h1 := Int.emod_nonneg t (b := (n : Int)) (by omega)
  have h2 := Int.emod_lt_of_pos t (b := (n : Int)) (by omega)
  have h3 := Int.tmod_eq_emod (a := t) (b := (n : Int))
  split at h3 <;> omega
theorem mod_two (t : Int) (n : Nat) (h : 0 < n) : (t.tmod n + n).tmod n = t % (n : Int) := by
  have h1 := Int.emod_nonneg t (b := (n : Int)) (by omega)
  have h2 := Int.emod_lt_of_pos t (b := (n : Int)) (by omega)
  have h3 := Int.tmod_eq_emod (a := t) (b := (n : Int))
  have h4 : 0 ≤ t.tmod n + n := by split at h3 <;> omega
  rw [Int.tmod_eq_emod_of_nonneg h4, Int.add_emod_right]
  split at h3
  · rw [h3]; simp
  · rw [h3]
    have : ((n : Int).natAbs : Int) = n := by simp
    rw [this, Int.sub_emod_right, Int.emod_emod]
theorem tmod_bd (t : Int) (n : Nat) (h : 0 < n) : -(n : Int) < t.tmod n ∧ t.tmod n < n := by
  have h1 := Int.emod_nonneg t (b := (n : Int)) (by omega)
  have h2 := Int.emod_lt_of_pos t (b := (n : Int)) (by omega)
  have h3 := Int.tmod_eq_emod (a := t) (b := (n : Int))
  split at h3 <;> omega

/-- The first of l that isn't below 'above', looked for from the front. -/
theorem find_front {l : List Nat} {k : Nat} {last : Int} (hk : k < l.length) (hb : ∀ j (h : j < l.length), j < k → ((l[j]'h : Nat) : Int) ≤ last) (hy : last < ((l[k]'hk : Nat) : Int)) : nextV l last = l[k]'hk := by
  unfold nextV
  have : l.find? (fun x : Nat => decide (last < (x : Int))) = some (l[k]'hk) := by
    rw [List.find?_eq_some_iff_getElem]
    refine ⟨by simpa using hy, k, hk, rfl, fun j hj => ?_⟩
    have := hb j (by omega) hj
    simp only [Bool.not_eq_true', decide_eq_false_iff_not]
    omega
  rw [this]; rfl
theorem find_none {l : List Nat} {last : Int} (hb : ∀ j (h : j < l.length), ((l[j]'h : Nat) : Int) ≤ last) : nextV l last = l.headD 0 := by
  unfold nextV
  have : l.find? (fun x : Nat => decide (last < (x : Int))) = none := by
    rw [List.find?_eq_none]
    intro x hx
    obtain ⟨j, hj, rfl⟩ := List.getElem_of_mem hx
    have := hb j hj
    simp only [decide_eq_true_eq]; omega
  rw [this]; rfl
/-- From the back: the answer for what stands from k on, and the first for the rest. -/
def backV (l : List Nat) (last : Int) (k : Nat) : Nat := ((l.drop k).find? fun x : Nat => decide (last < (x : Int))).getD (l.headD 0)
theorem back_all (l : List Nat) (last : Int) : backV l last l.length = l.headD 0 := by simp [backV]
theorem back_zero (l : List Nat) (last : Int) : backV l last 0 = nextV l last := rfl
theorem back_yes {l : List Nat} {last : Int} {k : Nat} (hk : k < l.length) (h : last < ((l[k]'hk : Nat) : Int)) : backV l last k = l[k]'hk := by
  unfold backV
  rw [List.drop_eq_getElem_cons hk, List.find?_cons, decide_eq_true h]; rfl
theorem back_no {l : List Nat} {last : Int} {k : Nat} (hk : k < l.length) (h : ¬ last < ((l[k]'hk : Nat) : Int)) : backV l last k = backV l last (k + 1) := by
  unfold backV
  rw [List.drop_eq_getElem_cons hk, List.find?_cons, decide_eq_false h]
end Go.Proofs.Ytlbekopcaifijaa

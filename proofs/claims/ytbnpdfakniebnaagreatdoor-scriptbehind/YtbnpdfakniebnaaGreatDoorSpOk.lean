/-
  A line that was read keeps the limits. (By the verifier; no statement.)
-/
import Derived.Test.YtbnpdfakniebnaaGreatDoorSpEnd
namespace Go.Proofs.YtbnpdfakniebnaaGreatDoor
open Go.RowKit
theorem Ln.fin_ok {s : Ln} (h : s.fin.err = 0) : s.err = 0 ∧ s.fin = s := by
  have h1 : s.err = 0 := by
    apply Classical.byContradiction
    intro hb
    rw [Ln.fin_bad hb] at h
    exact hb h
  refine ⟨h1, ?_⟩
  unfold Ln.fin at h ⊢
  split
  · rename_i hm
    rw [if_pos hm, Ln.fault_err h1] at h
    cases h
  · rfl
theorem Ln.atMost_ok {s : Ln} {n m : Int} (h : (s.atMost n m).err = 0) : s.err = 0 ∧ n ≤ m := by
  have h1 : s.err = 0 := by
    apply Classical.byContradiction
    intro hb
    rw [Ln.atMost_bad hb] at h
    exact hb h
  refine ⟨h1, ?_⟩
  apply Classical.byContradiction
  intro hb
  unfold Ln.atMost at h
  rw [if_pos (by omega), Ln.fault_err h1] at h
  cases h
theorem Ln.numberFrom_ok {s : Ln} {lo hi : Int} (h : (s.numberFrom lo hi).2.err = 0) : s.err = 0 ∧ lo ≤ (s.numberFrom lo hi).1 ∧ (s.numberFrom lo hi).1 ≤ hi := by
  have h1 : s.number.2.err = 0 := by
    apply Classical.byContradiction
    intro hb
    unfold Ln.numberFrom at h
    dsimp only at h
    split at h
    · rw [Ln.fault_bad hb] at h; exact hb h
    · exact hb h
  have h0 : s.err = 0 := by
    apply Classical.byContradiction
    intro hb
    rw [Ln.number_bad hb] at h1
    exact hb h1
  have h2 : ¬ (s.number.1 < lo ∨ hi < s.number.1) := fun hb => by
    unfold Ln.numberFrom at h
    dsimp only at h
    rw [if_pos hb, Ln.fault_err h1] at h
    cases h
  exact ⟨h0, by show lo ≤ s.number.1; omega, by show s.number.1 ≤ hi; omega⟩
theorem Ln.needW_ok {r : RS} {s : Ln} (hs : s.err = 0) (h : (r.needW s).err = 0) : r.work ≠ [] := fun hw => by
  unfold RS.needW at h
  rw [if_pos hw, Ln.fault_err hs] at h
  cases h
theorem needW_bad {r : RS} {s : Ln} (h : (r.needW s).err = 0) : s.err = 0 := by
  apply Classical.byContradiction
  intro hb
  unfold RS.needW at h
  split at h
  · rw [Ln.fault_bad hb] at h; exact hb h
  · exact hb h
theorem numIf_ws (b : Bool) (s : Ln) : (numIf b s).2.ws.length ≤ s.ws.length := by
  cases b
  · exact Nat.le_refl _
  · exact s.number_ws.1
theorem readCall_ps (k : Nat) (s : Ln) : (readCall k s).1.ps.length ≤ s.ws.length := by
  unfold readCall
  show (pairsIf _ (numIf _ (numIf _ (numIf _ s).2).2).2).1.length ≤ _
  refine Nat.le_trans (m := (numIf (decide (2 < (rowT k).2.1)) (numIf (decide (1 < (rowT k).2.1)) (numIf (decide (0 < (rowT k).2.1)) s).2).2).2.ws.length) ?_ (Nat.le_trans (numIf_ws _ _) (Nat.le_trans (numIf_ws _ _) (numIf_ws _ _)))
  cases (rowT k).2.2
  · simp [pairsIf]
  · exact Ln.pairs_len _
theorem RS.callsN_row {r : RS} (h : ∀ l ∈ r.work, l.length ≤ 64) {c : Cl} (h2 : r.callsN + 1 ≤ 64) : ∀ l ∈ (r.add c).work, l.length ≤ 64 := fun l hl => by
  unfold RS.add at hl
  rw [List.mem_append, List.mem_singleton] at hl
  rcases hl with hl | rfl
  · exact h l (List.dropLast_subset _ hl)
  · unfold RS.callsN at h2
    simp
    omega
theorem RS.addAll_row : ∀ (L : List Cl) (r : RS), (∀ l ∈ r.work, l.length ≤ 64) → r.callsN + L.length ≤ 64 → ∀ l ∈ (r.addAll L).work, l.length ≤ 64
  | [], r, h, _ => h
  | c :: L, r, h, h2 => by
    rw [List.length_cons] at h2
    refine RS.addAll_row L (r.add c) (RS.callsN_row h (by omega)) ?_
    rw [RS.add_callsN]
    omega
theorem RS.addAll_same (r : RS) : ∀ L : List Cl, (r.addAll L).source = r.source ∧ (r.addAll L).turns = r.turns ∧ (r.addAll L).halt = r.halt := by
  intro L
  induction L generalizing r with
  | nil => exact ⟨rfl, rfl, rfl⟩
  | cons c L ih => exact ih (r.add c)
theorem ok0 : RS0.Ok := ⟨by decide, by decide, by decide, by decide, fun l h => by simp [RS0] at h, by decide, ⟨by decide, by decide⟩, fun c h => by simp [RS0] at h, fun h => absurd rfl h⟩
theorem deed_ok {r : RS} {w : Bs} {l : Ln} {x : RS × Ln} (hO : r.Ok) (hl : l.ws.length ≤ 1000000000) (h0 : l.err = 0) (hd : r.deed w l = some x) (he : x.2.err = 0) : x.1.Ok := by
  have hcall : ∀ k, (r.call k l).2.err = 0 → (r.call k l).1.Ok := fun k he => by
    unfold RS.call at he ⊢
    dsimp only at he ⊢
    have h1 := call_ok he
    have h2 := Ln.atMost_ok he
    rw [if_pos he]
    have hps : (readCall k (r.needW l)).1.ps.length ≤ 1000000000 := Nat.le_trans (readCall_ps k _) (by rw [RS.needW_ws]; exact hl)
    have hc0 := r.callsN_nonneg
    split
    · refine ⟨hO.src, hO.trn, hO.hlt, hO.wrk, hO.row, ?_, hO.tm, fun c hc => ?_, hO.tg⟩
      · simp
        omega
      · rw [List.mem_append, List.mem_singleton] at hc
        rcases hc with hc | rfl
        · exact hO.bps c hc
        · exact hps
    · exact ⟨hO.src, hO.trn, hO.hlt, by rw [RS.add_len h1.1]; exact hO.wrk, RS.callsN_row hO.row (by omega), hO.bdy, hO.tm, hO.bps, fun _ _ => RS.add_ne⟩
  unfold RS.deed at hd
  split at hd
  · split at hd
    · cases hd
      exact ⟨hO.src, hO.trn, hO.hlt, hO.wrk, hO.row, hO.bdy, hO.tm, hO.bps, fun _ h => absurd rfl h⟩
    · cases hd
  · split at hd
    · cases hd; exact hcall _ he
    split at hd
    · cases hd
      have h1 := (Ln.atMost_ok he).2
      exact ⟨by show (r.source ++ l.pairs.1).length ≤ 256; omega, hO.trn, hO.hlt, hO.wrk, hO.row, hO.bdy, hO.tm, hO.bps, hO.tg⟩
    split at hd
    · cases hd
      have h1 := (Ln.atMost_ok he).2
      refine ⟨hO.src, hO.trn, hO.hlt, by show (r.work ++ [[]]).length ≤ 8; simp; omega, fun q hq => ?_, hO.bdy, hO.tm, hO.bps, fun _ _ => by show r.work ++ [[]] ≠ []; simp⟩
      have hq : q ∈ r.work ++ [[]] := hq
      rw [List.mem_append, List.mem_singleton] at hq
      rcases hq with hq | rfl
      · exact hO.row q hq
      · simp
    split at hd
    · cases hd
      have h1 := (Ln.atMost_ok he).2
      exact ⟨hO.src, by show (r.turns ++ l.numbers.1).length ≤ 20000; omega, hO.hlt, hO.wrk, hO.row, hO.bdy, hO.tm, hO.bps, hO.tg⟩
    split at hd
    · cases hd
      have h1 := (Ln.atMost_ok he).2
      exact ⟨hO.src, hO.trn, by show (r.halt ++ l.numbers.1).length ≤ 20000; omega, hO.wrk, hO.row, hO.bdy, hO.tm, hO.bps, hO.tg⟩
    split at hd
    · cases hd
      exact ⟨hO.src, hO.trn, hO.hlt, hO.wrk, hO.row, hO.bdy, hO.tm, hO.bps, hO.tg⟩
    split at hd
    · cases hd
      have h1 := (Ln.fin_ok he).1
      have h2 := Ln.numberFrom_ok h1
      exact ⟨hO.src, hO.trn, hO.hlt, hO.wrk, hO.row, hO.bdy, ⟨by show 0 ≤ ((r.needW l).numberFrom 1 64).1; omega, h2.2.2⟩, hO.bps, fun _ _ => Ln.needW_ok h0 h2.1⟩
    · cases hd
  · split at hd
    · cases hd; exact hcall _ he
    split at hd
    · cases hd
      unfold RS.fold at he ⊢
      dsimp only at he ⊢
      have he2 : (l.fin.atMost (r.callsN + r.times * r.body.length) 64).err = 0 := by
        apply Classical.byContradiction
        intro hb
        rw [if_neg hb] at he
        exact hb he
      rw [if_pos he2]
      have hf := fold_ok he2
      have hs := r.addAll_same (List.replicate r.times.toNat r.body).flatten
      have ht := hO.tm
      obtain ⟨T, hT⟩ : ∃ T : Nat, r.times = T := ⟨r.times.toNat, by omega⟩
      have hrow := RS.addAll_row (List.replicate r.times.toNat r.body).flatten r hO.row (by rw [flat_len, hT, Int.toNat_natCast, Int.natCast_mul, ← hT]; exact hf)
      have hw : r.work ≠ [] := hO.tg (by assumption) (by assumption)
      · have ha := r.addAll_all hw (List.replicate r.times.toNat r.body).flatten
        exact ⟨by rw [hs.1]; exact hO.src, by rw [hs.2.1]; exact hO.trn, by rw [hs.2.2]; exact hO.hlt, by rw [ha.2.1]; exact hO.wrk, hrow, by simp, ⟨Int.le_refl 0, (by decide : (0 : Int) ≤ 64)⟩, fun c hc => by simp at hc, fun _ h => absurd rfl h⟩
    · cases hd
end Go.Proofs.YtbnpdfakniebnaaGreatDoor

/- A call of the program's, and the document's behind it. -/
import Derived.Test.YtogcjdbggihbpaaStart
namespace Go.Proofs.Ytogcjdbggihbpaa
open Go.RowKit Go.Conc Go.MuLone

structure Good (τ : Sta) (i : Nat) : Prop where
  q : τ.qa = τ.q
  t : τ.tc = τ.t
  d : τ.db = τ.d
  j : τ.jb = τ.j
  le : τ.j ≤ i
theorem Good.up {τ : Sta} {i : Nat} (h : Good τ i) : Good τ (i + 1) := ⟨h.q, h.t, h.d, h.j, Nat.le_succ_of_le h.le⟩
theorem upd_upd {α : Type} (f : Nat → α) (k : Nat) (x y : α) : upd (upd f k x) k y = upd f k y := by funext z; simp only [upd]; split <;> rfl
section
variable {wB w : World} {n N : Nat} {E : Nat → Nat → Nat} {F : Nat → Int} {L : Nat → Bool} {V : Nat → Int} {σ : Nat → Sta} {i k : Nat}
theorem pair1 (h : St wB w n N E F L V σ) (hk : k < n) (hg : Good (σ k) i) :
    Calls Try.prog 11 #[.pointer (some ⟨E 4 k, 0, none⟩), .pointer none] w fun e w' => e = .returned (.tuple #[.int .i64 (oV (out (F k) (L k) (V k) 1)), .int .i64 (oE (out (F k) (L k) (V k) 1))]) ∧
      Hid ((∀ p v, wB.cell? p = some v → (∀ s k, s < 12 → k < n → p.block ≠ E s k) → w'.cell? p = some v) ∧ Calls Try.prog 12 #[.pointer (some ⟨E 7 k, 0, none⟩)] w' fun e w2 => e = .returned (.tuple #[.int .i64 (oV (out (F k) (L k) (V k) 1)), .int .i64 (oE (out (F k) (L k) (V k) 1))]) ∧ ∃ τ, Good τ (i + 1) ∧ St wB w2 n N E F L V (upd σ k τ)) := by
  refine (stOnce h hk).mono ?_
  rintro e w' ⟨rfl, h1⟩
  refine ⟨rfl, fun p v hp hn => h1.cell hp hn, (stCellA h1 hk).mono ?_⟩
  rintro e w2 ⟨rfl, h2⟩
  rw [upd_upd, upd_same] at h2
  refine ⟨rfl, _, ?_, h2⟩
  exact ⟨rfl, hg.t, hg.d, hg.j, Nat.le_succ_of_le hg.le⟩
theorem pair2 (h : St wB w n N E F L V σ) (hk : k < n) (hg : Good (σ k) i) (hi : i ≤ 500) :
    Calls Try.prog 13 #[.pointer (some ⟨E 6 k, 0, none⟩), .pointer none] w fun e w' => e = .returned (.tuple #[.int .i64 (oV (rO (σ k).d (F k) (L k) (V k) (σ k).j)), .int .i64 (oE (rO (σ k).d (F k) (L k) (V k) (σ k).j))]) ∧
      Hid ((∀ p v, wB.cell? p = some v → (∀ s k, s < 12 → k < n → p.block ≠ E s k) → w'.cell? p = some v) ∧ Calls Try.prog 12 #[.pointer (some ⟨E 8 k, 0, none⟩)] w' fun e w2 => e = .returned (.tuple #[.int .i64 (oV (rO (σ k).d (F k) (L k) (V k) (σ k).j)), .int .i64 (oE (rO (σ k).d (F k) (L k) (V k) (σ k).j))]) ∧ ∃ τ, Good τ (i + 1) ∧ St wB w2 n N E F L V (upd σ k τ)) := by
  have hle := hg.le
  refine (stRetry h hk (by omega)).mono ?_
  rintro e w' ⟨rfl, kb, h1⟩
  have hdb := hg.d
  have hjb := hg.j
  have hB := stCellB h1 hk (by rw [upd_same]; show (σ k).jb ≤ 900; omega)
  rw [upd_same] at hB
  simp only [hdb, hjb] at hB
  refine ⟨rfl, fun p v hp hn => h1.cell hp hn, hB.mono ?_⟩
  rintro e w2 ⟨rfl, h2⟩
  rw [upd_upd] at h2
  refine ⟨rfl, _, ⟨?_, ?_, ?_, ?_, ?_⟩, h2⟩
  · exact hg.q
  · exact hg.t
  · rfl
  · rfl
  · show rJ (σ k).d (σ k).j ≤ i + 1
    unfold rJ; split <;> omega
theorem pair3 {b3 g3 c3 : Nat} (hT : Tab wB n N b3 g3 c3 E) (h : St wB w n N E F L V σ) (hk : k < n) (hg : Good (σ k) i) :
    Calls Try.prog 14 #[.pointer (some ⟨N + 2, 0, none⟩), .pointer none, .int .i64 k] w fun e w' => e = .returned (.tuple #[.int .i64 (oV (out (F k) (L k) (V k) 1)), .int .i64 (oE (out (F k) (L k) (V k) 1))]) ∧
      Hid ((∀ p v, wB.cell? p = some v → (∀ s k, s < 12 → k < n → p.block ≠ E s k) → w'.cell? p = some v) ∧ Calls Try.prog 12 #[.pointer (some ⟨E 9 k, 0, none⟩)] w' fun e w2 => e = .returned (.tuple #[.int .i64 (oV (out (F k) (L k) (V k) 1)), .int .i64 (oE (out (F k) (L k) (V k) 1))]) ∧ ∃ τ, Good τ (i + 1) ∧ St wB w2 n N E F L V (upd σ k τ)) := by
  refine (stTable hT h hk).mono ?_
  rintro e w' ⟨rfl, h1⟩
  refine ⟨rfl, fun p v hp hn => h1.cell hp hn, (stCellC h1 hk).mono ?_⟩
  rintro e w2 ⟨rfl, h2⟩
  rw [upd_upd, upd_same] at h2
  refine ⟨rfl, _, ?_, h2⟩
  exact ⟨hg.q, rfl, hg.d, hg.j, Nat.le_succ_of_le hg.le⟩
/-- What the law's comparison reads. -/
structure Reads (w : World) (E : Nat → Nat → Nat) (Fk : Int) (k : Nat) (τ : Sta) : Prop where
  a5 : w.cell? ⟨E 7 k, 5, none⟩ = some (.bool (τ.q && decide (Fk < 1)))
  a4 : w.cell? ⟨E 7 k, 4, none⟩ = some (.int .i64 (bN τ.q))
  b5 : w.cell? ⟨E 8 k, 5, none⟩ = some (.bool τ.d)
  b4 : w.cell? ⟨E 8 k, 4, none⟩ = some (.int .i64 τ.j)
  c4 : w.cell? ⟨E 9 k, 4, none⟩ = some (.int .i64 (bN τ.t))
  x3 : w.cell? ⟨E 0 k, 3, none⟩ = some (.int .i64 (bN τ.q))
  y3 : w.cell? ⟨E 1 k, 3, none⟩ = some (.int .i64 τ.j)
  z3 : w.cell? ⟨E 2 k, 3, none⟩ = some (.int .i64 (bN τ.t))
  done : Calls Try.prog 15 #[.pointer (some ⟨E 4 k, 0, none⟩), .pointer none] w fun e w' => e = .returned (.bool (τ.q && decide (Fk < 1))) ∧ w' = w
  rdone : Calls Try.prog 16 #[.pointer (some ⟨E 6 k, 0, none⟩), .pointer none] w fun e w' => e = .returned (.bool τ.d) ∧ w' = w
theorem reads {τ : Sta} (h : St wB w n N E F L V (upd σ k τ)) (hk : k < n) (hg : Good τ i) : Reads w E (F k) k τ := by
  have hc := h.cells hk
  have h1 := stDone h hk
  have h2 := stRDone h hk
  rw [upd_same] at hc h1 h2
  rw [hg.q, hg.d, hg.j, hg.t] at hc
  obtain ⟨c1, c2, c3, c4, c5, c6, c7, c8, c9⟩ := hc
  exact ⟨c1, c2, c3, c4, c6, c7, c8, c9, h1, h2⟩
end
end Go.Proofs.Ytogcjdbggihbpaa

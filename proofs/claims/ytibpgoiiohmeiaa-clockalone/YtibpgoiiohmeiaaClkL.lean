/- ClockAlone's walk, joined. (Written by tools/gen/genclk2.py.) -/
import Derived.Test.YtibpgoiiohmeiaaClkW
namespace Go.Proofs.Ytibpgoiiohmeiaa
open Go.RowKit
structure FB (n b b2 hb L tc i : Nat) (ta : Option Addr) (now : Int) (a : Act) : Prop where
  hs : a.tmps.size = 264
  hd : a.defers = []
  x0 : a.eval (.tmp 0) = .int .i64 n
  x1 : a.eval (.tmp 1) = .slice ta L tc
  x5 : a.eval (.tmp 5) = .pointer (some ⟨b, 0, none⟩)
  x7 : a.eval (.tmp 7) = .pointer (some ⟨b2, 0, none⟩)
  x9 : a.eval (.tmp 9) = .int .i64 now
  x10 : a.eval (.tmp 10) = .slice (some ⟨hb, 0, none⟩) n n
  x11 : a.eval (.tmp 11) = .int .i64 i
theorem first_free (h : Nat → Int) : ∀ n, (∀ k, k < n → 0 ≤ h k) → ∃ m, m ≤ n ∧ (∀ j, j < m → 0 < h j) ∧ (m = n ∨ (m < n ∧ h m = 0))
  | 0, _ => ⟨0, Nat.le_refl _, by omega, .inl rfl⟩
  | n + 1, hh => by
    obtain ⟨m, h1, h2, h3⟩ := first_free h n (fun k hk => hh k (by omega))
    rcases h3 with rfl | ⟨h3, h4⟩
    · have := hh m (by omega)
      by_cases e : h m = 0
      · exact ⟨m, by omega, h2, .inr ⟨by omega, e⟩⟩
      · refine ⟨m + 1, Nat.le_refl _, fun j hj => ?_, .inl rfl⟩
        by_cases ej : j = m
        · subst ej; omega
        · exact h2 j (by omega)
    · exact ⟨m, by omega, h2, .inr ⟨by omega, h4⟩⟩
section
variable {W x : World} {n b lb cap : Nat} {E : Nat → Nat} {b2 lb2 cap2 : Nat} {E2 : Nat → Nat} {hb : Nat} {now : Int} {h : Nat → Int} {ta : Option Addr} {L tc i k sb so g : Nat} {z m : Int} {t : Bool} {gs : Nat → Int} {a : Act} {K : Act → World → Prop} {Q : Exit → Act → World → Prop}
theorem ca_loop3 (f : FB n b b2 hb L tc i ta now a) (x12 : a.eval (.tmp 12) = .int .i64 0) (hh : x.heap[hb]? = some (intsObj h n)) (hn : n ≤ 64) (m : Nat) (hm : m ≤ n) (hp : ∀ j, j < m → 0 < h j) (he : m = n ∨ (m < n ∧ h m = 0))
    (hK : ∀ a', FB n b b2 hb L tc i ta now a' → a'.eval (.tmp 12) = .int .i64 m → K a' x) : (atc Try.f3.body [1, 1, 1, 1, 1, 1, 1, 1, 1, 0, 1, 1, 1, 1, 0, 0, 0, 0, 1, 0, 1, 0]).wp Try.prog (Exit.then K Q) a x := by
  refine wp_block ?_
  refine wp_loop (fun a' y => y = x ∧ FB n b b2 hb L tc i ta now a' ∧ ∃ k : Nat, k ≤ m ∧ a'.eval (.tmp 12) = .int .i64 k) (fun a' _ => n - (intOf (a'.eval (.tmp 12))).toNat) ⟨rfl, f, 0, Nat.zero_le _, x12⟩ ?_
  rintro a1 y ⟨rfl, f, k, hk, x12⟩
  by_cases hlt : k < m
  · refine ca_3go f.hs f.hd f.x0 f.x1 f.x5 f.x7 f.x9 f.x10 f.x11 x12 (ints_cell hh (by omega)) (by omega) hn (hp k hlt) ?_
    intro a2 hs hd x0 x1 x5 x7 x9 x10 x11 y12
    refine ⟨⟨rfl, ⟨hs, hd, x0, x1, x5, x7, x9, x10, x11⟩, k + 1, by omega, y12⟩, ?_⟩
    rw [y12, x12]; simp only [intOf]; omega
  · have e : k = m := by omega
    subst e
    rcases he with e | ⟨e1, e2⟩
    · refine ca_3full f.hs f.hd f.x0 f.x1 f.x5 f.x7 f.x9 f.x10 f.x11 x12 e ?_
      intro a2 hs hd x0 x1 x5 x7 x9 x10 x11 y12
      exact hK a2 ⟨hs, hd, x0, x1, x5, x7, x9, x10, x11⟩ y12
    · refine ca_3free f.hs f.hd f.x0 f.x1 f.x5 f.x7 f.x9 f.x10 f.x11 x12 (ints_cell hh e1) (by omega) e2 ?_
      intro a2 hs hd x0 x1 x5 x7 x9 x10 x11 y12
      exact hK a2 ⟨hs, hd, x0, x1, x5, x7, x9, x10, x11⟩ y12
theorem ca_loop5 (f : FB n b b2 hb L tc i ta now a) (x15 : a.eval (.tmp 15) = .int .i64 now) (x16 : a.eval (.tmp 16) = .int .i64 0) (hI : CS W x n b lb cap E b2 lb2 cap2 E2 hb now h) (hn : n ≤ 64)
    (hK : ∀ a', FB n b b2 hb L tc i ta now a' → a'.eval (.tmp 15) = .int .i64 (leastV now (fOf h) n) → K a' x) : (atc Try.f3.body [1, 1, 1, 1, 1, 1, 1, 1, 1, 0, 1, 1, 1, 1, 0, 0, 0, 0, 1, 1, 1, 1, 1, 0, 1, 0, 1]).wp Try.prog (Exit.then K Q) a x := by
  refine wp_block ?_
  refine wp_loop (fun a' y => y = x ∧ FB n b b2 hb L tc i ta now a' ∧ ∃ k : Nat, k ≤ n ∧ a'.eval (.tmp 16) = .int .i64 k ∧ a'.eval (.tmp 15) = .int .i64 (leastV now (fOf h) k)) (fun a' _ => n - (intOf (a'.eval (.tmp 16))).toNat) ⟨rfl, f, 0, Nat.zero_le _, x16, x15⟩ ?_
  rintro a1 y ⟨rfl, f, k, hk, x16, x15⟩
  by_cases hlt : k < n
  · have hc := ints_cell hI.r.held hlt
    have hh := (hI.hn k hlt).1
    have hl := least_next (now := now) hh
    have fin : ∀ (a2 : Act) (v : Int), v = leastV now (fOf h) (k + 1) → FB n b b2 hb L tc i ta now a2 → a2.eval (.tmp 15) = .int .i64 v → a2.eval (.tmp 16) = .int .i64 ((k + 1 : Nat) : Int) → (y = y ∧ FB n b b2 hb L tc i ta now a2 ∧ ∃ k : Nat, k ≤ n ∧ a2.eval (.tmp 16) = .int .i64 k ∧ a2.eval (.tmp 15) = .int .i64 (leastV now (fOf h) k)) ∧ n - (intOf (a2.eval (.tmp 16))).toNat < n - (intOf (a1.eval (.tmp 16))).toNat := by
      intro a2 v hv f2 y15 y16
      refine ⟨⟨rfl, f2, k + 1, by omega, y16, by rw [y15, hv]⟩, ?_⟩
      rw [y16, x16]; simp only [intOf]; omega
    by_cases hz : h k = 0
    · refine ca_5b f.hs f.hd f.x0 f.x1 f.x5 f.x7 f.x9 f.x10 f.x11 x15 x16 hc (by omega) hn hz ?_
      intro a2 hs hd x0 x1 x5 x7 x9 x10 x11 y15 y16
      exact fin a2 _ (by rw [hl, if_neg (by omega)]) ⟨hs, hd, x0, x1, x5, x7, x9, x10, x11⟩ y15 y16
    · by_cases hm : h k < leastV now (fOf h) k
      · refine ca_5a f.hs f.hd f.x0 f.x1 f.x5 f.x7 f.x9 f.x10 f.x11 x15 x16 hc (by omega) hn (by omega) hm ?_
        intro a2 hs hd x0 x1 x5 x7 x9 x10 x11 y15 y16
        exact fin a2 _ (by rw [hl, if_pos ⟨by omega, hm⟩]) ⟨hs, hd, x0, x1, x5, x7, x9, x10, x11⟩ y15 y16
      · refine ca_5c f.hs f.hd f.x0 f.x1 f.x5 f.x7 f.x9 f.x10 f.x11 x15 x16 hc (by omega) hn (by omega) hm ?_
        intro a2 hs hd x0 x1 x5 x7 x9 x10 x11 y15 y16
        exact fin a2 _ (by rw [hl, if_neg (by omega)]) ⟨hs, hd, x0, x1, x5, x7, x9, x10, x11⟩ y15 y16
  · have e : k = n := by omega
    subst e
    refine ca_5end f.hs f.hd f.x0 f.x1 f.x5 f.x7 f.x9 f.x10 f.x11 x15 x16 rfl ?_
    intro a2 hs hd x0 x1 x5 x7 x9 x10 x11 y15
    exact hK a2 ⟨hs, hd, x0, x1, x5, x7, x9, x10, x11⟩ y15
theorem ca_loop7 (f : FB n b b2 hb L tc i ta now a) (x19 : a.eval (.tmp 19) = .slice (some ⟨g, 0, none⟩) n n) (x20 : a.eval (.tmp 20) = .int .i64 0) (hI : CS W x n b lb cap E b2 lb2 cap2 E2 hb now h) (hg : x.heap[g]? = some (intsObj (fOf h) n)) (hgb : g ≠ hb) (hgW : W.heap.size ≤ g) (hn : n ≤ 64) (hp : now ≤ 900000)
    (hK : ∀ a' y, FB n b b2 hb L tc i ta now a' → CS W y n b lb cap E b2 lb2 cap2 E2 hb now h → K a' y) : (atc Try.f3.body [1, 1, 1, 1, 1, 1, 1, 1, 1, 0, 1, 1, 1, 1, 0, 0, 1, 1, 1, 1]).wp Try.prog (Exit.then K Q) a x := by
  refine wp_block ?_
  refine wp_loop (fun a' y => FB n b b2 hb L tc i ta now a' ∧ a'.eval (.tmp 19) = .slice (some ⟨g, 0, none⟩) n n ∧ CS W y n b lb cap E b2 lb2 cap2 E2 hb now h ∧ ∃ (k : Nat) (gs : Nat → Int), k ≤ n ∧ a'.eval (.tmp 20) = .int .i64 k ∧ y.heap[g]? = some (intsObj gs n) ∧ ∀ j, k ≤ j → gs j = fOf h j) (fun a' _ => n - (intOf (a'.eval (.tmp 20))).toNat) ⟨f, x19, hI, 0, _, Nat.zero_le _, x20, hg, fun _ _ => rfl⟩ ?_
  clear hI hg f x19 x20
  rintro a1 y ⟨f, x19, hI, k, gs, hk, x20, hg, hgs⟩
  by_cases hlt : k < n
  · have hc := ints_cell hI.r.held hlt
    have hh := hI.hn k hlt
    have fin : ∀ (a2 : Act) (y2 : World), FB n b b2 hb L tc i ta now a2 → a2.eval (.tmp 19) = .slice (some ⟨g, 0, none⟩) n n → a2.eval (.tmp 20) = .int .i64 ((k + 1 : Nat) : Int) → Turned [g] y y2 → y2.heap[g]? = some (intsObj (upd gs k (-9)) n) → (FB n b b2 hb L tc i ta now a2 ∧ a2.eval (.tmp 19) = .slice (some ⟨g, 0, none⟩) n n ∧ CS W y2 n b lb cap E b2 lb2 cap2 E2 hb now h ∧ ∃ (k : Nat) (gs : Nat → Int), k ≤ n ∧ a2.eval (.tmp 20) = .int .i64 k ∧ y2.heap[g]? = some (intsObj gs n) ∧ ∀ j, k ≤ j → gs j = fOf h j) ∧ n - (intOf (a2.eval (.tmp 20))).toNat < n - (intOf (a1.eval (.tmp 20))).toNat := by
      intro a2 y2 f2 y19 y20 ht ho
      refine ⟨⟨f2, y19, hI.other hg hgb hgW ht, k + 1, _, by omega, y20, ho, fun j hj => ?_⟩, ?_⟩
      · rw [upd_other _ _ (by omega)]; exact hgs j (by omega)
      · rw [y20, x20]; simp only [intOf]; omega
    by_cases hz : h k = 0
    · refine ca_7lo f.hs f.hd f.x0 f.x1 f.x5 f.x7 f.x9 f.x10 f.x11 x19 x20 hc hlt hn hg hz (by rw [hgs k (Nat.le_refl _)]; exact fOf_eq hz) ?_
      intro a2 y2 hs hd x0 x1 x5 x7 x9 x10 x11 y19 y20 ht ho
      exact fin a2 y2 ⟨hs, hd, x0, x1, x5, x7, x9, x10, x11⟩ y19 y20 ht ho
    · refine ca_7hi f.hs f.hd f.x0 f.x1 f.x5 f.x7 f.x9 f.x10 f.x11 x19 x20 hc hlt hn hg (by omega) (by rw [hgs k (Nat.le_refl _)]; exact fOf_pos (by omega)) (by omega) ?_
      intro a2 y2 hs hd x0 x1 x5 x7 x9 x10 x11 y19 y20 ht ho
      exact fin a2 y2 ⟨hs, hd, x0, x1, x5, x7, x9, x10, x11⟩ y19 y20 ht ho
  · have e : k = n := by omega
    refine ca_7end f.hs f.hd f.x0 f.x1 f.x5 f.x7 f.x9 f.x10 f.x11 x19 x20 e ?_
    intro a2 hs hd x0 x1 x5 x7 x9 x10 x11
    exact hK a2 y ⟨hs, hd, x0, x1, x5, x7, x9, x10, x11⟩ hI
/-- What is asked, whatever it is. -/
theorem ca_switch (f : FB n b b2 hb L tc i (some ⟨sb, so, none⟩) now a) (hI : CS W x n b lb cap E b2 lb2 cap2 E2 hb now h) (hi : (i : Int) < L) (hz : x.cell? ⟨sb, so + i, none⟩ = some (.int .i64 z)) (hn : n ≤ 64) (hp : 1 ≤ now) (hp2 : now ≤ 900000)
    (hK : ∀ a' y now' h', FB n b b2 hb L tc i (some ⟨sb, so, none⟩) now' a' → CS W y n b lb cap E b2 lb2 cap2 E2 hb now' h' → now ≤ now' → now' ≤ now + 1 → K a' y) : (atc Try.f3.body [1, 1, 1, 1, 1, 1, 1, 1, 1, 0, 1, 1, 1, 1, 0, 0, 0]).wp Try.prog (Exit.then K Q) a x := by
  have hS : ∀ a' y, FB n b b2 hb L tc i (some ⟨sb, so, none⟩) now a' → CS W y n b lb cap E b2 lb2 cap2 E2 hb now h → K a' y := fun a' y f' h' => hK a' y now h f' h' (Int.le_refl _) (by omega)
  refine wp_block ?_
  by_cases z0 : z = 0
  · refine wp_seq (ca_24 f.hs f.hd f.x0 f.x1 f.x5 f.x7 f.x9 f.x10 f.x11 hi hz (t := true) (by simp [z0]) ?_)
    clear f
    intro a1 hs hd x0 x1 x5 x7 x9 x10 x11 x99
    refine wp_cond_true x99 ?_
    refine wp_seq (ca_25 hs hd x0 x1 x5 x7 x9 x10 x11 ?_)
    clear hs hd x0 x1 x5 x7 x9 x10 x11 x99
    intro a2 hs hd x0 x1 x5 x7 x9 x10 x11 x12
    obtain ⟨m, hm, hf, he⟩ := first_free h n (fun k hk => (hI.hn k hk).1)
    refine wp_seq (ca_loop3 ⟨hs, hd, x0, x1, x5, x7, x9, x10, x11⟩ x12 hI.r.held hn m hm hf he ?_)
    clear hs hd x0 x1 x5 x7 x9 x10 x11 x12
    intro a3 f x12
    rcases he with rfl | ⟨e1, e2⟩
    · refine wp_endB (ca_full f.hs f.hd f.x0 f.x1 f.x5 f.x7 f.x9 f.x10 f.x11 x12 hI hn hf ?_)
      intro a4 y hs hd x0 x1 x5 x7 x9 x10 x11 hI'
      exact hS a4 y ⟨hs, hd, x0, x1, x5, x7, x9, x10, x11⟩ hI'
    · refine wp_seq (ca_28 f.hs f.hd f.x0 f.x1 f.x5 f.x7 f.x9 f.x10 f.x11 x12 hI hn e1 hp hp2 e2 hf ?_)
      clear f x12
      intro a4 y g hs hd x0 x1 x5 x7 x9 x10 x11 x12 x13 x14 hc ht hg
      have hb1 : 0 ≤ upd (fOf h) m (now + 1) m ∧ upd (fOf h) m (now + 1) m ≤ 1000001 := by rw [upd_same]; omega
      refine wp_seq (ca_29 hs hd x0 x1 x5 x7 x9 x10 x11 x12 x13 x14 (by simp; omega) ?_)
      clear hs hd x0 x1 x5 x7 x9 x10 x11 x12 x13 x14
      intro a5 hs hd x0 x1 x5 x7 x9 x10 x11 x12 x13 x14
      refine wp_seq (ca_32 hs hd x0 x1 x5 x7 x9 x10 x11 x12 x13 x14 hg hp hp2 (cHoldsIs hc m now e1 hb1 (by rw [upd_same]; omega) hp) (fun y' hy => cHoldsNot (hc.still hy) m (now + 1) e1 hb1 (by rw [upd_same]; omega)) (fun y' hy => cHoldsNo (hc.still hy) n now (.inr (Int.le_refl _))) ?_)
      clear hs hd x0 x1 x5 x7 x9 x10 x11 x12 x13 x14
      intro a6 y2 hs hd x0 x1 x5 x7 x9 x10 x11 x12 ht2
      have hh := ((hI.r.keep hI.c e1 ht).still ht2).held
      have hc2 := ints_cell hh e1
      rw [e2] at hc2
      refine wp_endB (ca_34 (h := h) hs hd x0 x1 x5 x7 x9 x10 x11 x12 (by rw [e2]; exact hc2) (froz_at hh m) (by omega) hp hp2 ?_)
      clear hs hd x0 x1 x5 x7 x9 x10 x11 x12
      rintro a7 y3 hs hd x0 x1 x5 x7 x9 x10 x11 rfl
      exact hK a7 _ (now + 1) _ ⟨hs, hd, x0, x1, x5, x7, x9, x10, x11⟩ (hI.took hp e1 ht hc ht2) (by omega) (Int.le_refl _)
  refine wp_seq (ca_24 f.hs f.hd f.x0 f.x1 f.x5 f.x7 f.x9 f.x10 f.x11 hi hz (t := false) (by simp [z0]) ?_)
  clear f
  intro a1 hs hd x0 x1 x5 x7 x9 x10 x11 x99
  refine wp_cond_false x99 ?_
  clear x99
  by_cases z1 : z = -1
  · refine wp_seq (ca_36 hs hd x0 x1 x5 x7 x9 x10 x11 hi hz (t := true) (by simp [z1]) ?_)
    clear hs hd x0 x1 x5 x7 x9 x10 x11
    intro a2 hs hd x0 x1 x5 x7 x9 x10 x11 x168
    refine wp_cond_true x168 ?_
    refine wp_endB (ca_now hs hd x0 x1 x5 x7 x9 x10 x11 hI ?_)
    clear hs hd x0 x1 x5 x7 x9 x10 x11 x168
    intro a3 hs hd x0 x1 x5 x7 x9 x10 x11
    exact hS a3 x ⟨hs, hd, x0, x1, x5, x7, x9, x10, x11⟩ hI
  refine wp_seq (ca_36 hs hd x0 x1 x5 x7 x9 x10 x11 hi hz (t := false) (by simp [z1]) ?_)
  clear hs hd x0 x1 x5 x7 x9 x10 x11
  intro a2 hs hd x0 x1 x5 x7 x9 x10 x11 x168
  refine wp_cond_false x168 ?_
  clear x168
  by_cases z2 : z = -2
  · refine wp_seq (ca_39 hs hd x0 x1 x5 x7 x9 x10 x11 hi hz (t := true) (by simp [z2]) ?_)
    clear hs hd x0 x1 x5 x7 x9 x10 x11
    intro a3 hs hd x0 x1 x5 x7 x9 x10 x11 x178
    refine wp_cond_true x178 ?_
    refine wp_seq (ca_40 hs hd x0 x1 x5 x7 x9 x10 x11 ?_)
    clear hs hd x0 x1 x5 x7 x9 x10 x11 x178
    intro a4 hs hd x0 x1 x5 x7 x9 x10 x11 x15
    refine wp_seq (wp_seq (ca_41 hs hd x0 x1 x5 x7 x9 x10 x11 x15 ?_))
    clear hs hd x0 x1 x5 x7 x9 x10 x11 x15
    intro a5 hs hd x0 x1 x5 x7 x9 x10 x11 x15 x16
    refine (ca_loop5 ⟨hs, hd, x0, x1, x5, x7, x9, x10, x11⟩ x15 x16 hI hn ?_)
    clear hs hd x0 x1 x5 x7 x9 x10 x11 x15 x16
    intro a6 f x15
    refine wp_endB (ca_46 f.hs f.hd f.x0 f.x1 f.x5 f.x7 f.x9 f.x10 f.x11 x15 hI hn hp hp2 rfl ?_)
    clear f x15
    intro a7 hs hd x0 x1 x5 x7 x9 x10 x11
    exact hS a7 x ⟨hs, hd, x0, x1, x5, x7, x9, x10, x11⟩ hI
  refine wp_seq (ca_39 hs hd x0 x1 x5 x7 x9 x10 x11 hi hz (t := false) (by simp [z2]) ?_)
  clear hs hd x0 x1 x5 x7 x9 x10 x11
  intro a3 hs hd x0 x1 x5 x7 x9 x10 x11 x178
  refine wp_cond_false x178 ?_
  clear x178
  refine wp_seq (ca_16 hs hd x0 x1 x5 x7 x9 x10 x11 hi hz ?_)
  clear hs hd x0 x1 x5 x7 x9 x10 x11
  intro a4 hs hd x0 x1 x5 x7 x9 x10 x11 x17
  generalize wrap64 (z - 1) = u at *
  by_cases u0 : u < 0
  · refine wp_endB (ca_4neg hs hd x0 x1 x5 x7 x9 x10 x11 x17 hI u0 ?_)
    clear hs hd x0 x1 x5 x7 x9 x10 x11 x17
    intro a5 hs hd x0 x1 x5 x7 x9 x10 x11
    exact hS a5 x ⟨hs, hd, x0, x1, x5, x7, x9, x10, x11⟩ hI
  by_cases un : (n : Int) ≤ u
  · refine wp_endB (ca_4big hs hd x0 x1 x5 x7 x9 x10 x11 x17 hI u0 un ?_)
    clear hs hd x0 x1 x5 x7 x9 x10 x11 x17
    intro a5 hs hd x0 x1 x5 x7 x9 x10 x11
    exact hS a5 x ⟨hs, hd, x0, x1, x5, x7, x9, x10, x11⟩ hI
  obtain ⟨k, rfl⟩ : ∃ k : Nat, u = k := ⟨u.toNat, by omega⟩
  have hkn : k < n := by omega
  have hh := hI.hn k hkn
  by_cases hv : h k = 0
  · refine wp_endB (ca_4free hs hd x0 x1 x5 x7 x9 x10 x11 x17 hI hkn hv ?_)
    clear hs hd x0 x1 x5 x7 x9 x10 x11 x17
    intro a5 y hs hd x0 x1 x5 x7 x9 x10 x11 hI'
    exact hS a5 y ⟨hs, hd, x0, x1, x5, x7, x9, x10, x11⟩ hI'
  · refine wp_endB (ca_4held hs hd x0 x1 x5 x7 x9 x10 x11 x17 hI hkn (by omega) ?_)
    clear hs hd x0 x1 x5 x7 x9 x10 x11 x17
    intro a5 y hs hd x0 x1 x5 x7 x9 x10 x11 hI'
    exact hK a5 y now _ ⟨hs, hd, x0, x1, x5, x7, x9, x10, x11⟩ hI' (Int.le_refl _) (by omega)
structure CL (W : World) (n b lb cap : Nat) (E : Nat → Nat) (b2 lb2 cap2 : Nat) (E2 : Nat → Nat) (hb L tc : Nat) (ta : Option Addr) (a : Act) (x : World) : Prop where
  ex : ∃ now i h, FB n b b2 hb L tc i ta now a ∧ CS W x n b lb cap E b2 lb2 cap2 E2 hb now h ∧ i ≤ L ∧ 1 ≤ now ∧ now ≤ i + 1
theorem ca_round {z : Nat → Int} (hn : n ≤ 64) (hL : L ≤ 400) (hS : ∀ j, j < L → ∃ sb so, ta = some ⟨sb, so, none⟩ ∧ W.cell? ⟨sb, so + j, none⟩ = some (.int .i64 (z j))) (hC : CL W n b lb cap E b2 lb2 cap2 E2 hb L tc ta a x)
    (hQ : ∀ a' y, CL W n b lb cap E b2 lb2 cap2 E2 hb L tc ta a' y → Q (.exit 0) a' y) :
    (atc Try.f3.body [1, 1, 1, 1, 1, 1, 1, 1, 1, 0, 1, 1, 1]).wp Try.prog (Exit.then (fun a' y => CL W n b lb cap E b2 lb2 cap2 E2 hb L tc ta a' y ∧ L - (intOf (a'.eval (.tmp 11))).toNat < L - (intOf (a.eval (.tmp 11))).toNat) Q) a x := by
  obtain ⟨now, i, h, f, hI, hi, hp, hp2⟩ := hC.ex
  have hmu : (intOf (a.eval (.tmp 11))).toNat = i := by rw [f.x11]; simp [intOf]
  rw [hmu]
  by_cases hlt : i < L
  · obtain ⟨sb, so, rfl, hz⟩ := hS i hlt
    refine wp_seq (ca_in f.hs f.hd f.x0 f.x1 f.x5 f.x7 f.x9 f.x10 f.x11 (by omega) ?_)
    clear f hmu
    intro a1 hs hd x0 x1 x5 x7 x9 x10 x11
    refine wp_seq (wp_block ?_)
    refine wp_seq (ca_switch ⟨hs, hd, x0, x1, x5, x7, x9, x10, x11⟩ hI (by omega) (hI.r.turned.cell hz (by simp)) hn hp (by omega) ?_)
    clear hs hd x0 x1 x5 x7 x9 x10 x11 hI
    intro a2 y now' h' f hI hn1 hn2
    refine wp_seq (ca_48 f.hs f.hd f.x0 f.x1 f.x5 f.x7 f.x9 f.x10 f.x11 hI hn ?_)
    clear f
    intro a3 y2 hs hd x0 x1 x5 x7 x9 x10 x11 x19 ht hg
    have hI2 := hI.still ht
    refine wp_seq (ca_49 hs hd x0 x1 x5 x7 x9 x10 x11 x19 ?_)
    clear hs hd x0 x1 x5 x7 x9 x10 x11 x19
    intro a4 hs hd x0 x1 x5 x7 x9 x10 x11 x19
    refine wp_seq (ca_51 hs hd x0 x1 x5 x7 x9 x10 x11 x19 ?_)
    clear hs hd x0 x1 x5 x7 x9 x10 x11 x19
    intro a5 hs hd x0 x1 x5 x7 x9 x10 x11 x19 x20
    refine wp_lastB (ca_loop7 ⟨hs, hd, x0, x1, x5, x7, x9, x10, x11⟩ x19 x20 hI2 hg (by have := lt_of_heap hI.r.held; omega) (by have := hI.r.turned.size; omega) hn (by omega) ?_)
    clear hs hd x0 x1 x5 x7 x9 x10 x11 x19 x20 hI hI2
    intro a6 y3 f hI
    refine wp_endB (ca_15 f.hs f.hd f.x0 f.x1 f.x5 f.x7 f.x9 f.x10 f.x11 (by omega) ?_)
    clear f
    intro a7 hs hd x0 x1 x5 x7 x9 x10 x11
    refine ⟨⟨now', i + 1, h', ⟨hs, hd, x0, x1, x5, x7, x9, x10, x11⟩, hI, by omega, by omega, by omega⟩, ?_⟩
    rw [x11]; simp only [intOf]; omega
  · refine wp_seq (ca_out f.hs f.hd f.x0 f.x1 f.x5 f.x7 f.x9 f.x10 f.x11 (by omega) ?_)
    intro a1 hs hd x0 x1 x5 x7 x9 x10 x11
    exact hQ a1 x ⟨now, i, h, ⟨hs, hd, x0, x1, x5, x7, x9, x10, x11⟩, hI, hi, hp, hp2⟩
end
end Go.Proofs.Ytibpgoiiohmeiaa

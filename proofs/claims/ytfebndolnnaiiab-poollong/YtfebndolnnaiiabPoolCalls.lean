/- Package pool's calls on a handle, alone, by contract. -/
import Derived.Test.YtfebndolnnaiiabPoolLife
namespace Go.Proofs.Ytfebndolnnaiiab
open Go.RowKit
section
variable {w : World} {p sb pb nb : Nat} {L : Nat → Nat} {s : PSt} {i : Nat} {g : Int}
theorem cHas (h : PA w p sb pb nb L s) (h1 : 1 ≤ i) (h2 : i ≤ s.n) : Calls Try.prog 45 #[.pointer (some ⟨p, 0, none⟩), .int .i64 i] w fun e w' => e = .returned (.bool true) ∧ w' = w := by
  have c0 := cell_at h.pool 0
  simp at c0
  have d1 : decide (1 ≤ (i : Int)) = true := decide_eq_true (by omega)
  have d2 : decide ((i : Int) < (s.n : Int) + 1) = true := decide_eq_true (by omega)
  go_enter Try.func45, Try.ntmps45
  go_wp2
  go_ret
  exact ⟨rfl, rfl⟩
theorem cHasNot {x : Int} (h : PA w p sb pb nb L s) (hb : x < 1 ∨ s.n < x) : Calls Try.prog 45 #[.pointer (some ⟨p, 0, none⟩), .int .i64 x] w fun e w' => e = .returned (.bool false) ∧ w' = w := by
  have c0 := cell_at h.pool 0
  simp at c0
  rcases (by omega : x < 1 ∨ (1 ≤ x ∧ s.n < x)) with h1 | ⟨h1, h2⟩
  · have d1 : decide (1 ≤ x) = false := decide_eq_false (by omega)
    go_enter Try.func45, Try.ntmps45
    go_wp2
    go_ret
    exact ⟨rfl, rfl⟩
  · have d1 : decide (1 ≤ x) = true := decide_eq_true (by omega)
    have d2 : decide (x < (s.n : Int) + 1) = false := decide_eq_false (by omega)
    go_enter Try.func45, Try.ntmps45
    go_wp2
    go_ret
    exact ⟨rfl, rfl⟩
theorem cSlot (h : PA w p sb pb nb L s) (h1 : 1 ≤ i) (h2 : i ≤ s.n) (hn : s.n ≤ 4096) (g0 : 0 ≤ g) (g1 : g ≤ 1099511627774) (g2 : g % 2 = 1) :
    Calls Try.prog 25 #[.pointer (some ⟨p, 0, none⟩), .int .i64 (hnd i g)] w fun e w' => e = .returned (.tuple #[.int .i64 i, .int .i64 g, .int .i64 0]) ∧ w' = w := by
  have HI := cIndex (hnd i g) w
  have HG := cTag (hnd i g) w
  rw [hnd_idx (by omega) g0 (by omega)] at HI
  rw [hnd_tag (by omega) g0 (by omega)] at HG
  have HH := cHas h h1 h2
  have d3 : (g % 2 == 0) = false := by simp; omega
  go_enter Try.func25, Try.ntmps25
  go_wp2_with (first
    | (go_at_call 39; refine HI.mono ?_; rintro e w' ⟨rfl, hw⟩; obtain rfl := hw.symm)
    | (go_at_call 44; refine HG.mono ?_; rintro e w' ⟨rfl, hw⟩; obtain rfl := hw.symm)
    | (go_at_call 45; refine HH.mono ?_; rintro e w' ⟨rfl, hw⟩; obtain rfl := hw.symm))
  refine bodyPost_ret (v := .tuple #[.int .i64 i, .int .i64 g, .int .i64 0]) (by simp [results, Try.results25, go_sem]) rfl ⟨rfl, rfl⟩
theorem cSlotBad {x : Int} (h : PA w p sb pb nb L s) (hb : idxV x < 1 ∨ s.n < idxV x ∨ tagV x % 2 = 0) :
    Calls Try.prog 25 #[.pointer (some ⟨p, 0, none⟩), .int .i64 x] w fun e w' => e = .returned (.tuple #[.int .i64 0, .int .i64 0, .int .i64 103]) ∧ w' = w := by
  have HI := cIndex x w
  have HG := cTag x w
  have ht0 : 0 ≤ tagV x := by unfold tagV; split <;> omega
  generalize idxV x = ix at *
  generalize tagV x = tx at *
  rcases (by omega : (ix < 1 ∨ s.n < ix) ∨ (1 ≤ ix ∧ ix ≤ s.n ∧ tx % 2 = 0)) with h1 | ⟨h1, h2, h3⟩
  · have HH := cHasNot h h1
    go_enter Try.func25, Try.ntmps25
    go_wp2_with (first
      | (go_at_call 39; refine HI.mono ?_; rintro e w' ⟨rfl, hw⟩; obtain rfl := hw.symm)
      | (go_at_call 44; refine HG.mono ?_; rintro e w' ⟨rfl, hw⟩; obtain rfl := hw.symm)
      | (go_at_call 45; refine HH.mono ?_; rintro e w' ⟨rfl, hw⟩; obtain rfl := hw.symm))
    refine bodyPost_ret (v := .tuple #[.int .i64 0, .int .i64 0, .int .i64 103]) (by simp [results, Try.results25, go_sem]) rfl ⟨rfl, rfl⟩
  · obtain ⟨i, rfl⟩ : ∃ i : Nat, ix = i := ⟨ix.toNat, by omega⟩
    have HH := cHas h (i := i) (by omega) (by omega)
    have d3 : (tx % 2 == 0) = true := by simp [h3]
    go_enter Try.func25, Try.ntmps25
    go_wp2_with (first
      | (go_at_call 39; refine HI.mono ?_; rintro e w' ⟨rfl, hw⟩; obtain rfl := hw.symm)
      | (go_at_call 44; refine HG.mono ?_; rintro e w' ⟨rfl, hw⟩; obtain rfl := hw.symm)
      | (go_at_call 45; refine HH.mono ?_; rintro e w' ⟨rfl, hw⟩; obtain rfl := hw.symm))
    refine bodyPost_ret (v := .tuple #[.int .i64 0, .int .i64 0, .int .i64 103]) (by simp [results, Try.results25, go_sem]) rfl ⟨rfl, rfl⟩
theorem cMeet (h : PA w p sb pb nb L s) (h1 : 1 ≤ i) (h2 : i ≤ s.n) (hn : s.n ≤ 4096) (g0 : 0 ≤ g) (g1 : g ≤ 1099511627774) (g2 : g % 2 = 1) (hg : (s.slot i).gen = g) :
    Calls Try.prog 28 #[.pointer (some ⟨p, 0, none⟩), .pointer none, .int .i64 (hnd i g)] w fun e w' => e = .returned (.tuple #[.pointer (some ⟨L i, 0, none⟩), .int .i64 0]) ∧ w' = w := by
  have HS := cSlot h h1 h2 hn g0 g1 g2
  have c0 := cell_at h.pool 0
  simp at c0
  have hlt : (i : Int) < (s.n : Int) + 1 := by omega
  have HL := cPLoad (ptr_cell h.slots h2) (h.life i h2) rfl
  have l0 := cell_at (h.life i h2) 0
  simp at l0
  rw [hg] at l0
  go_enter Try.func28, Try.ntmps28
  go_wp2_with (first
    | (go_at_call 25; refine HS.mono ?_; rintro e w' ⟨rfl, hw⟩; obtain rfl := hw.symm)
    | (go_at_call 24; refine (cStep _).mono ?_; rintro e w' ⟨rfl, hw⟩; obtain rfl := hw.symm)
    | (go_at_call 21; refine HL.mono ?_; rintro e w' ⟨rfl, hw⟩; obtain rfl := hw.symm))
  go_ret2
  exact ⟨rfl, rfl⟩
theorem cMeetGone (h : PA w p sb pb nb L s) (h1 : 1 ≤ i) (h2 : i ≤ s.n) (hn : s.n ≤ 4096) (g0 : 0 ≤ g) (g1 : g ≤ 1099511627774) (g2 : g % 2 = 1) (hg : (s.slot i).gen ≠ g) (hf0 : 0 ≤ s.faults) (hf1 : s.faults ≤ 1000000) :
    Calls Try.prog 28 #[.pointer (some ⟨p, 0, none⟩), .pointer none, .int .i64 (hnd i g)] w fun e w' => e = .returned (.tuple #[.pointer none, .int .i64 104]) ∧ w' = w.setCell ⟨p, 2, none⟩ (.int .i64 (s.faults + 1)) := by
  have HS := cSlot h h1 h2 hn g0 g1 g2
  have c0 := cell_at h.pool 0
  have c2 := cell_at h.pool 2
  have z2 := froz_at h.pool 2
  simp at c0 c2
  have hlt : (i : Int) < (s.n : Int) + 1 := by omega
  have HL := cPLoad (ptr_cell h.slots h2) (h.life i h2) rfl
  have l0 := cell_at (h.life i h2) 0
  simp at l0
  have hne : ((s.slot i).gen != g) = true := by simp [hg]
  go_enter Try.func28, Try.ntmps28
  go_wp2_with (first
    | (go_at_call 25; refine HS.mono ?_; rintro e w' ⟨rfl, hw⟩; obtain rfl := hw.symm)
    | (go_at_call 24; refine (cStep _).mono ?_; rintro e w' ⟨rfl, hw⟩; obtain rfl := hw.symm)
    | (go_at_call 21; refine HL.mono ?_; rintro e w' ⟨rfl, hw⟩; obtain rfl := hw.symm)
    | (go_at_call 46; refine (cAAdd c2 z2 (by omega) (by omega)).mono ?_; rintro e w' ⟨rfl, rfl⟩))
  go_ret2
  exact ⟨rfl, rfl⟩
theorem cMeetBad {x : Int} (h : PA w p sb pb nb L s) (hb : idxV x < 1 ∨ s.n < idxV x ∨ tagV x % 2 = 0) :
    Calls Try.prog 28 #[.pointer (some ⟨p, 0, none⟩), .pointer none, .int .i64 x] w fun e w' => e = .returned (.tuple #[.pointer none, .int .i64 103]) ∧ w' = w := by
  have HS := cSlotBad h hb
  go_enter Try.func28, Try.ntmps28
  go_wp2_with (first
    | (go_at_call 25; refine HS.mono ?_; rintro e w' ⟨rfl, hw⟩; obtain rfl := hw.symm)
    | (go_at_call 24; refine (cStep _).mono ?_; rintro e w' ⟨rfl, hw⟩; obtain rfl := hw.symm))
  go_ret2
  exact ⟨rfl, rfl⟩
set_option maxHeartbeats 800000 in
theorem cPMark (h : PA w p sb pb nb L s) (h1 : 1 ≤ i) (h2 : i ≤ s.n) (hn : s.n ≤ 4096) (g0 : 0 ≤ g) (g1 : g ≤ 1099511627774) (g2 : g % 2 = 1) (hg : (s.slot i).gen = g) :
    Calls Try.prog 11 #[.pointer (some ⟨p, 0, none⟩), .pointer none, .int .i64 (hnd i g)] w fun e w' => e = .returned (.tuple #[.int .i64 (s.slot i).mark, .int .i64 0]) ∧ w' = w := by
  have HM := cMeet h h1 h2 hn g0 g1 g2 hg
  have c5 := cell_at (h.life i h2) 5
  simp at c5
  go_enter Try.func11, Try.ntmps11
  go_wp2_with (first
    | (go_at_call 28; refine HM.mono ?_; rintro e w' ⟨rfl, hw⟩; obtain rfl := hw.symm)
    | (go_at_call 29; refine (cALoad c5).mono ?_; rintro e w' ⟨rfl, hw⟩; obtain rfl := hw.symm))
  go_ret2
  exact ⟨rfl, rfl⟩
set_option maxHeartbeats 800000 in
theorem cPCasMark (h : PA w p sb pb nb L s) (h1 : 1 ≤ i) (h2 : i ≤ s.n) (hn : s.n ≤ 4096) (g0 : 0 ≤ g) (g1 : g ≤ 1099511627774) (g2 : g % 2 = 1) (hg : (s.slot i).gen = g) (old v : Int) (hm : (s.slot i).mark = old) :
    Calls Try.prog 12 #[.pointer (some ⟨p, 0, none⟩), .pointer none, .int .i64 (hnd i g), .int .i64 old, .int .i64 v] w fun e w' => e = .returned (.tuple #[.bool true, .int .i64 0]) ∧ w' = w.setCell ⟨L i, 5, none⟩ (.int .i64 v) := by
  have HM := cMeet h h1 h2 hn g0 g1 g2 hg
  have c5 := cell_at (h.life i h2) 5
  have z5 := froz_at (h.life i h2) 5
  simp at c5
  rw [hm] at c5
  go_enter Try.func12, Try.ntmps12
  go_wp2_with (first
    | (go_at_call 28; refine HM.mono ?_; rintro e w' ⟨rfl, hw⟩; obtain rfl := hw.symm)
    | (go_at_call 30; refine (cACas c5 z5).mono ?_; rintro e w' ⟨rfl, rfl⟩))
  go_ret2
  exact ⟨rfl, rfl⟩
set_option maxHeartbeats 800000 in
theorem cPCasNot (h : PA w p sb pb nb L s) (h1 : 1 ≤ i) (h2 : i ≤ s.n) (hn : s.n ≤ 4096) (g0 : 0 ≤ g) (g1 : g ≤ 1099511627774) (g2 : g % 2 = 1) (hg : (s.slot i).gen = g) (old v : Int) (hm : ¬ (s.slot i).mark = old) :
    Calls Try.prog 12 #[.pointer (some ⟨p, 0, none⟩), .pointer none, .int .i64 (hnd i g), .int .i64 old, .int .i64 v] w fun e w' => e = .returned (.tuple #[.bool false, .int .i64 0]) ∧ w' = w := by
  have HM := cMeet h h1 h2 hn g0 g1 g2 hg
  have c5 := cell_at (h.life i h2) 5
  have z5 := froz_at (h.life i h2) 5
  simp at c5
  go_enter Try.func12, Try.ntmps12
  go_wp2_with (first
    | (go_at_call 28; refine HM.mono ?_; rintro e w' ⟨rfl, hw⟩; obtain rfl := hw.symm)
    | (go_at_call 30; refine (cACasMiss c5 z5 hm).mono ?_; rintro e w' ⟨rfl, rfl⟩))
  go_ret2
  exact ⟨rfl, rfl⟩
set_option maxHeartbeats 800000 in
theorem cPSwap (h : PA w p sb pb nb L s) (h1 : 1 ≤ i) (h2 : i ≤ s.n) (hn : s.n ≤ 4096) (g0 : 0 ≤ g) (g1 : g ≤ 1099511627774) (g2 : g % 2 = 1) (hg : (s.slot i).gen = g) (v : Int) :
    Calls Try.prog 13 #[.pointer (some ⟨p, 0, none⟩), .pointer none, .int .i64 (hnd i g), .int .i64 v] w fun e w' => e = .returned (.tuple #[.int .i64 (s.slot i).link, .int .i64 0]) ∧ w' = w.setCell ⟨L i, 6, none⟩ (.int .i64 v) := by
  have HM := cMeet h h1 h2 hn g0 g1 g2 hg
  have c6 := cell_at (h.life i h2) 6
  have z6 := froz_at (h.life i h2) 6
  simp at c6
  go_enter Try.func13, Try.ntmps13
  go_wp2_with (first
    | (go_at_call 28; refine HM.mono ?_; rintro e w' ⟨rfl, hw⟩; obtain rfl := hw.symm)
    | (go_at_call 31; refine (cASwap c6 z6).mono ?_; rintro e w' ⟨rfl, rfl⟩))
  go_ret2
  exact ⟨rfl, rfl⟩
set_option maxHeartbeats 800000 in
theorem cPFaults (h : PA w p sb pb nb L s) :
    Calls Try.prog 14 #[.pointer (some ⟨p, 0, none⟩)] w fun e w' => e = .returned (.int .i64 s.faults) ∧ w' = w := by
  have c2 := cell_at h.pool 2
  simp at c2
  go_enter Try.func14, Try.ntmps14
  go_wp2_with (first
    | (go_at_call 29; refine (cALoad c2).mono ?_; rintro e w' ⟨rfl, hw⟩; obtain rfl := hw.symm))
  go_ret
  exact ⟨rfl, rfl⟩
set_option maxHeartbeats 800000 in
theorem cPRead (h : PA w p sb pb nb L s) (h1 : 1 ≤ i) (h2 : i ≤ s.n) (hn : s.n ≤ 4096) (g0 : 0 ≤ g) (g1 : g ≤ 1099511627774) (g2 : g % 2 = 1) (hg : (s.slot i).gen = g) :
    Calls Try.prog 10 #[.pointer (some ⟨p, 0, none⟩), .pointer none, .int .i64 (hnd i g)] w fun e w' => e = .returned (.tuple #[.agg #[.int .i64 (s.slot i).a, .int .i64 (s.slot i).b, .int .i64 (s.slot i).c, .int .i64 (s.slot i).d], .int .i64 0]) ∧ Turned [] w w' ∧ PA w' p sb pb nb L s := by
  have hA : ∀ o, PA (w.alloc o) p sb pb nb L s := fun o => h.alloc o
  have hli := lt_of_heap (h.life i h2)
  have hne : ¬ L i = w.heap.size := by omega
  have n1 := cell_at (h.life i h2) 1
  have n2 := cell_at (h.life i h2) 2
  have n3 := cell_at (h.life i h2) 3
  have n4 := cell_at (h.life i h2) 4
  simp at n1 n2 n3 n4
  go_enter Try.func10, Try.ntmps10
  go_wp2_with (go_at_call 28; refine (cMeet (hA _) h1 h2 hn g0 g1 g2 hg).mono ?_; rintro e w' ⟨rfl, hw⟩; obtain rfl := hw.symm)
  refine bodyPost_ret (v := .tuple #[.agg #[.int .i64 (s.slot i).a, .int .i64 (s.slot i).b, .int .i64 (s.slot i).c, .int .i64 (s.slot i).d], .int .i64 0]) (by simp [results, Try.results10, go_sem]) rfl ⟨rfl, (Turned.refl _ _).alloc _, hA _⟩
set_option maxHeartbeats 800000 in
theorem cPReadGone (h : PA w p sb pb nb L s) (h1 : 1 ≤ i) (h2 : i ≤ s.n) (hn : s.n ≤ 4096) (g0 : 0 ≤ g) (g1 : g ≤ 1099511627774) (g2 : g % 2 = 1) (hg : (s.slot i).gen ≠ g) (hf0 : 0 ≤ s.faults) (hf1 : s.faults ≤ 1000000) :
    Calls Try.prog 10 #[.pointer (some ⟨p, 0, none⟩), .pointer none, .int .i64 (hnd i g)] w fun e w' => e = .returned (.tuple #[.agg #[.int .i64 0, .int .i64 0, .int .i64 0, .int .i64 0], .int .i64 104]) ∧ Turned [p] w w' ∧ PA w' p sb pb nb L s.fault := by
  have hA : ∀ o, PA (w.alloc o) p sb pb nb L s := fun o => h.alloc o
  have hpl := lt_of_heap h.pool
  have hne : ¬ p = w.heap.size := by omega
  have hne2 : ¬ w.heap.size = p := by omega
  go_enter Try.func10, Try.ntmps10
  go_wp2_with (go_at_call 28; refine (cMeetGone (hA _) h1 h2 hn g0 g1 g2 hg hf0 hf1).mono ?_; rintro e w' ⟨rfl, rfl⟩)
  refine bodyPost_ret (v := .tuple #[.agg #[.int .i64 0, .int .i64 0, .int .i64 0, .int .i64 0], .int .i64 104]) (by simp [results, Try.results10, go_sem]) rfl ⟨rfl, ((Turned.refl _ _).set (r := p) (.inl (by simp)) 2 _).alloc _, h.fault.alloc _⟩
set_option maxHeartbeats 800000 in
theorem cPReadBad {x : Int} (h : PA w p sb pb nb L s) (hb : idxV x < 1 ∨ s.n < idxV x ∨ tagV x % 2 = 0) :
    Calls Try.prog 10 #[.pointer (some ⟨p, 0, none⟩), .pointer none, .int .i64 x] w fun e w' => e = .returned (.tuple #[.agg #[.int .i64 0, .int .i64 0, .int .i64 0, .int .i64 0], .int .i64 103]) ∧ Turned [] w w' ∧ PA w' p sb pb nb L s := by
  have hA : ∀ o, PA (w.alloc o) p sb pb nb L s := fun o => h.alloc o
  go_enter Try.func10, Try.ntmps10
  go_wp2_with (go_at_call 28; refine (cMeetBad (hA _) hb).mono ?_; rintro e w' ⟨rfl, hw⟩; obtain rfl := hw.symm)
  refine bodyPost_ret (v := .tuple #[.agg #[.int .i64 0, .int .i64 0, .int .i64 0, .int .i64 0], .int .i64 103]) (by simp [results, Try.results10, go_sem]) rfl ⟨rfl, (Turned.refl _ _).alloc _, hA _⟩
theorem chain_from (f : Nat → Nat) : ∀ (St L : List Nat) (t i : Nat), Linked f i St → (L ++ St).Nodup → St.length ≤ t → chain f t i L = L ++ St
  | [], L, t, i, h, _, _ => by rw [chain_stop f t i L (.inl h)]; simp
  | x :: St, L, t, i, h, hn, ht => by
    obtain ⟨rfl, h2, h3⟩ := h
    cases t with
    | zero => simp at ht
    | succ t =>
      have hx : i ∉ L := fun hx => by
        have := (List.nodup_append.1 hn).2.2 i hx i (by simp)
        exact this rfl
      rw [chain_go f t i L h2 hx, chain_from f St (L ++ [i]) t (f i) h3 (by simpa using hn) (by simpa using ht)]
      simp
theorem chain_linked (f : Nat → Nat) {n i : Nat} {St : List Nat} (h : Linked f i St) (hn : St.Nodup) (hS : ∀ x, x ∈ St → 1 ≤ x ∧ x ≤ n) : chain f (n + 1) i [] = St := by
  have := few_places hn hS
  rw [chain_from f St [] (n + 1) i h (by simpa using hn) (by omega)]
  simp
set_option maxHeartbeats 800000 in
theorem cPFree (h : PA w p sb pb nb L s) (ho : s.Ok) {St : List Nat} (hL : Linked s.f (idxV s.h).toNat St) (hN : St.Nodup) (hS : ∀ x, x ∈ St → 1 ≤ x ∧ x ≤ s.n) :
    Calls Try.prog 15 #[.pointer (some ⟨p, 0, none⟩)] w fun e w' => (∃ a c, e = .returned (.slice a St.length c)) ∧ Turned [] w w' := by
  have c1 := cell_at h.pool 1
  simp at c1
  have ht := ho.top
  have hp := idx_nat ho.h0
  obtain ⟨i0, hi0⟩ : ∃ i0 : Nat, idxV s.h = i0 := ⟨(idxV s.h).toNat, by omega⟩
  have HP := cPlaces h.pile ho.n2 ho.low hi0 (by omega)
  rw [hi0, Int.toNat_natCast] at hL
  rw [chain_linked s.f (n := s.n) hL hN hS] at HP
  go_enter Try.func15, Try.ntmps15
  go_wp2_with (first
    | (go_at_call 32; refine HP.mono ?_; rintro e w' ⟨v, rfl, hT, hR⟩))
  go_ret
  obtain ⟨a, c, hv⟩ : ∃ a c, v = .slice a St.length c := by
    rcases hR.2 with ⟨rfl, h0⟩ | ⟨g, cap, cur, rfl, -⟩
    · exact ⟨none, 0, by rw [h0]⟩
    · exact ⟨_, _, rfl⟩
  exact ⟨⟨a, c, by rw [hv]; rfl⟩, hT⟩
end
end Go.Proofs.Ytfebndolnnaiiab

/-
  What choose and step do to an order: who is picked, and what is kept.
-/
import Derived.Test.YtlbekopcaifijaaLeaf
import Derived.Test.YtlbekopcaifijaaMake
import Derived.Test.YtlbekopcaifijaaGather
namespace Go.Proofs.Ytlbekopcaifijaa
open Go.RowKit
/-- An order whose first turn is used up. -/
theorem ord_next {T : TypeId} {w : World} {b p off cap : Nat} {t x : Int} {rest : List Int} (hgb : p ≠ b) (hlt : b < w.heap.size)
    (h3 : w.heap[b]? = some (.cells #[.slice (some ⟨p, off, none⟩) (rest.length + 1) cap, .int .i64 x] T (0, 0))) (h4 : rest.length + 1 ≤ cap) (h5 : cap ≤ maxLen) (h8 : Vals w (some ⟨p, off, none⟩) (ints (t :: rest)))
    (q : Nat) (hq : cap = 1 ∨ q = off + 1) (c' : Nat) (hc' : c' = cap - 1) : Ord T (w.setCell ⟨b, 0, none⟩ (.slice (some ⟨p, q, none⟩) rest.length c')) b p rest x := by
  subst hc'
  refine ⟨fun _ => hgb, by simpa [World.setCell] using hlt, some ⟨p, q, none⟩, cap - 1, two_set0 h3 _, by omega, by omega, (fun e => by cases e), (fun _ _ _ e => by cases e; rfl), ?_⟩
  rcases hq with hq | rfl
  · left
    have : rest = [] := List.length_eq_zero_iff.1 (by omega)
    subst this; rfl
  · right
    obtain ⟨p', off', e, hc⟩ := h8.int (by simp)
    cases e
    refine ⟨p, off + 1, rfl, fun j u hu => ?_⟩
    have hj : j < rest.length := by have := (List.getElem?_eq_some_iff.1 hu).1; simpa [ints] using this
    rw [ints_at rest hj] at hu
    cases hu
    rw [World.cell?_setCell_other _ _ _ _ (fun e => hgb (by simpa using (congrArg Addr.block e).symm))]
    have := hc (j + 1) (by simpa using hj)
    rw [show off + 1 + j = off + (j + 1) by omega, this]; rfl
set_option maxHeartbeats 800000 in
theorem cChoose (w : World) (b g : Nat) (ts : List Int) (last : Int) (h : Ord 39 w b g ts (last + 1)) (r rc : Nat) (l : List Nat) (hl : l ≠ []) (hn : l.length ≤ 140737488355328) (hr : r ≠ b)
    (hc : ∀ j (h : j < l.length), w.cell? ⟨r, j, none⟩ = some (.int .i64 ((l[j]'h : Nat) : Int))) :
    Calls Try.prog 19 #[.pointer (some ⟨b, 0, none⟩), .slice (some ⟨r, 0, none⟩) l.length rc] w fun e w' => e = .returned (.int .i64 (chosen l ts last : Int)) ∧ Only b w w' ∧ Ord 39 w' b g ts.tail (last + 1) := by
  have hp : 0 < l.length := List.length_pos_iff.2 hl
  obtain ⟨hgb, hlt, ao, cap, h3, h4, h5, h6, h7, h8⟩ := h
  obtain ⟨c0, c1, f0, f1⟩ := cell_two h3
  cases ts with
  | nil =>
    have HO : Hid (Ord 39 w b g [] (last + 1)) := ⟨hgb, hlt, ao, cap, h3, h4, h5, h6, h7, h8⟩
    clear h3 h4 h5 h6 h7 h8
    simp only [List.length_nil] at c0
    go_enter Try.func19, Try.ntmps19
    go_wp2_with (go_at_call 20; refine (cRound w r rc l last hl hn hc).mono ?_; rintro e w' ⟨rfl, rfl⟩)
    go_ret
    exact ⟨rfl, Only.refl _ _, HO.out⟩
  | cons t rest =>
    obtain ⟨p, off, rfl, hcells⟩ := h8.int (by simp)
    obtain rfl := h7 (by simp) p off rfl
    replace hgb := hgb (by simp)
    have ht : w.cell? ⟨p, off, none⟩ = some (.int .i64 t) := hcells 0 (by simp)
    obtain ⟨hm1, hm2⟩ := mod_lt t hp
    have hm3 : t % (l.length : Int) < (l.length : Int) := by omega
    have hcm : w.cell? ⟨r, (t % (l.length : Int)).toNat, none⟩ = some (.int .i64 (chosen l (t :: rest) last : Int)) := by
      rw [hc _ hm1]
      show _ = some (Value.int .i64 ((l.getD (t % (l.length : Int)).toNat 0 : Nat) : Int))
      rw [List.getD_eq_getElem?_getD, List.getElem?_eq_getElem hm1]; rfl
    simp only [List.length_cons] at c0 h3 h4
    have HO : Hid (∀ q c', (cap = 1 ∨ q = off + 1) → c' = cap - 1 → Ord 39 (w.setCell ⟨b, 0, none⟩ (.slice (some ⟨p, q, none⟩) rest.length c')) b p rest (last + 1)) := fun q c' h1 h2 => ord_next hgb hlt h3 h4 h5 h8 q h1 c' h2
    clear hcells h8 h7 hc h3 h6
    have hca : ∀ u, (w.setCell ⟨b, 0, none⟩ u).cell? ⟨r, (t % (l.length : Int)).toNat, none⟩ = some (.int .i64 (chosen l (t :: rest) last : Int)) := fun u => by
      rw [World.cell?_setCell_other _ _ _ _ (fun e => hr (by simpa using (congrArg Addr.block e).symm))]; exact hcm
    generalize chosen l (t :: rest) last = ch at *
    unfold maxLen at h5
    go_enter Try.func19, Try.ntmps19
    go_wp2_with (go_at_call 21; refine (cModulo t l.length _ hp hn).mono ?_; rintro e w' ⟨rfl, rfl⟩)
    all_goals
      go_ret
      refine ⟨rfl, (Only.refl _ _).set _ _, HO.out _ _ ?_ ?_⟩ <;> omega
set_option maxHeartbeats 800000 in
theorem cStep (w : World) (b g : Nat) (ts : List Int) (last : Int) (h : Ord 39 w b g ts (last + 1)) (r rc : Nat) (l : List Nat) (hn : l.length ≤ 140737488355328) (hr : r ≠ b) (hx : ∀ x, x ∈ l → x < 140737488355328)
    (hc : ∀ j (h : j < l.length), w.cell? ⟨r, j, none⟩ = some (.int .i64 ((l[j]'h : Nat) : Int))) :
    Calls Try.prog 17 #[.pointer (some ⟨b, 0, none⟩), .slice (some ⟨r, 0, none⟩) l.length rc] w fun e w' => e = .returned (.int .i64 (pickV l ts last)) ∧ Only b w w' ∧ Ord 39 w' b g (tsAft l ts) (lastAft l ts last + 1) := by
  by_cases hl : l = []
  · subst hl
    have HO : Hid (Ord 39 w b g ts (last + 1)) := h
    clear h hc
    simp only [List.length_nil]
    go_enter Try.func17, Try.ntmps17
    go_wp2
    go_ret
    exact ⟨rfl, Only.refl _ _, HO.out⟩
  · have hp : 0 < l.length := List.length_pos_iff.2 hl
    have hch := hx _ (chosen_mem hl ts last)
    have e1 : pickV l ts last = (chosen l ts last : Int) := if_neg hl
    have e2 : tsAft l ts = ts.tail := if_neg hl
    have e3 : lastAft l ts last = (chosen l ts last : Int) := if_neg hl
    rw [e1, e2, e3]
    clear e1 e2 e3
    have HC := cChoose w b g ts last h r rc l hl hn hr hc
    clear h hc hx
    generalize chosen l ts last = ch at *
    go_enter Try.func17, Try.ntmps17
    go_wp2_with (go_at_call 19; refine HC.mono ?_; rintro e w1 ⟨rfl, hO, hd⟩; obtain ⟨hgb, hlt, ao, cap, h3, h4, h5, h6, h7, h8⟩ := hd; obtain ⟨c0, c1, f0, f1⟩ := cell_two h3)
    go_ret
    refine ⟨rfl, hO.set _ _, hgb, by simpa [World.setCell] using hlt, ao, cap, two_set1 h3 _, h4, h5, h6, h7, ?_⟩
    exact h8.keepI ((Only.refl _ _).set 1 _) (fun hne p q e => by rw [h7 hne p q e]; exact hgb hne)
end Go.Proofs.Ytlbekopcaifijaa

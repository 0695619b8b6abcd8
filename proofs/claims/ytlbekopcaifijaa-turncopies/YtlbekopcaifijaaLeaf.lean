/-
  What modulo, round and the two Lefts answer: the world stays.
-/
import Derived.Test.YtlbekopcaifijaaWorld
namespace Go.Proofs.Ytlbekopcaifijaa
open Go.RowKit
theorem ret_int {k : IntKind} {a b : Int} (h : a = b) : Ending.returned (.int k a) = .returned (.int k b) := by rw [h]
set_option maxHeartbeats 400000 in
theorem cModulo (t : Int) (n : Nat) (w : World) (h : 0 < n) (hn : n ≤ 140737488355328) :
    Calls Try.prog 21 #[.int .i64 t, .int .i64 n] w fun e w' => e = .returned (.int .i64 (t % (n : Int))) ∧ w' = w := by
  have hb := tmod_bd t n h
  by_cases hr : t.tmod n < 0
  · have e := mod_neg t n h hr
    have H : Hid (t.tmod n + n = t % (n : Int)) := e
    clear e
    go_enter Try.func21, Try.ntmps21
    go_wp2
    go_ret
    exact ⟨ret_int H.out, rfl⟩
  · have e := mod_pos t n h (by omega)
    have H : Hid (t.tmod n = t % (n : Int)) := e
    clear e
    go_enter Try.func21, Try.ntmps21
    go_wp2
    go_ret
    exact ⟨ret_int H.out, rfl⟩
set_option maxHeartbeats 400000 in
theorem cLeft (w : World) (b g : Nat) (ts : List Int) (x : Int) (h : Ord 39 w b g ts x) :
    Calls Try.prog 12 #[.pointer (some ⟨b, 0, none⟩)] w fun e w' => e = .returned (.int .i64 ts.length) ∧ w' = w := by
  obtain ⟨ao, cap, h3, -⟩ := h.box
  obtain ⟨c0, -, -, -⟩ := cell_two h3
  clear h h3
  go_enter Try.func12, Try.ntmps12
  go_wp2
  go_ret
  exact ⟨rfl, rfl⟩
set_option maxHeartbeats 400000 in
theorem cLeftR (w : World) (b g : Nat) (ts : List Int) (x : Int) (h : Ord 41 w b g ts x) :
    Calls Try.prog 13 #[.pointer (some ⟨b, 0, none⟩)] w fun e w' => e = .returned (.int .i64 ts.length) ∧ w' = w := by
  obtain ⟨ao, cap, h3, -⟩ := h.box
  obtain ⟨c0, -, -, -⟩ := cell_two h3
  clear h h3
  go_enter Try.func13, Try.ntmps13
  go_wp2
  go_ret
  exact ⟨rfl, rfl⟩
set_option maxHeartbeats 400000 in
theorem cRound (w : World) (r cap : Nat) (l : List Nat) (last : Int) (hl : l ≠ []) (hn : l.length ≤ 140737488355328)
    (hc : ∀ j (h : j < l.length), w.cell? ⟨r, j, none⟩ = some (.int .i64 ((l[j]'h : Nat) : Int))) :
    Calls Try.prog 20 #[.slice (some ⟨r, 0, none⟩) l.length cap, .int .i64 (last + 1)] w fun e w' => e = .returned (.int .i64 (nextV l last : Int)) ∧ w' = w := by
  have hp : 0 < l.length := List.length_pos_iff.2 hl
  have h0 := hc 0 hp
  go_enter Try.func20, Try.ntmps20
  go_wp2
  go_loop [9] (fun i => ∃ k : Nat, k ≤ l.length ∧ i = .int .i64 k ∧ Hid (∀ j (h : j < l.length), j < k → ((l[j]'h : Nat) : Int) ≤ last)) (fun i => l.length - (intOf i).toNat)
  case atStart => exact ⟨0, Nat.zero_le _, rfl, fun j _ h => absurd h (by omega)⟩
  case round =>
    obtain ⟨k, hk, rfl, hb⟩ := hrel
    by_cases hlt : k < l.length
    · have hck := hc k hlt
      by_cases hy : last + 1 ≤ ((l[k]'hlt : Nat) : Int)
      · have e := find_front hlt hb.out (by omega)
        have H : Hid (nextV l last = l[k]'hlt) := e
        clear e hc
        go_wp2
        go_ret
        exact ⟨ret_int (by rw [H.out]), rfl⟩
      · clear hc
        go_wp2
        go_round
        case rel => exact ⟨k + 1, by omega, by go_num, fun j h hj => by
          by_cases e : j = k
          · subst e; omega
          · exact hb.out j h (by omega)⟩
        case measure => simp [intOf]; omega
    · have e := find_none (l := l) (last := last) (fun j h => hb.out j h (by omega))
      have H : Hid (nextV l last = l.headD 0) := e
      clear e
      go_wp2
      go_ret
      exact ⟨ret_int (by rw [H.out]; cases l with | nil => exact absurd rfl hl | cons a r => rfl), rfl⟩
end Go.Proofs.Ytlbekopcaifijaa

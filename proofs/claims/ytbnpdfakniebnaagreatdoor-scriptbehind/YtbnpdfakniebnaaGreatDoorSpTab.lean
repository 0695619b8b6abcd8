/-
  The table of the calls' words in memory; kindOf by contract. (By the verifier; no statement.)
-/
import Derived.Test.YtbnpdfakniebnaaGreatDoorSpLine4
import Derived.Deep.MidRow
namespace Go.Proofs.YtbnpdfakniebnaaGreatDoor
open Go.RowKit
abbrev rowV (q : Bs × Int × Bool) : List Value := [sV q.1, .int .i64 q.2.1, .bool q.2.2]
def tabV : List Value := callT.flatMap rowV
/-- The table of the calls' words lies in memory as the program laid it. -/
structure TabC (w : World) : Prop where
  at_ : w.rangeAt 1 0 tabV
theorem TabC.keep {w w' : World} {l : List Nat} (h : TabC w) (ht : Turned l w w') (h0 : 1 ∉ l) : TabC w' := ⟨fun j v hj => ht.cell (h.at_ j v hj) h0⟩
theorem TabC.still {w w' : World} (h : TabC w) (ht : Turned [] w w') : TabC w' := h.keep ht (by simp)
theorem TabC.lt {w : World} (h : TabC w) : 1 < w.heap.size := World.block_lt_of_cell? _ _ (h.at_ 0 _ (show tabV[0]? = some (sV []) from rfl))
theorem idx_row {i : Nat} (h : i < 20) : ∃ q, callT.drop i = q :: callT.drop (i + 1) ∧ callT[i]? = some q ∧ ∀ w, (Instr.index 182 (.agg tabV.toArray) (.int .i64 (i : Int))).run Tryz.prog w = .ok (.agg #[sV q.1, .int .i64 q.2.1, .bool q.2.2]) w := by
  have : i = 0 ∨ i = 1 ∨ i = 2 ∨ i = 3 ∨ i = 4 ∨ i = 5 ∨ i = 6 ∨ i = 7 ∨ i = 8 ∨ i = 9 ∨ i = 10 ∨ i = 11 ∨ i = 12 ∨ i = 13 ∨ i = 14 ∨ i = 15 ∨ i = 16 ∨ i = 17 ∨ i = 18 ∨ i = 19 := by omega
  rcases this with rfl | rfl | rfl | rfl | rfl | rfl | rfl | rfl | rfl | rfl | rfl | rfl | rfl | rfl | rfl | rfl | rfl | rfl | rfl | rfl <;> exact ⟨_, rfl, rfl, fun _ => by kernel_rfl⟩
theorem kind_le (l : List (Bs × Int × Bool)) : ∀ (i : Nat) (w : Bs), kindG l i w < i + l.length ∨ kindG l i w = 0 := by
  induction l with
  | nil => intro i w; right; rfl
  | cons q l ih =>
    intro i w
    rw [kindG]
    split
    · left; simp
    · rcases ih (i + 1) w with h | h
      · left; simp at h ⊢; omega
      · right; exact h
theorem kindB_lt (w : Bs) : kindB w < 20 := by
  rcases kind_le callT 0 w with h | h
  · exact h
  · unfold kindB; omega
set_option maxRecDepth 100000 in
set_option maxHeartbeats 3200000 in
theorem cKind {w : World} (hT : TabC w) (x : Bs) : Calls Tryz.prog 222 #[sV x] w fun r w' => r = .returned (.int .i64 (kindB x)) ∧ Turned [] w w' := by
  have HT : Hid (TabC w) := hT
  clear hT
  go_enter Tryz.func222, Tryz.ntmps222
  go_wp2_with (refine wpList_load_mid rfl 182 (.global 1) rfl 1 0 rfl tabV (.array 20 181) HT.out.at_ (by kernel_rfl) rfl (by kernel_rfl) ?_)
  generalize hA : tabV.toArray = A
  have HA : Hid (tabV.toArray = A) := hA
  clear hA
  go_loopg [6] 20 (fun g v wr => Hid (∃ i : Nat, v = .int .i64 i ∧ i + g = 20 ∧ kindG (callT.drop i) i x = kindB x ∧ Turned [] w wr))
  case atStart => exact ⟨0, rfl, rfl, rfl, Turned.refl _ _⟩
  case round =>
    obtain ⟨i, rfl, hi, hk, ht⟩ := hrel.out
    clear hrel
    have HK : Hid _ := hk
    have HTu : Hid _ := ht
    clear hk ht
    by_cases h20 : i < 20
    · obtain ⟨⟨wd, n, b⟩, hd, -, hx⟩ := idx_row h20
      rw [HA.out] at hx
      have hd' : Hid _ := hd
      clear hd
      obtain ⟨g, rfl⟩ : ∃ g, gk = g + 1 := ⟨gk - 1, by omega⟩
      by_cases h0 : 0 < i
      · by_cases he : wd = x
        · subst he
          have hE : Hid (kindB wd = i) := by rw [Hid, ← HK.out, hd'.out, kindG, if_pos ⟨h0, rfl⟩]
          clear HK
          go_wp2
          go_ret
          rw [hE.out]
          exact ⟨rfl, HTu.out.trans ((Turned.refl _ _).alloc _)⟩
        · have hE : Hid (kindG (callT.drop (i + 1)) (i + 1) x = kindB x) := by rw [Hid, ← HK.out, hd'.out, kindG, if_neg (by rintro ⟨-, e⟩; exact he e)]
          have he1 : (wd == x) = false := by simpa using he
          clear HK
          go_wp2
          go_roundg g
          case rel => exact ⟨i + 1, by simp, by omega, hE.out, HTu.out.trans ((Turned.refl _ _).alloc _)⟩
          · omega
      · have hE : Hid (kindG (callT.drop (i + 1)) (i + 1) x = kindB x) := by rw [Hid, ← HK.out, hd'.out, kindG, if_neg (by rintro ⟨e, -⟩; exact h0 e)]
        clear HK
        go_wp2
        go_roundg g
        case rel => exact ⟨i + 1, by simp, by omega, hE.out, HTu.out.trans ((Turned.refl _ _).alloc _)⟩
        · omega
    · obtain rfl : i = 20 := by omega
      have hE : Hid (kindB x = 0) := by rw [Hid, ← HK.out]; rfl
      go_wp2
      go_ret
      rw [hE.out]
      exact ⟨rfl, HTu.out⟩
end Go.Proofs.YtbnpdfakniebnaaGreatDoor

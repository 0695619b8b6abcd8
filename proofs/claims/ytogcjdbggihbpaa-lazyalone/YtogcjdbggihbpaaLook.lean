/- A table's Get, and which of it are made. -/
import Derived.Test.YtogcjdbggihbpaaTable
import Derived.Test.YtogcjdbggihbpaaPush
namespace Go.Proofs.Ytogcjdbggihbpaa
open Go.RowKit Go.Conc Go.MuLone

theorem Try.info3 : (Try.prog.info? 3).map (fun i => (i.zero, i.size, i.bytes)) = some (some (.int .i64 0), 1, 8) := by kernel_rfl
def bN (b : Bool) : Int := if b then 1 else 0
/-- Those below k that are made. -/
def madeL (p : Nat → Bool) (k : Nat) : List Value := ((List.range k).filter p).map fun (i : Nat) => .int .i64 (i : Int)
theorem madeL_yes {p : Nat → Bool} {k : Nat} (h : p k = true) : madeL p (k + 1) = madeL p k ++ [.int .i64 k] := by simp [madeL, List.range_succ, List.filter_append, h]
theorem madeL_no {p : Nat → Bool} {k : Nat} (h : p k = false) : madeL p (k + 1) = madeL p k := by simp [madeL, List.range_succ, List.filter_append, h]
theorem madeL_le (p : Nat → Bool) (k : Nat) : (madeL p k).length ≤ k := by
  have := List.length_filter_le p (List.range k)
  simp only [madeL, List.length_map, List.length_range] at this ⊢
  exact this
theorem own_below {w w' : World} {B e size n : Nat} {v : Value} {xs : List Value} (h : w.ownsRow B e size v n xs) (hb : Below w.heap.size w w') : w'.ownsRow B e size v n xs :=
  h.kept (row := none) ⟨hb.os, hb.tape, hb.output, hb.size, fun k hk _ => hb.block k hk⟩ (by cases hv : v.ownBlock <;> simp)

theorem own_form {w : World} {B e n : Nat} {v : Value} {xs : List Value} (h : w.ownsRow B e 1 v n xs) : ∃ ao cap, v = .slice ao n cap := by
  rcases h.2 with ⟨rfl, rfl⟩ | ⟨g, cap, _, rfl, _⟩
  · exact ⟨_, _, rfl⟩
  · exact ⟨_, _, rfl⟩
theorem cTBad (w : World) {tb g n : Nat} {i : Int} (ht : w.heap[tb]? = some (.cells #[.slice (some ⟨g, 0, none⟩) n n] 95 (0, 0))) (hi : i < 0 ∨ (n : Int) ≤ i) :
    Calls Try.prog 14 #[.pointer (some ⟨tb, 0, none⟩), .pointer none, .int .i64 i] w fun e w' => e = .returned (.tuple #[.int .i64 0, .int .i64 71]) ∧ w' = w := by
  have c0 := cell_at ht 0
  simp at c0
  clear ht
  rcases (by omega : i < 0 ∨ (¬ i < 0 ∧ (n : Int) ≤ i)) with h | ⟨h, h2⟩
  · go_enter Try.func14, Try.ntmps14
    go_wp2_with (go_at_call 35; refine (cStep _).mono ?_; rintro e w' ⟨rfl, rfl⟩)
    go_ret2
    exact ⟨rfl, rfl⟩
  · go_enter Try.func14, Try.ntmps14
    go_wp2_with (go_at_call 35; refine (cStep _).mono ?_; rintro e w' ⟨rfl, rfl⟩)
    go_ret2
    exact ⟨rfl, rfl⟩
theorem cTGet {w : World} {tb g n k b : Nat} {u v : Int} {R : World → Prop} (ht : w.heap[tb]? = some (.cells #[.slice (some ⟨g, 0, none⟩) n n] 95 (0, 0))) (hk : k < n) (hg : w.cell? ⟨g, k, none⟩ = some (.pointer (some ⟨b, 0, none⟩)))
    (h : Calls Try.prog 11 #[.pointer (some ⟨b, 0, none⟩), .pointer none] w fun e w' => e = .returned (.tuple #[.int .i64 u, .int .i64 v]) ∧ R w') :
    Calls Try.prog 14 #[.pointer (some ⟨tb, 0, none⟩), .pointer none, .int .i64 k] w fun e w' => e = .returned (.tuple #[.int .i64 u, .int .i64 v]) ∧ R w' := by
  have c0 := cell_at ht 0
  simp at c0
  clear ht
  go_enter Try.func14, Try.ntmps14
  go_wp2_with (go_at_call 11; refine h.mono ?_; rintro e w' ⟨rfl, hR⟩)
  go_ret2
  exact ⟨rfl, hR⟩
set_option maxHeartbeats 1600000 in
theorem cLook {w : World} {tb g n : Nat} {T : Nat → Nat} {p : Nat → Bool} (ht : w.heap[tb]? = some (.cells #[.slice (some ⟨g, 0, none⟩) n n] 95 (0, 0))) (hg : ∀ k, k < n → w.cell? ⟨g, k, none⟩ = some (.pointer (some ⟨T k, 0, none⟩)))
    (hO : ∀ k, k < n → ∃ d m fv v e, w.heap[T k]? = some (onceObj d m fv (bN (p k)) v e)) (hn : n ≤ 1000) :
    Calls Try.prog 41 #[.pointer (some ⟨tb, 0, none⟩)] w fun e w' => ∃ v, e = .returned v ∧ w'.ownsRow w.heap.size 3 1 v (madeL p n).length (madeL p n) ∧ Below w.heap.size w w' := by
  have c0 := cell_at ht 0
  simp at c0
  have HG : Hid _ := hg
  have HO : Hid _ := hO
  clear ht hg hO
  go_enter Try.func41, Try.ntmps41
  go_wp2
  go_loopw [3, 4, 5, 11] (fun m _ _ i wx => ∃ k : Nat, k ≤ n ∧ i = .int .i64 k ∧ Hid (wx.ownsRow w.heap.size 3 1 m (madeL p k).length (madeL p k) ∧ Below w.heap.size w wx)) (fun _ _ _ i _ => n - (intOf i).toNat)
  case atStart => exact ⟨0, Nat.zero_le _, rfl, ⟨World.ownsRow_nil _ _ _ _, Below.refl _ _⟩⟩
  case round =>
    obtain ⟨k, hk, rfl, HI⟩ := hrel
    by_cases hkn : k < n
    · have cg := HG.out k hkn
      have hgl := World.block_lt_of_cell? w _ cg
      have cgr := (HI.out.2.cell (p := ⟨g, k, none⟩) hgl).trans cg
      obtain ⟨d, m, fv, v, e, ho⟩ := HO.out k hkn
      have hTl := lt_of_heap ho
      have hor := (HI.out.2.block _ hTl).trans ho
      have c4 := cell_at hor 4
      have hsz := HI.out.2.size
      simp at c4
      clear cg ho hor
      cases hp : p k with
      | false =>
        rw [hp] at c4
        have c4' : wr.cell? ⟨T k, 4, none⟩ = some (.int .u32 0) := c4
        clear c4
        go_wp2_with (go_at_call 40; refine (cLoad c4').mono ?_; rintro e w' ⟨rfl, rfl⟩)
        go_roundw
        case rel => exact ⟨k + 1, by omega, by go_num, by rw [madeL_no hp]; exact HI.out⟩
        case measure => simp [intOf]; omega
      | true =>
        rw [hp] at c4
        have c4' : wr.cell? ⟨T k, 4, none⟩ = some (.int .u32 1) := c4
        clear c4
        have hl := madeL_le p k
        go_wp2_with (first
          | (go_at_call 40; refine (cLoad c4').mono ?_; rintro e w' ⟨rfl, rfl⟩)
          | (at_builtin; refine wpList_push rfl _ _ 58 rfl w.heap.size 3 (.int .i64 0) 8 Try.underlying58 Try.info3 rfl u3 _ _ rfl (HI.out.1.alloc _) ⟨_, 0, none⟩ 1 (.int .i64 k) rfl (by simp) rfl (by unfold maxLen; omega) (by omega) (by simp; omega) ?_; intro v' w' hown hgr))
        exact ⟨⟨k + 1, by omega, by go_num, by rw [madeL_yes hp, List.length_append]; exact hown, (HI.out.2.alloc hsz _).grown hgr.1 (by simp; omega) (fun j hj => (HI.out.1.lt j hj).1)⟩, by simp [intOf]; omega⟩
    · have : k = n := by omega
      subst this
      go_wp2
      go_ret
      exact ⟨_, rfl, HI.out⟩
set_option maxHeartbeats 1600000 in
theorem cMade {w : World} {tb g n : Nat} {T : Nat → Nat} {p : Nat → Bool} (ht : w.heap[tb]? = some (.cells #[.slice (some ⟨g, 0, none⟩) n n] 95 (0, 0))) (hg : ∀ k, k < n → w.cell? ⟨g, k, none⟩ = some (.pointer (some ⟨T k, 0, none⟩)))
    (hO : ∀ k, k < n → ∃ d m fv v e, w.heap[T k]? = some (onceObj d m fv (bN (p k)) v e)) (hn : n ≤ 1000) :
    Calls Try.prog 17 #[.pointer (some ⟨tb, 0, none⟩), .pointer none] w fun e w' => ∃ v, e = .returned v ∧ w'.ownsRow w.heap.size 3 1 v (madeL p n).length (madeL p n) ∧ Below w.heap.size w w' := by
  have H1 := cLook ht hg hO hn
  have H2 : Hid (∀ w1, Below w.heap.size w w1 → Calls Try.prog 41 #[.pointer (some ⟨tb, 0, none⟩)] w1 fun e w' => ∃ v, e = .returned v ∧ w'.ownsRow w1.heap.size 3 1 v (madeL p n).length (madeL p n) ∧ Below w1.heap.size w1 w') := fun w1 h1 =>
    cLook ((h1.block _ (lt_of_heap ht)).trans ht) (fun k hk => (h1.cell (p := ⟨g, k, none⟩) (World.block_lt_of_cell? w _ (hg k hk))).trans (hg k hk)) (fun k hk => by
      obtain ⟨d, m, fv, v, e, h⟩ := hO k hk
      exact ⟨d, m, fv, v, e, (h1.block _ (lt_of_heap h)).trans h⟩) hn
  clear ht hg hO
  have hl := madeL_le p n
  go_enter Try.func17, Try.ntmps17
  go_wp2_with (first
    | (go_at_call 35; refine (cStep _).mono ?_; rintro e w' ⟨rfl, rfl⟩)
    | (go_at_call 41; refine H1.mono ?_; rintro e w1 ⟨v1, rfl, hown, hB⟩; obtain ⟨ao, cap, rfl⟩ := own_form hown))
  have HI : Hid (World.ownsRow w1 _ 3 1 (.slice ao (madeL p n).length cap) (madeL p n).length (madeL p n)) := hown
  clear hown H1
  go_loopw [5, 6] (fun m _ wx => m = .slice ao (madeL p n).length cap ∧ wx = w1) (fun _ _ _ => 0)
  case atStart => exact ⟨rfl, rfl⟩
  case round =>
    obtain ⟨rfl, rfl⟩ := hrel
    go_wp2_with (go_at_call 41; refine (H2.out _ hB).mono ?_; rintro e w2 ⟨v2, rfl, hown2, hB2⟩; obtain ⟨ao2, cap2, rfl⟩ := own_form hown2)
    go_ret
    exact ⟨_, rfl, own_below HI.out hB2, hB.trans (hB2.mono hB.size)⟩
end Go.Proofs.Ytogcjdbggihbpaa

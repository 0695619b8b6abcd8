/- Package clock, alone: Least, Leases, Holds by contract. -/
import Derived.Test.YtibpgoiiohmeiaaClkB
import Derived.Deep.QuietTactic
import Derived.BigQuiet
namespace Go.Proofs.Ytibpgoiiohmeiaa
open Go.RowKit
/-- The least of now and the stamps of the first k leases that are held. -/
def leastV (now : Int) (f : Nat → Int) : Nat → Int
  | 0 => now
  | k + 1 => if f k = 0 then leastV now f k else min (leastV now f k) (f k - 1)
theorem least_bd {now : Int} {f : Nat → Int} {n : Nat} (h0 : 0 ≤ now) (h1 : now ≤ 1000000) (hf : ∀ j, j < n → 0 ≤ f j ∧ f j ≤ 1000001) : ∀ k, k ≤ n → 0 ≤ leastV now f k ∧ leastV now f k ≤ 1000000
  | 0, _ => ⟨h0, h1⟩
  | k + 1, h => by
    have ih := least_bd h0 h1 hf k (by omega)
    have := hf k (by omega)
    unfold leastV
    split
    · exact ih
    · omega
abbrev intsObj (f : Nat → Int) (n : Nat) : Obj := .cells ((List.range n).map fun k => Value.int .i64 (f k)).toArray 3 (0, 0)
theorem ints_cell {w : World} {nb n : Nat} {f : Nat → Int} (h : w.heap[nb]? = some (intsObj f n)) {k : Nat} (hk : k < n) : w.cell? ⟨nb, k, none⟩ = some (.int .i64 (f k)) := by
  rw [cell_at h, List.getElem?_toArray, List.getElem?_map, List.getElem?_range (by omega)]; rfl
theorem ints_put {w : World} {nb n : Nat} {f : Nat → Int} (h : w.heap[nb]? = some (intsObj f n)) (k : Nat) (v : Int) : (w.setCell ⟨nb, k, none⟩ (.int .i64 v)).heap[nb]? = some (intsObj (upd f k v) n) := by
  rw [blk_set h]
  congr 2
  apply Array.ext
  · simp
  · intro i h1 h2
    simp only [List.size_toArray, List.length_map, List.length_range] at h2
    by_cases e : i = k
    · subst e; simp [upd]
    · have e' : ¬ k = i := fun x => e x.symm
      simp [upd, e, e']
theorem infoInt : (Try.prog.info? 3).map (fun i => (i.zero, i.size, i.bytes)) = some (some (.int .i64 0), 1, 8) := by kernel_rfl
theorem undInts : Try.prog.underlying 22 = some (.slice 3) := by kernel_rfl
theorem made_ints (n : Nat) : (.cells (madeCells #[.int .i64 0] n) 3 : Obj) = intsObj (fun _ => 0) n := by
  unfold intsObj
  congr 1
  apply Array.ext
  · simp [madeCells]
  · intro i h1 h2
    simp [madeCells, Nat.mod_one]
theorem run_makeInts (n : Nat) (h : n ≤ 1000000) (w : World) :
    (Instr.makeSlice 22 (.int .i64 n) (.int .i64 n)).run Try.prog w = .ok (.slice (some ⟨w.heap.size, 0, none⟩) n n) (w.alloc (intsObj (fun _ => 0) n)) := by
  rw [← made_ints]
  exact run_make_row' 22 3 _ 8 undInts infoInt rfl .i64 .i64 n (by omega) (by omega) w
section
variable {w : World} {b lb n cap : Nat} {E : Nat → Nat} {now : Int} {f : Nat → Int}
set_option maxHeartbeats 800000 in
theorem cLeast (H : ClockAt w b lb n cap E now f) (hn : n ≤ 64) (h0 : 0 ≤ now) (h1 : now ≤ 1000000) (hf : ∀ j, j < n → 0 ≤ f j ∧ f j ≤ 1000001) :
    Calls Try.prog 9 #[.pointer (some ⟨b, 0, none⟩), .pointer none] w fun e w' => e = .returned (.int .i64 (leastV now f n)) ∧ w' = w := by
  have c1 := H.cellRow
  have HN := cNow H.obj
  have HH : Hid _ := H
  have HF : Hid (∀ j, j < n → 0 ≤ f j ∧ f j ≤ 1000001) := hf
  have HB : Hid (∀ k, k ≤ n → 0 ≤ leastV now f k ∧ leastV now f k ≤ 1000000) := least_bd h0 h1 hf
  clear H hf
  go_enter Try.func9, Try.ntmps9
  go_wp2_with (go_at_call 8; refine HN.mono ?_; rintro e w' ⟨rfl, hw⟩; obtain rfl := hw.symm)
  clear HN
  go_loop [5, 17] (fun m i => ∃ k : Nat, k ≤ n ∧ i = .int .i64 k ∧ m = .int .i64 (leastV now f k)) (fun _ i => n - (intOf i).toNat)
  case atStart => exact ⟨0, Nat.zero_le _, rfl, rfl⟩
  case round =>
    obtain ⟨k, hk, rfl, rfl⟩ := hrel
    have hlb := HB.out k hk
    by_cases hlt : k < n
    · have hkn : (k : Int) < n := by omega
      have ck := HH.out.cellAt hlt
      have cl := HH.out.cellLease hlt
      have hfk := HF.out k hlt
      have HV : Hid (leastV now f (k + 1) = if f k = 0 then leastV now f k else min (leastV now f k) (f k - 1)) := rfl
      generalize leastV now f k = L at *
      generalize hfx : f k = x at *
      clear hfx
      by_cases hz : x = 0
      · have hz' : (x != 0) = false := by simp [hz]
        have HZ : Hid (x = 0) := hz
        clear hz
        go_wp2_with (first
          | (go_at_call 15; refine (cStep _).mono ?_; rintro e w' ⟨rfl, rfl⟩)
          | (go_at_call 17; refine (cALoad cl).mono ?_; rintro e w' ⟨rfl, rfl⟩))
        go_round
        case rel => exact ⟨k + 1, by omega, by go_num, by rw [HV.out, if_pos HZ.out]⟩
        case measure => simp [intOf]; omega
      · have hz' : (x != 0) = true := by simp [hz]
        have HZ : Hid (¬ x = 0) := hz
        clear hz
        go_wp2_with (first
          | (go_at_call 15; refine (cStep _).mono ?_; rintro e w' ⟨rfl, rfl⟩)
          | (go_at_call 17; refine (cALoad cl).mono ?_; rintro e w' ⟨rfl, rfl⟩))
        all_goals
          go_round
          case rel => exact ⟨k + 1, by omega, by go_num, by rw [HV.out, if_neg HZ.out]; congr 1; omega⟩
          case measure => simp [intOf]; omega
    · have e : k = n := by omega
      subst e
      have hkn : ¬ (k : Int) < k := by omega
      go_wp2
      go_ret
      exact ⟨rfl, rfl⟩
/-- What Leases has laid when lease k is next. -/
def fTo (f : Nat → Int) (k j : Nat) : Int := if j < k then f j else 0
theorem fTo_next (f : Nat → Int) (k : Nat) : upd (fTo f k) k (f k) = fTo f (k + 1) := by
  funext j
  unfold upd fTo
  by_cases e : j = k
  · subst e; simp
  · rw [if_neg e]
    by_cases c : j < k
    · rw [if_pos c, if_pos (by omega)]
    · rw [if_neg c, if_neg (by omega)]
theorem ints_congr {f g : Nat → Int} {n : Nat} (h : ∀ k, k < n → f k = g k) : intsObj f n = intsObj g n := by
  unfold intsObj
  congr 2
  apply List.map_congr_left
  intro k hk
  rw [h k (List.mem_range.1 hk)]
set_option maxHeartbeats 1600000 in
theorem cLeases (H : ClockAt w b lb n cap E now f) (hn : n ≤ 64) :
    Calls Try.prog 11 #[.pointer (some ⟨b, 0, none⟩)] w fun e w' => e = .returned (.slice (some ⟨w.heap.size, 0, none⟩) n n) ∧ Turned [] w w' ∧ w'.heap[w.heap.size]? = some (intsObj f n) := by
  have c1 := H.cellRow
  have hmk := run_makeInts n (by omega)
  have hlb := lt_of_heap H.obj
  have HH : Hid _ := H
  have HS : Hid (Turned [] w (w.alloc (intsObj (fun _ => 0) n)) ∧ (w.alloc (intsObj (fun _ => 0) n)).heap[w.heap.size]? = some (intsObj (fTo f 0) n)) := ⟨(Turned.refl _ _).alloc _, (blk_new w _).trans (by rw [ints_congr (g := fTo f 0)]; intro k _; simp [fTo])⟩
  clear H
  go_enter Try.func11, Try.ntmps11
  go_wp2
  go_loopw [17] (fun i wx => ∃ k : Nat, k ≤ n ∧ i = .int .i64 k ∧ Hid (Turned [] w wx ∧ wx.heap[w.heap.size]? = some (intsObj (fTo f k) n))) (fun i _ => n - (intOf i).toNat)
  case atStart => exact ⟨0, Nat.zero_le _, rfl, HS⟩
  case round =>
    obtain ⟨k, hk, rfl, HT⟩ := hrel
    clear hmk HS
    by_cases hlt : k < n
    · have hkn : (k : Int) < n := by omega
      have HX := HH.out.still HT.out.1
      have ck := HX.cellAt hlt
      have cl := HX.cellLease hlt
      have ci := ints_cell HT.out.2 hlt
      have zi := froz_at HT.out.2 k
      clear HX
      go_wp2_with (go_at_call 17; refine (cALoad cl).mono ?_; rintro e w' ⟨rfl, rfl⟩)
      exact ⟨⟨k + 1, by omega, by go_num, ⟨HT.out.1.set (.inr (Nat.le_refl _)) _ _, (ints_put HT.out.2 k _).trans (by rw [fTo_next])⟩⟩, by simp [intOf]; omega⟩
    · have e : k = n := by omega
      subst e
      have hkn : ¬ (k : Int) < k := by omega
      go_wp2
      go_ret
      exact ⟨rfl, HT.out.1, HT.out.2.trans (by rw [ints_congr (g := f)]; intro j hj; simp [fTo, hj])⟩
theorem turned_drewN (w : World) (n : Nat) : Turned [] w (w.drewN n) := ⟨rfl, rfl, rfl, Nat.le_refl _, fun _ _ _ => rfl⟩
theorem cHoldsNo (H : ClockAt w b lb n cap E now f) (l s : Int) (hl : l < 0 ∨ n ≤ l) :
    Calls Try.prog 7 #[.pointer (some ⟨b, 0, none⟩), .pointer none, .agg #[.int .i64 l, .int .i64 s]] w fun e w' => e = .returned (.bool false) ∧ Turned [] w w' := by
  have HH := cHasNo (H.still (w' := w.alloc (snapObj l s)) ((Turned.refl _ _).alloc _)).obj l hl
  clear H
  go_enter Try.func7, Try.ntmps7
  go_wp2_with (first
    | (go_at_call 15; refine (cStep _).mono ?_; rintro e w' ⟨rfl, hw⟩; obtain rfl := hw.symm)
    | (go_at_call 14; refine HH.mono ?_; rintro e w' ⟨rfl, hw⟩; obtain rfl := hw.symm))
  go_ret
  exact ⟨rfl, (Turned.refl _ _).alloc _⟩
set_option maxHeartbeats 1600000 in
theorem cHoldsIs (H : ClockAt w b lb n cap E now f) (l : Nat) (s : Int) (hl : l < n) (hf : 0 ≤ f l ∧ f l ≤ 1000001) (hs : f l - 1 = s) (h1 : 1 ≤ s) :
    Calls Try.prog 7 #[.pointer (some ⟨b, 0, none⟩), .pointer none, .agg #[.int .i64 l, .int .i64 s]] w fun e w' => e = .returned (.bool true) ∧ Turned [] w w' := by
  have H0 := H.still (w' := w.alloc (snapObj l s)) ((Turned.refl _ _).alloc _)
  have HH := cHasYes H0.obj l (by omega)
  have T0 : Hid (Turned [] w (w.alloc (snapObj l s))) := (Turned.refl _ _).alloc _
  obtain ⟨⟨s0, s1⟩, -⟩ := snap_cells (blk_new w (snapObj l s))
  have c1 := H0.cellRow
  have ck := H0.cellAt hl
  have cl := H0.cellLease hl
  have hlt : (l : Int) < n := by omega
  have hd : (f l - 1 == s) = true := by simp [hs]
  have hlb := lt_of_heap H.obj
  generalize f l = x at *
  have HS : Hid (x - 1 = s) := hs
  clear H H0 hs
  go_enter Try.func7, Try.ntmps7
  go_wp2_with (first
    | (go_at_call 15; refine (cStep _).mono ?_; rintro e w' ⟨rfl, hw⟩; obtain rfl := hw.symm)
    | (go_at_call 14; refine HH.mono ?_; rintro e w' ⟨rfl, hw⟩; obtain rfl := hw.symm))
  go_quiet ((go_at_call 17; exact Calls.quiet_of_same (cALoad cl)))
  go_wp2
  go_ret
  exact ⟨rfl, T0.out.trans (turned_drewN _ _)⟩
set_option maxHeartbeats 1600000 in
theorem cHoldsNot (H : ClockAt w b lb n cap E now f) (l : Nat) (s : Int) (hl : l < n) (hf : 0 ≤ f l ∧ f l ≤ 1000001) (hs : ¬ f l - 1 = s) :
    Calls Try.prog 7 #[.pointer (some ⟨b, 0, none⟩), .pointer none, .agg #[.int .i64 l, .int .i64 s]] w fun e w' => e = .returned (.bool false) ∧ Turned [] w w' := by
  have H0 := H.still (w' := w.alloc (snapObj l s)) ((Turned.refl _ _).alloc _)
  have HH := cHasYes H0.obj l (by omega)
  have T0 : Hid (Turned [] w (w.alloc (snapObj l s))) := (Turned.refl _ _).alloc _
  obtain ⟨⟨s0, s1⟩, -⟩ := snap_cells (blk_new w (snapObj l s))
  have c1 := H0.cellRow
  have ck := H0.cellAt hl
  have cl := H0.cellLease hl
  have hlt : (l : Int) < n := by omega
  have hd : (f l - 1 == s) = false := by simp [hs]
  have hlb := lt_of_heap H.obj
  generalize f l = x at *
  have HS : Hid (¬ x - 1 = s) := hs
  clear H H0 hs
  go_enter Try.func7, Try.ntmps7
  go_wp2_with (first
    | (go_at_call 15; refine (cStep _).mono ?_; rintro e w' ⟨rfl, hw⟩; obtain rfl := hw.symm)
    | (go_at_call 14; refine HH.mono ?_; rintro e w' ⟨rfl, hw⟩; obtain rfl := hw.symm))
  go_quiet ((go_at_call 17; exact Calls.quiet_of_same (cALoad cl)))
  go_wp2
  go_ret
  exact ⟨rfl, T0.out.trans (turned_drewN _ _)⟩
end
end Go.Proofs.Ytibpgoiiohmeiaa

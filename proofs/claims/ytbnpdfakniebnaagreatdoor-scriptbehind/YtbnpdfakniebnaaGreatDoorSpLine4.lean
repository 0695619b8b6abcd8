/-
  A line's methods by contract: numbers, pairs. (By the verifier; no statement.)
-/
import Derived.Test.YtbnpdfakniebnaaGreatDoorSpLine3
import Derived.Deep.LoopGhost
namespace Go.Proofs.YtbnpdfakniebnaaGreatDoor
open Go.RowKit
theorem Ln.next_ws (s : Ln) : s.next.2.ws.length ≤ s.ws.length ∧ (s.more = true → s.next.2.ws.length + 1 = s.ws.length) := by
  obtain ⟨ws, err⟩ := s
  unfold Ln.next Ln.more
  cases ws with
  | nil => simp only [Ln.fault]; split <;> simp
  | cons x r =>
    by_cases he : err = 0
    · simp [he]
    · simp [he]
theorem Ln.fault_ws (s : Ln) (e : Nat) : (s.fault e).ws = s.ws := by unfold Ln.fault; split <;> rfl
theorem Ln.number_ws (s : Ln) : s.number.2.ws.length ≤ s.ws.length ∧ (s.more = true → s.number.2.ws.length + 1 = s.ws.length) := by
  have := s.next_ws
  unfold Ln.number
  cases numB s.next.1 with
  | some n => exact this
  | none => simpa only [Ln.fault_ws] using this
theorem Ln.more_len {s : Ln} (h : s.more = true) : 0 < s.ws.length := by
  unfold Ln.more at h
  cases hw : s.ws with
  | nil => rw [hw] at h; simp at h
  | cons x r => simp
theorem Ln.numbersF_len : ∀ (g : Nat) (s : Ln), (Ln.numbersF g s).1.length ≤ g
  | 0, s => by simp [Ln.numbersF]
  | g + 1, s => by
    rw [Ln.numbersF]
    split
    · have := Ln.numbersF_len g s.number.2
      simp
      omega
    · simp
theorem Ln.pairsF_len : ∀ (g : Nat) (s : Ln), (Ln.pairsF g s).1.length ≤ g
  | 0, s => by simp [Ln.pairsF]
  | g + 1, s => by
    rw [Ln.pairsF]
    split
    · have := Ln.pairsF_len g s.number.2.number.2
      simp
      omega
    · simp
theorem Ln.numbers_len (s : Ln) : s.numbers.1.length ≤ s.ws.length := Ln.numbersF_len _ s
theorem Ln.pairs_len (s : Ln) : s.pairs.1.length ≤ s.ws.length := Ln.pairsF_len _ s
theorem blk_cells1 {α : Type} {enc : α → List Value} {w : World} {T : TypeId} {x : α} {cs : Array Value} (e : cs.toList = enc x) : VW enc (w.alloc (.cells cs T (0, 0))) (.slice (some ⟨w.heap.size, 0, none⟩) 1 1) [x] :=
  VW.block (R := [x]) (blk_new w _) fun i u hi => by
    rw [List.flatMap_cons, List.flatMap_nil, List.append_nil, ← e, Array.getElem?_toList] at hi
    exact hi
set_option maxRecDepth 100000 in
set_option maxHeartbeats 3200000 in
theorem cNumbers {w : World} {lb : Nat} {f : Bs} {s : Ln} (h : LnAt w lb f s) (hn : s.ws.length ≤ 1000000000) : Calls Tryz.prog 207 #[LP lb] w fun r w' => ∃ v, r = .returned v ∧ LR 3 1 encI w w' lb f s.numbers.2 v s.numbers.1 := by
  have H0 : Hid (LR 3 1 encI w w lb f s (.slice none 0 0) []) := ⟨h.ls, OW.nil _ _ _ _ _⟩
  clear h
  go_enter Tryz.func207, Tryz.ntmps207
  go_wp2
  go_loopg [3] (s.ws.length) (fun g v wr => Hid (∃ t R, LR 3 1 encI w wr lb f t v R ∧ R ++ (Ln.numbersF g t).1 = s.numbers.1 ∧ (Ln.numbersF g t).2 = s.numbers.2 ∧ t.ws.length ≤ g ∧ R.length + g = s.ws.length))
  case atStart => exact ⟨s, [], H0.out, rfl, rfl, Nat.le_refl _, by simp⟩
  case round =>
    obtain ⟨t, R, hLR, h1, h2, h3, h4⟩ := hrel.out
    clear hrel
    have HL : Hid _ := hLR
    cases hm : t.more with
    | true =>
      have hl := Ln.more_len hm
      obtain ⟨g, rfl⟩ : ∃ g, gk = g + 1 := ⟨gk - 1, by omega⟩
      have hw := t.number_ws.2 hm
      rw [Ln.numbersF, if_pos hm] at h1 h2
      have HC : Hid (LS wr wr lb f t) := hLR.ls.at_.ls
      have HE : Hid ((R ++ [t.number.1]) ++ (Ln.numbersF g t.number.2).1 = s.numbers.1 ∧ (Ln.numbersF g t.number.2).2 = s.numbers.2 ∧ t.number.2.ws.length ≤ g ∧ (R ++ [t.number.1]).length + g = s.ws.length) := ⟨by rw [← h1]; simp, h2, by omega, by simp; omega⟩
      have hcn := @cNumber wr wr lb f t HC.out
      have hRl : R.length ≤ 1000000000 := by omega
      clear h1 h2 h3 h4 hw hLR hl
      generalize t.number.1 = n at *
      generalize t.number.2 = t2 at *
      go_wp2_with (first | (go_at_call 155; refine (cMoreS HC.out).mono ?_; rintro r1 w1 ⟨rfl, rfl⟩; rw [hm]) | (go_at_call 153; refine hcn.mono ?_; rintro r1 w1 ⟨rfl, hL⟩; clear hcn; have HL1 : Hid _ := HL.out.line (by decide) hL; clear hL) | (at_builtin; refine wpList_apO elI enI rfl _ _ rfl rfl (HL1.out.row.still ((Turned.refl [] _).alloc _)) rfl (blk_cells1 (x := n) rfl) (by simp; omega) (by have := HL1.out.ls.tu.size; simp; omega) ?_; intro v2 w2 ho ht _; have HL2 : Hid _ := HL1.out.push (by decide) (by decide) ((Turned.refl [] _).alloc _) ho ht; clear ho ht))
      go_roundg g
      case rel => exact ⟨t2, _, HL2.out, HE.out⟩
      · omega
    | false =>
      have hC : Hid (LS wr wr lb f t) := hLR.ls.at_.ls
      have hN : Hid (R = s.numbers.1 ∧ t = s.numbers.2) := by
        cases gk with
        | zero => exact ⟨by rw [← h1]; simp [Ln.numbersF], by rw [← h2]; rfl⟩
        | succ g =>
          rw [Ln.numbersF, if_neg (by simp [hm])] at h1 h2
          exact ⟨by rw [← h1]; simp, h2⟩
      clear h1 h2 h3 h4 hLR
      go_wp2_with (first | (go_at_call 155; refine (cMoreS hC.out).mono ?_; rintro r1 w1 ⟨rfl, rfl⟩; rw [hm]))
      go_ret
      exact ⟨_, rfl, by rw [← hN.out.1, ← hN.out.2]; exact HL.out⟩
set_option maxRecDepth 100000 in
set_option maxHeartbeats 3200000 in
theorem cPairs {w : World} {lb : Nat} {f : Bs} {s : Ln} (h : LnAt w lb f s) (hn : s.ws.length ≤ 1000000000) : Calls Tryz.prog 205 #[LP lb] w fun r w' => ∃ v, r = .returned v ∧ LR 157 2 encP w w' lb f s.pairs.2 v s.pairs.1 ∧ (s.pairs.1 = [] → v = .slice none 0 0) := by
  have H0 : Hid (LR 157 2 encP w w lb f s (.slice none 0 0) []) := ⟨h.ls, OW.nil _ _ _ _ _⟩
  clear h
  go_enter Tryz.func205, Tryz.ntmps205
  go_wp2
  go_loopg [3] (s.ws.length) (fun g v wr => Hid (∃ t R, LR 157 2 encP w wr lb f t v R ∧ R ++ (Ln.pairsF g t).1 = s.pairs.1 ∧ (Ln.pairsF g t).2 = s.pairs.2 ∧ t.ws.length ≤ g ∧ R.length + g = s.ws.length ∧ (R = [] → v = .slice none 0 0)))
  case atStart => exact ⟨s, [], H0.out, rfl, rfl, Nat.le_refl _, by simp, fun _ => rfl⟩
  case round =>
    obtain ⟨t, R, hLR, h1, h2, h3, h4, h5⟩ := hrel.out
    clear hrel
    have H5 : Hid _ := h5
    clear h5
    have HL : Hid _ := hLR
    cases hm : t.more with
    | true =>
      have hl := Ln.more_len hm
      obtain ⟨g, rfl⟩ : ∃ g, gk = g + 1 := ⟨gk - 1, by omega⟩
      have hw := t.number_ws.2 hm
      have hw2 := t.number.2.number_ws.1
      rw [Ln.pairsF, if_pos hm] at h1 h2
      have HC : Hid (LS wr wr lb f t) := hLR.ls.at_.ls
      have HE : Hid ((R ++ [(t.number.1, t.number.2.number.1)]) ++ (Ln.pairsF g t.number.2.number.2).1 = s.pairs.1 ∧ (Ln.pairsF g t.number.2.number.2).2 = s.pairs.2 ∧ t.number.2.number.2.ws.length ≤ g ∧ (R ++ [(t.number.1, t.number.2.number.1)]).length + g = s.ws.length) := ⟨by rw [← h1]; simp, h2, by omega, by simp; omega⟩
      have hcn := @cNumber wr wr lb f t HC.out
      have hRl : R.length ≤ 1000000000 := by omega
      have hcn2 := fun w1 (hL : LS wr w1 lb f t.number.2) => @cNumber wr w1 lb f t.number.2 hL
      clear h1 h2 h3 h4 hw hw2 hLR hl
      generalize t.number.1 = n at *
      generalize t.number.2 = t2 at *
      generalize t2.number.1 = m at *
      generalize t2.number.2 = t3 at *
      go_wp2_with (first | (go_at_call 155; refine (cMoreS HC.out).mono ?_; rintro r1 w1 ⟨rfl, rfl⟩; rw [hm]) | (go_at_call 153; refine hcn.mono ?_; rintro r1 w1 ⟨rfl, hL⟩; clear hcn) | (go_at_call 153; refine (hcn2 _ hL).mono ?_; rintro r1 w3 ⟨rfl, hL2⟩; clear hcn2 hL; have HL1 : Hid _ := HL.out.line (by decide) hL2; clear hL2) | (at_builtin; refine wpList_apO elP enP rfl _ _ rfl rfl (HL1.out.row.still ((Turned.refl [] _).alloc _)) rfl (blk_cells1 (x := (n, m)) rfl) (by simp; omega) (by have := HL1.out.ls.tu.size; simp; omega) ?_; intro v2 w2 ho ht _; have HL2 : Hid _ := HL1.out.push (by decide) (by decide) ((Turned.refl [] _).alloc _) ho ht; clear ho ht))
      go_roundg g
      case rel => exact ⟨t3, _, HL2.out, HE.out.1, HE.out.2.1, HE.out.2.2.1, HE.out.2.2.2, fun h => by simp at h⟩
      · omega
    | false =>
      have hC : Hid (LS wr wr lb f t) := hLR.ls.at_.ls
      have hN : Hid (R = s.pairs.1 ∧ t = s.pairs.2) := by
        cases gk with
        | zero => exact ⟨by rw [← h1]; simp [Ln.pairsF], by rw [← h2]; rfl⟩
        | succ g =>
          rw [Ln.pairsF, if_neg (by simp [hm])] at h1 h2
          exact ⟨by rw [← h1]; simp, h2⟩
      clear h1 h2 h3 h4 hLR
      go_wp2_with (first | (go_at_call 155; refine (cMoreS hC.out).mono ?_; rintro r1 w1 ⟨rfl, rfl⟩; rw [hm]))
      go_ret
      exact ⟨_, rfl, by rw [← hN.out.1, ← hN.out.2]; exact HL.out, by rw [← hN.out.1]; exact H5.out⟩
end Go.Proofs.YtbnpdfakniebnaaGreatDoor

/-
  The walk of TurnFair.
-/
import Derived.Test.YtlbekopcaifijaaDuo
import Derived.Test.YtlbekopcaifijaaKnown
import Derived.Test.YtlbekopcaifijaaFairMath
namespace Go.Proofs.Ytlbekopcaifijaa
open Go.RowKit
/-- One order, in memory that is new since W. -/
structure Solo (W w : World) (bo go : Nat) (ts : List Int) (last : Int) : Prop where
  below : Below W.heap.size W w
  o : Ord 39 w bo go ts (last + 1)
  newO : W.heap.size ≤ bo
theorem Solo.size {W w : World} {bo go : Nat} {ts : List Int} {last : Int} (h : Solo W w bo go ts last) : W.heap.size ≤ w.heap.size := h.below.size
theorem Solo.keepB {W w w' : World} {bo go : Nat} {ts : List Int} {last : Int} (h : Solo W w bo go ts last) (k : Below w.heap.size w w') : Solo W w' bo go ts last :=
  ⟨h.below.trans (k.mono h.size), h.o.keepB k, h.newO⟩
/-- A pick, when nobody is ready. -/
theorem solo_none {W w wa : World} {bo go n lc : Nat} {ts : List Int} {last : Int} {B : Nat → Bool} {la : Option Addr} (h : Solo W w bo go ts last) (ha : Below w.heap.size w wa) (hl : Vals wa la (bools B n)) (hn : n ≤ 20000) (hnil : rdyN B n = []) :
    Calls Try.prog 10 #[.pointer (some ⟨bo, 0, none⟩), .slice la n lc] wa fun e w' => e = .returned (.int .i64 (-1)) ∧ Solo W w' bo go ts last := by
  have h' := h.keepB ha
  refine (cPick wa bo go ts last h'.o la n lc B hl (by omega)).mono ?_
  rintro e w' ⟨rfl, h1, h2⟩
  rw [hnil] at h2 ⊢
  exact ⟨rfl, h1.below h'.below h'.newO h'.size, h2, h'.newO⟩
/-- A pick, when somebody is: who is picked is ready. -/
theorem solo_pick {W w wa : World} {bo go n lc : Nat} {ts : List Int} {last : Int} {B : Nat → Bool} {la : Option Addr} (h : Solo W w bo go ts last) (ha : Below w.heap.size w wa) (hl : Vals wa la (bools B n)) (hn : n ≤ 20000) (hne : rdyN B n ≠ []) (c : Nat) (hc : chosen (rdyN B n) ts last = c) :
    Calls Try.prog 10 #[.pointer (some ⟨bo, 0, none⟩), .slice la n lc] wa fun e w' => e = .returned (.int .i64 (c : Int)) ∧ Solo W w' bo go ts.tail c ∧ Only bo w w' := by
  subst hc
  have h' := h.keepB ha
  refine (cPick wa bo go ts last h'.o la n lc B hl (by omega)).mono ?_
  rintro e w' ⟨rfl, h1, h2⟩
  have e1 : pickV (rdyN B n) ts last = (chosen (rdyN B n) ts last : Int) := if_neg hne
  have e2 : tsAft (rdyN B n) ts = ts.tail := if_neg hne
  have e3 : lastAft (rdyN B n) ts last = (chosen (rdyN B n) ts last : Int) := if_neg hne
  rw [e2, e3] at h2
  exact ⟨by rw [e1], ⟨h1.below h'.below h'.newO h'.size, h2, h'.newO⟩, (Only.of ha).trans h1⟩
theorem solo_new {W w : World} (hW : Below W.heap.size W w) (la : Option Addr) (lc : Nat) (ts : List Int) (hl : Vals w la (ints ts)) (hlc : la = none → lc = 0) (hn : ts.length ≤ 20000) :
    Calls Try.prog 8 #[.slice la ts.length lc] w fun e w1 => ∃ bo go, e = .returned (.pointer (some ⟨bo, 0, none⟩)) ∧ Solo W w1 bo go ts (-1) := by
  have hWs := hW.size
  refine (cNew w la lc ts hl hlc (by omega)).mono ?_
  rintro e w1 ⟨bo, go, rfl, hbo, hgo, hO, hB⟩
  exact ⟨bo, go, rfl, hW.trans (hB.mono hWs), hO, by omega⟩
/-- One row, in a slice of its own. -/
theorem grid_one {w : World} {ra : Option Addr} {n rc : Nat} {B : Nat → Bool} (hr : Vals w ra (bools B n)) (hrc : ra = none → rc = 0) (hn : n ≤ 140737488355328) : Grid (w.alloc (.cells #[.slice ra n rc] 30)) (some ⟨w.heap.size, 0, none⟩) 1 (fun _ => ra) (fun _ => n) (fun _ => rc) (fun _ => B) := by
  refine ⟨fun _ => ⟨_, _, rfl, fun r hr => ?_⟩, fun r _ => hr.keepB ((Below.refl _ _).alloc (Nat.le_refl _) _), fun _ _ => hrc, fun _ _ => hn⟩
  obtain rfl : r = 0 := by omega
  have := cell_of_row (w.alloc (.cells #[.slice ra n rc] 30)) w.heap.size 0 _ 30 (0, 0) (heap_alloc_new w _)
  rw [Nat.zero_add, this]; rfl
theorem solo_left {W w : World} {bo go : Nat} {ts : List Int} {last : Int} (h : Solo W w bo go ts last) (m : Int) (hm : (ts.length : Int) = m) : Calls Try.prog 12 #[.pointer (some ⟨bo, 0, none⟩)] w fun e w' => e = .returned (.int .i64 m) ∧ w' = w := by
  subst hm
  exact cLeft w bo go ts _ h.o
theorem Solo.other {W w w' : World} {bo go r : Nat} {last : Int} (h : Solo W w bo go [] last) (k : Only r w w') (hr : W.heap.size ≤ r) (h1 : bo ≠ r) : Solo W w' bo go [] last :=
  ⟨k.below h.below hr h.size, h.o.keep k h1 (fun e => absurd rfl e), h.newO⟩
/-- What holds at the head of the loop that meets each one once. -/
structure Meet (W w : World) (bo go : Nat) (l : List Nat) (s i gm n : Nat) (last : Int) : Prop where
  solo : Solo W w bo go [] last
  next : nextV l last = ring l s i
  row : w.rowIs gm 4 n (fun x => .bool (metV l s i x))
  new : W.heap.size ≤ gm
  ne : bo ≠ gm
theorem meet_start {W w : World} {bo go : Nat} {l : List Nat} {s n : Nat} {last : Int} (h : Solo W w bo go [] last) (hs : nextV l last = ring l s 0) :
    Meet W (w.alloc (.cells (madeCells #[.bool false] n) 4)) bo go l s 0 w.heap.size n last :=
  ⟨h.keepB ((Below.refl _ _).alloc (Nat.le_refl _) _), hs, (World.rowIs_made w (.bool false) n 4).congr (fun i _ => by rw [met_zero]), h.size, by have := h.o.lt; omega⟩
theorem meet_picked {W w w' : World} {bo go : Nat} {l : List Nat} {s i gm n : Nat} {last : Int} (h : Meet W w bo go l s i gm n last) (k : Only bo w w') : w'.rowIs gm 4 n (fun x => .bool (metV l s i x)) :=
  h.row.of_block (k.block gm h.row.lt (fun e => h.ne e.symm))
theorem meet_step {W w w' : World} {bo go : Nat} {l : List Nat} {s i gm n : Nat} {last : Int} (hl : l ≠ []) (hs : l.Pairwise (· < ·)) (h : Meet W w bo go l s i gm n last) (k : Only bo w w') (h2 : Solo W w' bo go [] (ring l s i : Nat)) :
    Meet W (w'.setCell ⟨gm, ring l s i, none⟩ (.bool true)) bo go l s (i + 1) gm n (ring l s i : Nat) := by
  refine ⟨h2.other ((Only.refl _ _).set _ _) h.new h.ne, ring_next hl hs s i, ((meet_picked h k).set _ _).congr (fun x _ => ?_), h.new, h.ne⟩
  rw [met_succ]
  by_cases e : x = ring l s i
  · rw [if_pos e, if_pos e]
  · rw [if_neg e, if_neg e]
theorem drop_tail (ts : List Int) (k : Nat) (h : k < ts.length) : (((ts.drop k).tail.length : Nat) : Int) = (ts.length : Int) - k - 1 := by
  rw [List.tail_drop, List.length_drop]; omega
set_option maxRecDepth 100000 in
set_option maxHeartbeats 4000000 in
theorem wFair_in (W : World) (ta : Option Addr) (tc : Nat) (ts : List Int) (ht : Vals W ta (ints ts)) (htc : ta = none → tc = 0) (htn : ts.length ≤ 140737488355328)
    (ra : Option Addr) (n rc : Nat) (B : Nat → Bool) (hr : Vals W ra (bools B n)) (hrc : ra = none → rc = 0) (hn : n ≤ 140737488355328) (R : Int) (hsm : smallV ts.length 1 (fun _ => n) = true) (h0 : 0 ≤ R) (h20 : R ≤ 20) :
    Calls Try.prog 5 #[.slice ta ts.length tc, .slice ra n rc, .int .i64 R] W fun e w' => e = .returned (.bool true) ∧ Below W.heap.size W w' := by
  obtain ⟨htl, -, hnl⟩ := small_yes hsm
  replace hnl := hnl 0 (by omega)
  have hd1 : decide (R < 0) = false := decide_eq_false (by omega)
  have hd2 : decide (20 < R) = false := decide_eq_false (by omega)
  have HR : Hid (Vals W ra (bools B n)) := hr
  have HT : Hid (Vals W ta (ints ts)) := ht
  clear hr ht
  go_enter Try.func5, Try.ntmps5
  go_wp2_with (first
    | (go_at_call 6; refine (cKnown W).mono ?_; rintro e w1 ⟨rfl, hW1⟩)
    | (go_at_call 7; refine (cSmall _ ta ts.length tc _ 1 _ _ _ _ _ (grid_one (HR.out.keepB hW1) hrc hn) htn (by omega)).mono ?_; rintro e w' ⟨rfl, rfl⟩))
  have hW2 : Below W.heap.size W (w1.alloc (.cells #[.slice ra n rc] 30)) := hW1.alloc hW1.size _
  generalize w1.alloc (.cells #[.slice ra n rc] 30) = w2 at *
  clear hsm
  go_loop [7, 8] (fun c i => ∃ k : Nat, k ≤ n ∧ i = .int .i64 k ∧ c = .int .i64 (rdyN B k).length) (fun _ i => n - (intOf i).toNat)
  case atStart => exact ⟨0, Nat.zero_le _, rfl, rfl⟩
  case round =>
    obtain ⟨k, hk, rfl, rfl⟩ := hrel
    have hl := rdy_len B k
    by_cases hlt : k < n
    · obtain ⟨rb, ro, rfl, hc⟩ := (HR.out.keepB hW2).bool (by omega)
      have hck := hc k hlt
      cases hB : B k with
      | true =>
        rw [hB] at hck
        have L2 : Hid (rdyN B (k + 1) = rdyN B k ++ [k]) := rdy_yes hB
        clear hc hB
        go_wp2
        go_round
        case rel => exact ⟨k + 1, by omega, by go_num, by rw [L2.out, List.length_append]; go_num⟩
        case measure => simp [intOf]; omega
      | false =>
        rw [hB] at hck
        have L2 : Hid (rdyN B (k + 1) = rdyN B k) := rdy_no hB
        clear hc hB
        go_wp2
        go_round
        case rel => exact ⟨k + 1, by omega, by go_num, by rw [L2.out]⟩
        case measure => simp [intOf]; omega
    · obtain rfl : k = n := by omega
      go_wp2_with (first
        | (at_builtin; refine wpList_fresh rfl _ _ 22 rfl 3 (.int .i64 0) 8 Try.underlying22 Try.info3 rfl ta ts.length tc (ints ts) rfl rfl (ints_len ts) htc (HT.out.keepB hW2) (ints_one ts) (by unfold maxLen; omega) (by omega) ?_; intro v' w3 hF; obtain ⟨la, lc, hv', hlc, hl3, hlb⟩ := hF.vals; rw [ints_len] at hv'; subst hv'; have hW3 : Below W.heap.size W w3 := hW2.trans (hF.below.mono hW2.size))
        | (go_at_call 8; refine (solo_new hW3 la lc ts hl3 hlc htl).mono ?_; rintro e w4 ⟨bo, go, rfl, hS⟩))
      clear hF hl3 hlc hlb hW3 hW2
      by_cases hnil : rdyN B k = []
      · have hz : ((rdyN B k).length : Int) = 0 := by rw [hnil]; rfl
        have HN : Hid (rdyN B k = []) := hnil
        have HS : Hid (Solo W w4 bo go ts (-1)) := hS
        clear hnil hS
        rw [hz]
        clear hz
        go_loopw [10] (fun i wr => ∃ q : Nat, q ≤ ts.length ∧ i = .int .i64 q ∧ Hid (∃ last, Solo W wr bo go ts last)) (fun i _ => ts.length - (intOf i).toNat)
        case atStart => exact ⟨0, Nat.zero_le _, rfl, ⟨_, HS.out⟩⟩
        case round =>
          obtain ⟨q, hq, rfl, HQ⟩ := hrel
          by_cases hqt : q < ts.length
          · obtain ⟨last, hS⟩ := HQ.out
            have HV : Hid (Vals wr ra (bools B k)) := HR.out.keepB hS.below
            have HS2 : Hid (Solo W wr bo go ts last) := hS
            clear hS HS HQ
            go_wp2_with (first
              | (at_builtin; refine wpList_fresh rfl _ _ 30 rfl 4 (.bool false) 1 Try.underlying30 Try.info4 rfl ra k rc (bools B k) rfl rfl (bools_len _ _) hrc HV.out (bools_one _ _) (by unfold maxLen; omega) (by omega) ?_; intro v' wa hF; obtain ⟨la2, lc2, hv', hlc2, hl2, hlb2⟩ := hF.vals; rw [bools_len] at hv'; subst hv')
              | (go_at_call 10; refine (solo_none HS2.out hF.below hl2 hnl HN.out).mono ?_; rintro e w5 ⟨rfl, hS5⟩)
              | (go_at_call 12; refine (solo_left hS5 _ rfl).mono ?_; rintro e w' ⟨rfl, rfl⟩))
            go_roundw
            case rel => exact ⟨q + 1, by omega, by go_num, ⟨_, hS5⟩⟩
            case measure => simp [intOf]; omega
          · go_wp2
            go_ret
            obtain ⟨last, hS⟩ := HQ.out
            exact ⟨rfl, hS.below⟩
      · have HN : Hid (rdyN B k ≠ []) := hnil
        have hp : 0 < (rdyN B k).length := List.length_pos_iff.2 hnil
        have HP : Hid ((rdyN B k).Pairwise (· < ·)) := rdy_sorted B k
        have HM : Hid (∀ c, c ∈ rdyN B k → c < k ∧ B c = true) := fun c hc => rdy_mem.1 hc
        have HS : Hid (Solo W w4 bo go ts (-1)) := hS
        have HC : Hid (∀ (w : World) (la : Option Addr) (lc : Nat) (t : List Int) (last : Int) (wx : World), Solo W w bo go t last → Below w.heap.size w wx → Vals wx la (bools B k) → Calls Try.prog 10 #[.pointer (some ⟨bo, 0, none⟩), .slice la k lc] wx fun e w' => e = .returned (.int .i64 (chosen (rdyN B k) t last : Int)) ∧ Solo W w' bo go t.tail (chosen (rdyN B k) t last : Nat) ∧ Only bo w w') := fun w la lc t last wx h1 h2 h3 => solo_pick h1 h2 h3 hnl hnil _ rfl
        clear hnil hS
        have hlk : (rdyN B k).length ≤ k := hl
        have hk0 : 0 < k := by omega
        obtain ⟨rb, ro, rfl, hcr⟩ := HR.out.bool hk0
        have HCR : Hid (∀ c, c ∈ rdyN B k → ∀ wx, Below W.heap.size W wx → wx.cell? ⟨rb, ro + c, none⟩ = some (.bool true)) := fun c hc wx hb => by
          obtain ⟨h1, h2⟩ := HM.out c hc
          have := hcr c h1
          rw [h2] at this
          rw [hb.cell (p := ⟨rb, ro + c, none⟩) (World.block_lt_of_cell? W _ this)]; exact this
        clear hcr
        generalize rdyN B k = l at *
        have hneq : ((l.length : Int) == 0) = false := by rw [beq_eq_false_iff_ne]; omega
        go_loopw [10] (fun i wr => ∃ q : Nat, q ≤ ts.length ∧ i = .int .i64 q ∧ Hid (∃ last, Solo W wr bo go (ts.drop q) last)) (fun i _ => ts.length - (intOf i).toNat)
        case atStart => exact ⟨0, Nat.zero_le _, rfl, ⟨_, HS.out⟩⟩
        case round =>
          obtain ⟨q, hq, rfl, HQ⟩ := hrel
          by_cases hqt : q < ts.length
          · obtain ⟨last, hS⟩ := HQ.out
            have HV : Hid (Vals wr (some ⟨rb, ro, none⟩) (bools B k)) := HR.out.keepB hS.below
            have HS2 : Hid (Solo W wr bo go (ts.drop q) last) := hS
            have hcm : Hid (chosen l (ts.drop q) last ∈ l) := chosen_mem HN.out _ _
            have hck : chosen l (ts.drop q) last < k := (HM.out _ hcm.out).1
            have hX : Hid (∀ wx, Below W.heap.size W wx → wx.cell? ⟨rb, ro + chosen l (ts.drop q) last, none⟩ = some (.bool true)) := HCR.out _ hcm.out
            have hY : Hid (∀ (la : Option Addr) (lc : Nat) (wx : World), Below wr.heap.size wr wx → Vals wx la (bools B k) → Calls Try.prog 10 #[.pointer (some ⟨bo, 0, none⟩), .slice la k lc] wx fun e w' => e = .returned (.int .i64 (chosen l (ts.drop q) last : Int)) ∧ Solo W w' bo go (ts.drop q).tail (chosen l (ts.drop q) last : Nat) ∧ Only bo wr w') := fun la lc wx => HC.out wr la lc _ last wx hS
            have hT : Hid (ts.drop (q + 1) = (ts.drop q).tail) := by rw [Hid, List.tail_drop]
            have hL : Hid ((((ts.drop q).tail.length : Nat) : Int) = (ts.length : Int) - q - 1) := drop_tail ts q hqt
            clear hS HS HQ hcm
            generalize chosen l (ts.drop q) last = c at *
            go_wp2_with (first
              | (at_builtin; refine wpList_fresh rfl _ _ 30 rfl 4 (.bool false) 1 Try.underlying30 Try.info4 rfl (some ⟨rb, ro, none⟩) k rc (bools B k) rfl rfl (bools_len _ _) hrc HV.out (bools_one _ _) (by unfold maxLen; omega) (by omega) ?_; intro v' wa hF; obtain ⟨la2, lc2, hv', hlc2, hl2, hlb2⟩ := hF.vals; rw [bools_len] at hv'; subst hv')
              | (go_at_call 10; refine (hY.out la2 lc2 wa hF.below hl2).mono ?_; rintro e w5 ⟨rfl, hS5, hO5⟩; have hcell := hX.out w5 hS5.below)
              | (go_at_call 12; refine (solo_left hS5 _ hL.out).mono ?_; rintro e w' ⟨rfl, rfl⟩))
            go_roundw
            case rel => exact ⟨q + 1, by omega, by go_num, ⟨_, by rw [hT.out]; exact hS5⟩⟩
            case measure => simp [intOf]; omega
          · obtain rfl : q = ts.length := by omega
            have HQ2 : Hid (∃ last, Solo W wr bo go [] last) := by have := HQ.out; rw [List.drop_length] at this; exact this
            clear HQ HS
            go_wp2
            go_loopw [12] (fun i wx => ∃ j : Nat, (j : Int) ≤ R ∧ i = .int .i64 j ∧ Hid (∃ last, Solo W wx bo go [] last)) (fun i _ => (R - intOf i).toNat)
            case atStart => exact ⟨0, h0, rfl, HQ2⟩
            case round =>
              clear HQ2
              obtain ⟨j, hj, rfl, HJ⟩ := hrel
              by_cases hjR : (j : Int) < R
              · obtain ⟨last, hS⟩ := HJ.out
                obtain ⟨s, hs⟩ := ring_start HN.out last
                have HM0 : Hid (Meet W (wr.alloc (.cells (madeCells #[.bool false] k) 4)) bo go l s 0 wr.heap.size k last) := meet_start hS hs
                have hgm : Hid (wr.heap.size = wr.heap.size) := rfl
                have hmk := run_make_row' (P := Try.prog) 30 4 (.bool false) 1 Try.underlying30 Try.info4 rfl .i64 .i64 k (by omega) (by omega)
                clear hS hs HJ
                go_wp2
                clear hmk
                generalize wr.heap.size = gm at *
                go_loopw [14] (fun i wy => ∃ q : Nat, q ≤ l.length ∧ i = .int .i64 q ∧ Hid (∃ last, Meet W wy bo go l s q gm k last)) (fun i _ => l.length - (intOf i).toNat)
                case atStart => exact ⟨0, Nat.zero_le _, rfl, ⟨_, HM0.out⟩⟩
                case round =>
                  clear HM0
                  obtain ⟨q, hq, rfl, HQ⟩ := hrel
                  by_cases hql : q < l.length
                  · obtain ⟨last2, hMt⟩ := HQ.out
                    have HV : Hid (Vals wr (some ⟨rb, ro, none⟩) (bools B k)) := HR.out.keepB hMt.solo.below
                    have hcm : Hid (ring l s q ∈ l) := ring_mem HN.out s q
                    have hck : ring l s q < k := (HM.out _ hcm.out).1
                    have hX : Hid (∀ wx, Below W.heap.size W wx → wx.cell? ⟨rb, ro + ring l s q, none⟩ = some (.bool true)) := HCR.out _ hcm.out
                    have hnew : metV l s q (ring l s q) = false := met_new HN.out HP.out s hql
                    have hY : Hid (∀ (la : Option Addr) (lc : Nat) (wx : World), Below wr.heap.size wr wx → Vals wx la (bools B k) → Calls Try.prog 10 #[.pointer (some ⟨bo, 0, none⟩), .slice la k lc] wx fun e w' => e = .returned (.int .i64 (ring l s q : Int)) ∧ Solo W w' bo go [] (ring l s q : Nat) ∧ Only bo wr w') := fun la lc wx h1 h2 => by
                      have := HC.out wr la lc [] last2 wx hMt.solo h1 h2
                      have e : chosen l [] last2 = ring l s q := hMt.next
                      rw [e] at this
                      exact this
                    have hZ : Hid (∀ w', Only bo wr w' → w'.cell? ⟨gm, ring l s q, none⟩ = some (.bool false) ∧ w'.frozen? ⟨gm, ring l s q, none⟩ = false) := fun w' ho => by
                      have h1 := meet_picked hMt ho
                      have h2 := h1.cell hck
                      rw [hnew] at h2
                      exact ⟨h2, h1.frozen _⟩
                    have hW : Hid (∀ w', Only bo wr w' → Solo W w' bo go [] (ring l s q : Nat) → Meet W (w'.setCell ⟨gm, ring l s q, none⟩ (.bool true)) bo go l s (q + 1) gm k (ring l s q : Nat)) := fun w' h1 h2 => meet_step HN.out HP.out hMt h1 h2
                    clear hMt HQ hcm hnew
                    generalize ring l s q = c at *
                    go_wp2_with (first
                      | (at_builtin; refine wpList_fresh rfl _ _ 30 rfl 4 (.bool false) 1 Try.underlying30 Try.info4 rfl (some ⟨rb, ro, none⟩) k rc (bools B k) rfl rfl (bools_len _ _) hrc HV.out (bools_one _ _) (by unfold maxLen; omega) (by omega) ?_; intro v' wa hF; obtain ⟨la2, lc2, hv', hlc2, hl2, hlb2⟩ := hF.vals; rw [bools_len] at hv'; subst hv')
                      | (go_at_call 10; refine (hY.out la2 lc2 wa hF.below hl2).mono ?_; rintro e w5 ⟨rfl, hS5, hO5⟩; have hcell := hX.out w5 hS5.below; obtain ⟨hz1, hz2⟩ := hZ.out w5 hO5))
                    go_roundw
                    case rel => exact ⟨q + 1, by omega, by go_num, ⟨_, hW.out w5 hO5 hS5⟩⟩
                    case measure => simp [intOf]; omega
                  · obtain ⟨last2, hMt⟩ := HQ.out
                    have HS9 : Hid (Solo W wr bo go [] last2) := hMt.solo
                    clear HQ hMt
                    go_wp2
                    go_roundw
                    case rel => exact ⟨j + 1, by omega, by go_num, ⟨_, HS9.out⟩⟩
                    case measure => simp [intOf]; omega
              · go_wp2
                go_ret
                obtain ⟨last, hS⟩ := HJ.out
                exact ⟨rfl, hS.below⟩
theorem wFair (W : World) (ta : Option Addr) (tc : Nat) (ts : List Int) (ht : Vals W ta (ints ts)) (htc : ta = none → tc = 0) (htn : ts.length ≤ 140737488355328)
    (ra : Option Addr) (n rc : Nat) (B : Nat → Bool) (hr : Vals W ra (bools B n)) (hrc : ra = none → rc = 0) (hn : n ≤ 140737488355328) (R : Int) :
    Calls Try.prog 5 #[.slice ta ts.length tc, .slice ra n rc, .int .i64 R] W fun e w' => e = .returned (.bool true) ∧ Below W.heap.size W w' := by
  rcases (by cases hs : smallV ts.length 1 (fun _ => n) with | false => exact .inl rfl | true => exact .inr ⟨rfl, by omega⟩ : smallV ts.length 1 (fun _ => n) = false ∨ (smallV ts.length 1 (fun _ => n) = true ∧ (R < 0 ∨ (0 ≤ R ∧ 20 < R) ∨ (0 ≤ R ∧ R ≤ 20)))) with hs | ⟨hs, h | ⟨h, h'⟩ | ⟨h, h'⟩⟩
  · go_enter Try.func5, Try.ntmps5
    go_wp2_with (first
      | (go_at_call 6; refine (cKnown W).mono ?_; rintro e w1 ⟨rfl, hW1⟩)
      | (go_at_call 7; refine (cSmall _ ta ts.length tc _ 1 _ _ _ _ _ (grid_one (hr.keepB hW1) hrc hn) htn (by omega)).mono ?_; rintro e w' ⟨rfl, rfl⟩))
    go_ret
    exact ⟨rfl, hW1.alloc hW1.size _⟩
  · have hd : decide (R < 0) = true := decide_eq_true h
    go_enter Try.func5, Try.ntmps5
    go_wp2_with (first
      | (go_at_call 6; refine (cKnown W).mono ?_; rintro e w1 ⟨rfl, hW1⟩)
      | (go_at_call 7; refine (cSmall _ ta ts.length tc _ 1 _ _ _ _ _ (grid_one (hr.keepB hW1) hrc hn) htn (by omega)).mono ?_; rintro e w' ⟨rfl, rfl⟩))
    go_ret
    exact ⟨rfl, hW1.alloc hW1.size _⟩
  · have hd : decide (R < 0) = false := decide_eq_false (by omega)
    have hd2 : decide (20 < R) = true := decide_eq_true h'
    go_enter Try.func5, Try.ntmps5
    go_wp2_with (first
      | (go_at_call 6; refine (cKnown W).mono ?_; rintro e w1 ⟨rfl, hW1⟩)
      | (go_at_call 7; refine (cSmall _ ta ts.length tc _ 1 _ _ _ _ _ (grid_one (hr.keepB hW1) hrc hn) htn (by omega)).mono ?_; rintro e w' ⟨rfl, rfl⟩))
    go_ret
    exact ⟨rfl, hW1.alloc hW1.size _⟩
  · exact wFair_in W ta tc ts ht htc htn ra n rc B hr hrc hn R hs h h'
end Go.Proofs.Ytlbekopcaifijaa

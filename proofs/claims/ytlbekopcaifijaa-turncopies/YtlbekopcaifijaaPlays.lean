/-
  The walk of TurnPlays.
-/
import Derived.Test.YtlbekopcaifijaaDuo
import Derived.Test.YtlbekopcaifijaaKnown
import Derived.Deep.RegionWith
namespace Go.Proofs.Ytlbekopcaifijaa
open Go.RowKit
/-- Two News, one behind the other, over a copy that is lent and over the turns themselves. -/
theorem duo_new {W w : World} (hW : Below W.heap.size W w) (la : Option Addr) (lc : Nat) (ta : Option Addr) (tc : Nat) (ts : List Int) (hl : Vals w la (ints ts)) (hlc : la = none → lc = 0) (ht : Vals W ta (ints ts)) (htc : ta = none → tc = 0) (hn : ts.length ≤ 20000) :
    Calls Try.prog 8 #[.slice la ts.length lc] w fun e w1 => ∃ bo go, e = .returned (.pointer (some ⟨bo, 0, none⟩)) ∧
      Calls Try.prog 9 #[.slice ta ts.length tc] w1 fun e w2 => ∃ br gr, e = .returned (.pointer (some ⟨br, 0, none⟩)) ∧ Duo W w2 bo go br gr ts (-1) ∧ Below w.heap.size w w2 ∧ w.heap.size ≤ bo ∧ w.heap.size ≤ br ∧ (ts ≠ [] → w.heap.size ≤ go ∧ w.heap.size ≤ gr) := by
  have hWs := hW.size
  refine (cNew w la lc ts hl hlc (by omega)).mono ?_
  rintro e w1 ⟨bo, go, rfl, hbo, hgo, hO, hB⟩
  have hs1 := hB.size
  have hlt := hO.lt
  refine ⟨bo, go, rfl, ?_⟩
  have hW1 : Below W.heap.size W w1 := hW.trans (hB.mono hWs)
  refine (cNewR w1 ta tc ts (ht.keepB hW1) htc (by omega)).mono ?_
  rintro e w2 ⟨br, gr, rfl, hbr, hgr, hR, hB2⟩
  exact ⟨br, gr, rfl, ⟨hW1.trans (hB2.mono (by omega)), hO.keepB hB2, hR, by omega, by omega, by omega, fun e => ⟨by have := hgo e; omega, by have := hgr e; omega⟩⟩, hB.trans (hB2.mono hs1), hbo, by omega, fun e => ⟨(hgo e).1, by have := hgr e; omega⟩⟩
/-- What holds at the head of the loop that writes over what was lent. -/
structure Lent (W wr : World) (bo go br gr : Nat) (ts : List Int) (la : Option Addr) (k : Nat) : Prop where
  duo : Duo W wr bo go br gr ts (-1)
  row : ts ≠ [] → ∃ gl, la = some ⟨gl, 0, none⟩ ∧ OwnR wr 3 gl (ints ts) k ∧ W.heap.size ≤ gl ∧ bo ≠ gl ∧ br ≠ gl ∧ go ≠ gl ∧ gr ≠ gl
theorem lent_start {W w1 w2 w4 : World} {bo go br gr lc : Nat} {ts : List Int} {la : Option Addr} (hW1 : Below W.heap.size W w1) (hF : Fresh 3 w1 w2 (.slice la ts.length lc) (ints ts)) (hD : Duo W w4 bo go br gr ts (-1)) (hB : Below w2.heap.size w2 w4)
    (hbo : w2.heap.size ≤ bo) (hbr : w2.heap.size ≤ br) (hgg : ts ≠ [] → w2.heap.size ≤ go ∧ w2.heap.size ≤ gr) : Lent W w4 bo go br gr ts la 0 := by
  refine ⟨hD, fun hne => ?_⟩
  obtain ⟨gl, cap, e, hgl, ho⟩ := hF.own (by simpa [ints] using hne)
  injection e with e1 e2 e3
  have h1 := ho.lt
  have h2 := hW1.size
  have h3 := hgg hne
  exact ⟨gl, e1, ho.of_block (hB.block gl h1), by omega, by omega, by omega, by omega, by omega⟩
theorem lent_step {W w : World} {bo go br gr k gl : Nat} {ts : List Int} (h : Lent W w bo go br gr ts (some ⟨gl, 0, none⟩) k) (hk : k < ts.length) (n : Nat) (v : Value) : Lent W ((w.setCell ⟨gl, k, none⟩ v).drewN n) bo go br gr ts (some ⟨gl, 0, none⟩) (k + 1) := by
  obtain ⟨h1, h2⟩ := h
  have hne : ts ≠ [] := by intro e; subst e; simp at hk
  obtain ⟨gl', e, h3, h4, h5, h6, h7, h8⟩ := h2 hne
  cases e
  exact ⟨(h1.other ((Only.refl _ _).set k v) h4 h5 h6 (fun _ => ⟨h7, h8⟩)).keepB (below_drewN _ _ _), fun _ => ⟨gl, rfl, (h3.step v).of_block rfl, h4, h5, h6, h7, h8⟩⟩
/-- What holds at the head of the loop that turns over who was ready. -/
structure Flip (W w : World) (bo go br gr : Nat) (ts : List Int) (last : Int) (xs : List Value) (la : Option Addr) (k : Nat) : Prop where
  duo : Duo W w bo go br gr ts last
  row : xs ≠ [] → ∃ gl, la = some ⟨gl, 0, none⟩ ∧ OwnR w 4 gl xs k ∧ W.heap.size ≤ gl ∧ bo ≠ gl ∧ br ≠ gl ∧ (ts ≠ [] → go ≠ gl ∧ gr ≠ gl)
theorem flip_start {W w wa w2 : World} {bo go br gr lc n : Nat} {l : List Nat} {ts : List Int} {last : Int} {la : Option Addr} {xs : List Value} (hD : Duo W w bo go br gr ts last) (hF : Fresh 4 w wa (.slice la n lc) xs) (hW : Went W wa w2 bo go br gr l ts last) :
    Flip W w2 bo go br gr (tsAft l ts) (lastAft l ts last) xs la 0 := by
  refine ⟨hW.duo, fun hne => ?_⟩
  obtain ⟨gl, cap, e, hgl, ho⟩ := hF.own hne
  injection e with e1 e2 e3
  have h1 := ho.lt
  have h2 := hD.o.lt
  have h3 := hD.r.lt
  have h4 := hD.size
  refine ⟨gl, e1, ho.of_block (hW.block gl h1 (by omega) (by omega)), by omega, by omega, by omega, aft_sep fun e => ?_⟩
  have h5 := hD.o.glt e
  have h6 := hD.r.glt e
  omega
theorem flip_step {W w : World} {bo go br gr k gl : Nat} {ts : List Int} {last : Int} {xs : List Value} (h : Flip W w bo go br gr ts last xs (some ⟨gl, 0, none⟩) k) (hk : k < xs.length) (n : Nat) (v : Value) : Flip W ((w.setCell ⟨gl, k, none⟩ v).drewN n) bo go br gr ts last xs (some ⟨gl, 0, none⟩) (k + 1) := by
  obtain ⟨h1, h2⟩ := h
  have hne : xs ≠ [] := by intro e; subst e; simp at hk
  obtain ⟨gl', e, h3, h4, h5, h6, h7⟩ := h2 hne
  cases e
  exact ⟨(h1.other ((Only.refl _ _).set k v) h4 h5 h6 h7).keepB (below_drewN _ _ _), fun _ => ⟨gl, rfl, (h3.step v).of_block rfl, h4, h5, h6, h7⟩⟩
set_option maxRecDepth 100000 in
set_option maxHeartbeats 4000000 in
theorem wPlays (W : World) (ta : Option Addr) (tc : Nat) (ts : List Int) (ht : Vals W ta (ints ts)) (htc : ta = none → tc = 0) (htn : ts.length ≤ 140737488355328)
    (ga : Option Addr) (G gc : Nat) (A : Nat → Option Addr) (L C : Nat → Nat) (B : Nat → Nat → Bool) (hg : Grid W ga G A L C B) (hG : G ≤ 140737488355328) :
    Calls Try.prog 3 #[.slice ta ts.length tc, .slice ga G gc] W fun e w' => e = .returned (.bool true) ∧ Below W.heap.size W w' := by
  by_cases hsm : smallV ts.length G L = true
  · obtain ⟨htl, hGl, hLl⟩ := small_yes hsm
    go_enter Try.func3, Try.ntmps3
    go_wp2_with (first
      | (go_at_call 6; refine (cKnown W).mono ?_; rintro e w1 ⟨rfl, hW1⟩)
      | (go_at_call 7; refine (cSmall w1 ta ts.length tc ga G gc A L C B (hg.keepB hW1) htn hG).mono ?_; rintro e w' ⟨rfl, rfl⟩)
      | (at_builtin; refine wpList_fresh rfl _ _ 22 rfl 3 (.int .i64 0) 8 Try.underlying22 Try.info3 rfl ta ts.length tc (ints ts) rfl rfl (ints_len ts) htc (ht.keepB hW1) (ints_one ts) (by unfold maxLen; omega) (by omega) ?_; intro v' w2 hF; obtain ⟨la, lc, hv', hlc, hl, hlb⟩ := hF.vals; rw [ints_len] at hv'; subst hv'; have hW2 : Below W.heap.size W w2 := hW1.trans (hF.below.mono hW1.size))
      | (go_at_call 8; refine (duo_new hW2 la lc ta tc ts hl hlc ht htc htl).mono ?_; rintro e w3 ⟨bo, go, rfl, HR⟩)
      | (go_at_call 9; refine HR.mono ?_; rintro e w4 ⟨br, gr, rfl, hD, hB4, hbo, hbr, hgg⟩))
    have HL : Hid (Lent W w4 bo go br gr ts la 0) := lent_start hW1 hF hD hB4 hbo hbr hgg
    have HG : Hid (Grid W ga G A L C B) := hg
    have HT : Hid (Vals W ta (ints ts)) := ht
    have HLl : Hid (∀ r, r < G → L r ≤ 20000) := hLl
    clear hg ht hD hF hB4 hbo hbr hgg HR hl hlb hW2 hlc htc hsm hLl
    go_loopw [8] (fun i wr => ∃ k : Nat, k ≤ ts.length ∧ i = .int .i64 k ∧ Hid (Lent W wr bo go br gr ts la k)) (fun i _ => ts.length - (intOf i).toNat)
    case atStart => exact ⟨0, Nat.zero_le _, rfl, HL⟩
    case round =>
      clear HL
      obtain ⟨k, hk, rfl, HL⟩ := hrel
      by_cases hlt : k < ts.length
      · obtain ⟨gl, rfl, hrow, -⟩ := HL.out.row (by intro e; subst e; simp at hlt)
        have c1 := hrow.cell (Nat.le_refl k) (ints_at ts hlt)
        have f1 := hrow.frozen k
        obtain ⟨tb, to, rfl, htc⟩ := HT.out.int (by omega)
        have hcW := htc k hlt
        have c2 := HL.out.duo.below.cell (p := ⟨tb, to + k, none⟩) (World.block_lt_of_cell? W _ hcW)
        rw [hcW] at c2
        clear hrow htc hcW
        go_wp2
        go_quiet (fail)
        go_wp2
        go_roundw
        case rel => exact ⟨k + 1, by omega, by go_num, lent_step HL.out hlt _ _⟩
        case measure => simp [intOf]; omega
      · have HD : Hid (∃ ts' last', Duo W wr bo go br gr ts' last') := ⟨ts, -1, HL.out.duo⟩
        clear HL
        go_wp2
        go_loopw [9] (fun i wx => ∃ r : Nat, r ≤ G ∧ i = .int .i64 r ∧ Hid (∃ ts' last', Duo W wx bo go br gr ts' last')) (fun i _ => G - (intOf i).toNat)
        case atStart => exact ⟨0, Nat.zero_le _, rfl, HD⟩
        case round =>
          clear HD
          obtain ⟨r, hr, rfl, HD⟩ := hrel
          by_cases hrG : r < G
          · obtain ⟨ts', last', hD⟩ := HD.out
            have hLr := HLl.out r hrG
            obtain ⟨gb, go', rfl, hrows⟩ := HG.out.rows (by omega)
            have hcW := hrows r hrG
            have hgbW : gb < W.heap.size := World.block_lt_of_cell? W _ hcW
            have hcr := hD.below.cell (p := ⟨gb, go' + r, none⟩) hgbW
            rw [hcW] at hcr
            have HV : Hid (Vals W (A r) (bools (B r) (L r))) := HG.out.vals r hrG
            have HVr : Hid (Vals wr (A r) (bools (B r) (L r))) := HV.out.keepB hD.below
            have hnilr := HG.out.nil r hrG
            have HC : Hid (W.cell? ⟨gb, go' + r, none⟩ = some (.slice (A r) (L r) (C r))) := hcW
            have HD2 : Hid (Duo W wr bo go br gr ts' last') := hD
            clear hrows hcW hD HD
            go_wp2_with (at_builtin; refine wpList_fresh rfl _ _ 30 rfl 4 (.bool false) 1 Try.underlying30 Try.info4 rfl (A r) (L r) (C r) (bools (B r) (L r)) rfl rfl (bools_len _ _) hnilr HVr.out (bools_one _ _) (by unfold maxLen; omega) (by omega) ?_; intro v' wa hF; obtain ⟨la2, lc2, hv', hlc2, hl2, hlb2⟩ := hF.vals; rw [bools_len] at hv'; subst hv')
            have hDa := HD2.out.keepB hF.below
            have hcr := hDa.below.cell (p := ⟨gb, go' + r, none⟩) hgbW
            rw [HC.out] at hcr
            have HP := fun wx hx => duo_pick (lc := lc2) (sc := C r) hDa hl2 HV.out hLr wx hx
            go_region_with (first
              | (go_at_call 10; refine (HP _ ?_).mono ?_; exact ⟨rfl, rfl, rfl, rfl⟩; rintro e w1 ⟨rfl, hB1, HP2⟩; have hcr1 := (hB1.cell (p := ⟨gb, go' + r, none⟩) hgbW).trans HC.out)
              | (go_at_call 11; refine (HP2 _ ?_).mono ?_; exact ⟨rfl, rfl, rfl, rfl⟩; rintro e w2 ⟨rfl, HW⟩)
              | (go_at_call 12; refine (cLeft _ bo go _ _ HW.duo.o).mono ?_; rintro e w' ⟨rfl, rfl⟩)
              | (go_at_call 13; refine (cLeftR _ br gr _ _ HW.duo.r).mono ?_; rintro e w' ⟨rfl, rfl⟩))
            all_goals
              have HFl : Hid (Flip W _ bo go br gr _ _ (bools (B r) (L r)) la2 0) := flip_start HD2.out hF HW
              clear HW HP HP2 hB1 hcr1 hcr hDa hF hl2 hlb2 HD2 HVr
              generalize tsAft (rdyN (B r) (L r)) ts' = ts2 at *
              generalize lastAft (rdyN (B r) (L r)) ts' last' = last2 at *
              go_wp2
              go_loopw [11] (fun i wy => ∃ k : Nat, k ≤ L r ∧ i = .int .i64 k ∧ Hid (Flip W wy bo go br gr ts2 last2 (bools (B r) (L r)) la2 k)) (fun i _ => L r - (intOf i).toNat)
              case atStart => exact ⟨0, Nat.zero_le _, rfl, HFl⟩
              case round =>
                clear HFl
                obtain ⟨k2, hk2, rfl, HFl⟩ := hrel
                by_cases hlt2 : k2 < L r
                · have hxs : bools (B r) (L r) ≠ [] := by intro e; have := congrArg List.length e; rw [bools_len] at this; simp at this; omega
                  obtain ⟨gl, rfl, hrow, -⟩ := HFl.out.row hxs
                  have c1 := hrow.cell (Nat.le_refl k2) (bools_at (B r) hlt2)
                  have f1 := hrow.frozen k2
                  have c2 := HFl.out.duo.below.cell (p := ⟨gb, go' + r, none⟩) hgbW
                  rw [HC.out] at c2
                  obtain ⟨sb, so, hA, hcs⟩ := HV.out.bool (by omega)
                  rw [hA] at c2
                  have hcW := hcs k2 hlt2
                  have c3 := HFl.out.duo.below.cell (p := ⟨sb, so + k2, none⟩) (World.block_lt_of_cell? W _ hcW)
                  rw [hcW] at c3
                  clear hrow hcs hcW hA hnilr
                  generalize B r k2 = bb at *
                  go_wp2
                  go_quiet (fail)
                  go_wp2
                  go_roundw
                  case rel => exact ⟨k2 + 1, by omega, by go_num, flip_step HFl.out (by rw [bools_len]; exact hlt2) _ _⟩
                  case measure => simp [intOf]; omega
                · go_wp2
                  go_roundw
                  case rel => exact ⟨r + 1, by omega, by go_num, ⟨_, _, HFl.out.duo⟩⟩
                  case measure => simp [intOf]; omega
          · go_wp2
            go_ret
            obtain ⟨ts', last', hD⟩ := HD.out
            exact ⟨rfl, hD.below⟩
  · have hsm' : smallV ts.length G L = false := by simpa using hsm
    clear hsm
    go_enter Try.func3, Try.ntmps3
    go_wp2_with (first
      | (go_at_call 6; refine (cKnown W).mono ?_; rintro e w1 ⟨rfl, hW1⟩)
      | (go_at_call 7; refine (cSmall w1 ta ts.length tc ga G gc A L C B (hg.keepB hW1) htn hG).mono ?_; rintro e w' ⟨rfl, rfl⟩))
    go_ret
    exact ⟨rfl, hW1⟩
end Go.Proofs.Ytlbekopcaifijaa

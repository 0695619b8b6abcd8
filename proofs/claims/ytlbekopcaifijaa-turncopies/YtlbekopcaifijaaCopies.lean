/-
  The walk of TurnCopies.
-/
import Derived.Test.YtlbekopcaifijaaQuad
import Derived.Test.YtlbekopcaifijaaKnown
import Derived.Test.YtlbekopcaifijaaPlays
namespace Go.Proofs.Ytlbekopcaifijaa
open Go.RowKit
theorem grid_none (w : World) : Grid w none 0 (fun _ => none) (fun _ => 0) (fun _ => 0) (fun _ _ => false) :=
  ⟨fun h => absurd h (Nat.lt_irrefl _), fun _ h => absurd h (Nat.not_lt_zero _), fun _ h => absurd h (Nat.not_lt_zero _), fun _ h => absurd h (Nat.not_lt_zero _)⟩
theorem below_drew (w : World) : Below w.heap.size w w.drew := (Below.refl _ _).drew
set_option maxRecDepth 100000 in
set_option maxHeartbeats 8000000 in
theorem wCopies_in (W : World) (ta : Option Addr) (tc : Nat) (ts : List Int) (ht : Vals W ta (ints ts)) (htc : ta = none → tc = 0) (htn : ts.length ≤ 140737488355328)
    (ga : Option Addr) (G gc : Nat) (A : Nat → Option Addr) (L C : Nat → Nat) (B : Nat → Nat → Bool) (hg : Grid W ga G A L C B) (hG : G ≤ 140737488355328)
    (ha : Option Addr) (M hc : Nat) (A2 : Nat → Option Addr) (L2 C2 : Nat → Nat) (B2 : Nat → Nat → Bool) (hg2 : Grid W ha M A2 L2 C2 B2) (hM : M ≤ 140737488355328)
    (hsm : smallV ts.length G L = true) (hsm2 : smallV 0 M L2 = true) :
    Calls Try.prog 4 #[.slice ta ts.length tc, .slice ga G gc, .slice ha M hc] W fun e w' => e = .returned (.bool true) ∧ Below W.heap.size W w' := by
  obtain ⟨htl, hGl, hLl⟩ := small_yes hsm
  obtain ⟨-, hMl, hLl2⟩ := small_yes hsm2
  go_enter Try.func4, Try.ntmps4
  go_wp2_with (first
    | (go_at_call 6; refine (cKnown W).mono ?_; rintro e w1 ⟨rfl, hW1⟩)
    | (go_at_call_of 7 (Value.slice ta ts.length tc); refine (cSmall w1 ta ts.length tc ga G gc A L C B (hg.keepB hW1) htn hG).mono ?_; rintro e w' ⟨rfl, rfl⟩)
    | (go_at_call 7; refine (cSmall _ none 0 0 ha M hc A2 L2 C2 B2 (hg2.keepB hW1) (by omega) hM).mono ?_; rintro e w' ⟨rfl, rfl⟩)
    | (at_builtin; refine wpList_fresh rfl _ _ 22 rfl 3 (.int .i64 0) 8 Try.underlying22 Try.info3 rfl ta ts.length tc (ints ts) rfl rfl (ints_len ts) htc (ht.keepB hW1) (ints_one ts) (by unfold maxLen; omega) (by omega) ?_; intro v' w2 hF; obtain ⟨la, lc, hv', hlc, hl, hlb⟩ := hF.vals; rw [ints_len] at hv'; subst hv'; have hW2 : Below W.heap.size W w2 := hW1.trans (hF.below.mono hW1.size))
    | (go_at_call 8; refine (duo_new hW2 la lc ta tc ts hl hlc ht htc htl).mono ?_; rintro e w3 ⟨bo, go, rfl, HR⟩)
    | (go_at_call 9; refine HR.mono ?_; rintro e w4 ⟨br, gr, rfl, hD, hB4, hbo, hbr, hgg⟩))
  have HD : Hid (Duo W w4 bo go br gr ts (-1)) := hD
  have HG : Hid (Grid W ga G A L C B) := hg
  have HG2 : Hid (Grid W ha M A2 L2 C2 B2) := hg2
  have HLl : Hid (∀ r, r < G → L r ≤ 20000) := hLl
  have HLl2 : Hid (∀ r, r < M → L2 r ≤ 20000) := hLl2
  clear hg hg2 ht hD hF hB4 hbo hbr hgg HR hl hlb hW2 hlc htc hsm hsm2 hLl hLl2
  go_loopw [9] (fun i wx => ∃ r : Nat, r ≤ G ∧ i = .int .i64 r ∧ Hid (∃ ts' last', ts'.length ≤ 20000 ∧ Duo W wx bo go br gr ts' last')) (fun i _ => G - (intOf i).toNat)
  case atStart => exact ⟨0, Nat.zero_le _, rfl, ⟨ts, -1, htl, HD.out⟩⟩
  case round =>
    clear HD
    obtain ⟨r, hr, rfl, HD⟩ := hrel
    by_cases hrG : r < G
    · obtain ⟨ts', last', hlen, hD⟩ := HD.out
      have hLr := HLl.out r hrG
      obtain ⟨gb, go', rfl, hrows⟩ := HG.out.rows (by omega)
      have hcW := hrows r hrG
      have hgbW : gb < W.heap.size := World.block_lt_of_cell? W _ hcW
      have hcr := hD.below.cell (p := ⟨gb, go' + r, none⟩) hgbW
      rw [hcW] at hcr
      have HV : Hid (Vals W (A r) (bools (B r) (L r))) := HG.out.vals r hrG
      have HVr : Hid (∀ wx, Same wr wx → Vals wx (A r) (bools (B r) (L r))) := fun wx hx => HV.out.keepB (hD.same hx).below
      have hnilr := HG.out.nil r hrG
      have HC : Hid (W.cell? ⟨gb, go' + r, none⟩ = some (.slice (A r) (L r) (C r))) := hcW
      have HD2 : Hid (Duo W wr bo go br gr ts' last') := hD
      have HP : Hid (∀ (wy wa : World) (la : Option Addr) (lc : Nat), Below wy.heap.size wy wa → Same wr wy → Vals wa la (bools (B r) (L r)) → ∀ wx, Same wa wx → Calls Try.prog 10 #[.pointer (some ⟨bo, 0, none⟩), .slice la (L r) lc] wx fun e w1 => e = .returned (.int .i64 (pickV (rdyN (B r) (L r)) ts' last')) ∧ Below W.heap.size W w1 ∧
        ∀ wy, Same w1 wy → Calls Try.prog 11 #[.pointer (some ⟨br, 0, none⟩), .slice (A r) (L r) (C r)] wy fun e w2 => e = .returned (.int .i64 (pickV (rdyN (B r) (L r)) ts' last')) ∧ Went W wa w2 bo go br gr (rdyN (B r) (L r)) ts' last') := fun wy wa la lc h2 h1 h3 wx hx => duo_pick ((hD.same h1).keepB h2) h3 HV.out hLr wx hx
      have HB : Hid (∀ wy wa, Below wy.heap.size wy wa → Same wr wy → wa.cell? ⟨gb, go' + r, none⟩ = some (.slice (A r) (L r) (C r))) := fun wy wa h2 h1 => by
        rw [((hD.same h1).keepB h2).below.cell (p := ⟨gb, go' + r, none⟩) hgbW]; exact hcW
      clear hrows hcW hD HD
      go_wp2
      go_region_law (first
        | (refine step_fresh rfl _ _ 30 rfl 4 (.bool false) 1 Try.underlying30 Try.info4 rfl (A r) (L r) (C r) (bools (B r) (L r)) (by simp [Act.eval]) (by simp [Act.eval]) (bools_len _ _) hnilr (HVr.out _ ⟨rfl, rfl, rfl, rfl⟩) (bools_one _ _) (by unfold maxLen; omega) (by omega) ?_; intro v' wa hF; have hcra := HB.out _ wa hF.below ⟨rfl, rfl, rfl, rfl⟩; obtain ⟨la2, lc2, hv', hlc2, hl2, hlb2⟩ := hF.vals; rw [bools_len] at hv'; subst hv')
        | (go_simp; go_wp2_with (first
            | (go_at_call 10; refine (HP.out _ wa la2 lc2 hF.below ⟨rfl, rfl, rfl, rfl⟩ hl2 _ ?_).mono ?_; exact ⟨rfl, rfl, rfl, rfl⟩; rintro e w1 ⟨rfl, hB1, HP2⟩; have hcr1 := (hB1.cell (p := ⟨gb, go' + r, none⟩) hgbW).trans HC.out)
            | (go_at_call 11; refine (HP2 _ ?_).mono ?_; exact ⟨rfl, rfl, rfl, rfl⟩; rintro e w2 ⟨rfl, HW⟩))))
      all_goals
        have hl2' : (tsAft (rdyN (B r) (L r)) ts').length ≤ 20000 := Nat.le_trans (tsAft_len _ _) hlen
        have HX : Hid (∃ ts' last', ts'.length ≤ 20000 ∧ Duo W _ bo go br gr ts' last') := ⟨_, _, hl2', HW.duo⟩
        clear HW HP HP2 hB1 hcr1 hcr hF hl2 hlb2 HD2 HVr hl2' HB
        go_wp2
        go_roundw
        case rel => exact ⟨r + 1, by omega, by go_num, HX⟩
        case measure => simp [intOf]; omega
    · obtain ⟨ts1, last1, hlen1, hD1⟩ := HD.out
      have HC := duo_copy hD1 hlen1
      clear HD hD1
      go_wp2_with (first
        | (go_at_call 14; refine HC.mono ?_; rintro e w5 ⟨bp, gp, rfl, HC2⟩)
        | (go_at_call 15; refine HC2.mono ?_; rintro e w6 ⟨bs, gs, rfl, hQ⟩)
        | (go_at_call 12; refine (cLeft _ bp gp _ _ hQ.b.o).mono ?_; rintro e w' ⟨rfl, rfl⟩)
        | (go_at_call 13; refine (cLeftR _ br gr _ _ hQ.a.r).mono ?_; rintro e w' ⟨rfl, rfl⟩))
      have HQ : Hid (∃ t1 l1 t2 l2, Quad W _ bo go br gr t1 l1 bp gp bs gs t2 l2) := ⟨_, _, _, _, hQ⟩
      clear hQ HC HC2
      go_loopw [12] (fun i wx => ∃ q : Nat, q ≤ M ∧ i = .int .i64 q ∧ Hid (∃ t1 l1 t2 l2, Quad W wx bo go br gr t1 l1 bp gp bs gs t2 l2)) (fun i _ => M - (intOf i).toNat)
      case atStart => exact ⟨0, Nat.zero_le _, rfl, HQ⟩
      case round =>
        clear HQ
        obtain ⟨q, hq, rfl, HQ⟩ := hrel
        by_cases hqM : q < M
        · obtain ⟨t1, l1, t2, l2, hQ⟩ := HQ.out
          have hLr := HLl2.out q hqM
          obtain ⟨gb, go', rfl, hrows⟩ := HG2.out.rows (by omega)
          have hcW := hrows q hqM
          have hgbW : gb < W.heap.size := World.block_lt_of_cell? W _ hcW
          have hcr := hQ.a.below.cell (p := ⟨gb, go' + q, none⟩) hgbW
          rw [hcW] at hcr
          have HV : Hid (Vals W (A2 q) (bools (B2 q) (L2 q))) := HG2.out.vals q hqM
          have HVr : Hid (∀ wx, Same wr wx → Vals wx (A2 q) (bools (B2 q) (L2 q))) := fun wx hx => HV.out.keepB (hQ.a.same hx).below
          have hnilr := HG2.out.nil q hqM
          have HC : Hid (W.cell? ⟨gb, go' + q, none⟩ = some (.slice (A2 q) (L2 q) (C2 q))) := hcW
          have HQ2 : Hid (Quad W wr bo go br gr t1 l1 bp gp bs gs t2 l2) := hQ
          have HP : Hid (∀ (wy wa : World) (la : Option Addr) (lc : Nat), Below wy.heap.size wy wa → Same wr wy → Vals wa la (bools (B2 q) (L2 q)) → ∀ wx, Same wa wx → Calls Try.prog 10 #[.pointer (some ⟨bo, 0, none⟩), .slice la (L2 q) lc] wx fun e w1 => e = .returned (.int .i64 (pickV (rdyN (B2 q) (L2 q)) t1 l1)) ∧ Below W.heap.size W w1 ∧
            ∀ wy, Same w1 wy → Calls Try.prog 11 #[.pointer (some ⟨br, 0, none⟩), .slice (A2 q) (L2 q) (C2 q)] wy fun e w2 => e = .returned (.int .i64 (pickV (rdyN (B2 q) (L2 q)) t1 l1)) ∧ Went W wa w2 bo go br gr (rdyN (B2 q) (L2 q)) t1 l1) := fun wy wa la lc h2 h1 h3 wx hx => duo_pick ((hQ.a.same h1).keepB h2) h3 HV.out hLr wx hx
          have HB : Hid (∀ wy wa, Below wy.heap.size wy wa → Same wr wy → wa.cell? ⟨gb, go' + q, none⟩ = some (.slice (A2 q) (L2 q) (C2 q))) := fun wy wa h2 h1 => by
            rw [((hQ.a.same h1).keepB h2).below.cell (p := ⟨gb, go' + q, none⟩) hgbW]; exact hcW
          clear hrows hcW hQ HQ
          go_wp2
          go_region_law (first
            | (refine step_fresh rfl _ _ 30 rfl 4 (.bool false) 1 Try.underlying30 Try.info4 rfl (A2 q) (L2 q) (C2 q) (bools (B2 q) (L2 q)) (by simp [Act.eval]) (by simp [Act.eval]) (bools_len _ _) hnilr (HVr.out _ ⟨rfl, rfl, rfl, rfl⟩) (bools_one _ _) (by unfold maxLen; omega) (by omega) ?_; intro v' wa hF; have hcra := HB.out _ wa hF.below ⟨rfl, rfl, rfl, rfl⟩; obtain ⟨la2, lc2, hv', hlc2, hl2, hlb2⟩ := hF.vals; rw [bools_len] at hv'; subst hv')
            | (go_simp; go_wp2_with (first
                | (go_at_call 10; refine (HP.out _ wa la2 lc2 hF.below ⟨rfl, rfl, rfl, rfl⟩ hl2 _ ?_).mono ?_; exact ⟨rfl, rfl, rfl, rfl⟩; rintro e w1 ⟨rfl, hB1, HP2⟩; have hcr1 := (hB1.cell (p := ⟨gb, go' + q, none⟩) hgbW).trans HC.out)
                | (go_at_call 11; refine (HP2 _ ?_).mono ?_; exact ⟨rfl, rfl, rfl, rfl⟩; rintro e w2 ⟨rfl, HW⟩))))
          all_goals
            have HX : Hid (∃ t1 l1 t2 l2, Quad W _ bo go br gr t1 l1 bp gp bs gs t2 l2) := ⟨_, _, _, _, quad_went (HQ2.out.keepB (below_drew _)) hF.below HW⟩
            clear HW HP HP2 hB1 hcr1 hcr hF hl2 hlb2 HQ2 HVr HB
            go_wp2
            go_roundw
            case rel => exact ⟨q + 1, by omega, by go_num, HX⟩
            case measure => simp [intOf]; omega
        · go_wp2
          go_loopw [13] (fun i wx => ∃ q : Nat, q ≤ M ∧ i = .int .i64 q ∧ Hid (∃ t1 l1 t2 l2, Quad W wx bo go br gr t1 l1 bp gp bs gs t2 l2)) (fun i _ => M - (intOf i).toNat)
          case atStart => exact ⟨0, Nat.zero_le _, rfl, HQ⟩
          case round =>
            clear HQ
            obtain ⟨q, hq, rfl, HQ⟩ := hrel
            by_cases hqM : q < M
            · obtain ⟨t1, l1, t2, l2, hQ⟩ := HQ.out
              have hLr := HLl2.out q hqM
              obtain ⟨gb, go', rfl, hrows⟩ := HG2.out.rows (by omega)
              have hcW := hrows q hqM
              have hgbW : gb < W.heap.size := World.block_lt_of_cell? W _ hcW
              have hcr := hQ.a.below.cell (p := ⟨gb, go' + q, none⟩) hgbW
              rw [hcW] at hcr
              have HV : Hid (Vals W (A2 q) (bools (B2 q) (L2 q))) := HG2.out.vals q hqM
              have HVr : Hid (∀ wx, Same wr wx → Vals wx (A2 q) (bools (B2 q) (L2 q))) := fun wx hx => HV.out.keepB (hQ.a.same hx).below
              have hnilr := HG2.out.nil q hqM
              have HC : Hid (W.cell? ⟨gb, go' + q, none⟩ = some (.slice (A2 q) (L2 q) (C2 q))) := hcW
              have HQ2 : Hid (Quad W wr bo go br gr t1 l1 bp gp bs gs t2 l2) := hQ
              have HP : Hid (∀ (wy wa : World) (la : Option Addr) (lc : Nat), Below wy.heap.size wy wa → Same wr wy → Vals wa la (bools (B2 q) (L2 q)) → ∀ wx, Same wa wx → Calls Try.prog 10 #[.pointer (some ⟨bp, 0, none⟩), .slice la (L2 q) lc] wx fun e w1 => e = .returned (.int .i64 (pickV (rdyN (B2 q) (L2 q)) t2 l2)) ∧ Below W.heap.size W w1 ∧
                ∀ wy, Same w1 wy → Calls Try.prog 11 #[.pointer (some ⟨bs, 0, none⟩), .slice (A2 q) (L2 q) (C2 q)] wy fun e w2 => e = .returned (.int .i64 (pickV (rdyN (B2 q) (L2 q)) t2 l2)) ∧ Went W wa w2 bp gp bs gs (rdyN (B2 q) (L2 q)) t2 l2) := fun wy wa la lc h2 h1 h3 wx hx => duo_pick ((hQ.b.same h1).keepB h2) h3 HV.out hLr wx hx
              have HB : Hid (∀ wy wa, Below wy.heap.size wy wa → Same wr wy → wa.cell? ⟨gb, go' + q, none⟩ = some (.slice (A2 q) (L2 q) (C2 q))) := fun wy wa h2 h1 => by
                rw [((hQ.a.same h1).keepB h2).below.cell (p := ⟨gb, go' + q, none⟩) hgbW]; exact hcW
              clear hrows hcW hQ HQ
              go_wp2
              go_region_law (first
                | (refine step_fresh rfl _ _ 30 rfl 4 (.bool false) 1 Try.underlying30 Try.info4 rfl (A2 q) (L2 q) (C2 q) (bools (B2 q) (L2 q)) (by simp [Act.eval]) (by simp [Act.eval]) (bools_len _ _) hnilr (HVr.out _ ⟨rfl, rfl, rfl, rfl⟩) (bools_one _ _) (by unfold maxLen; omega) (by omega) ?_; intro v' wa hF; have hcra := HB.out _ wa hF.below ⟨rfl, rfl, rfl, rfl⟩; obtain ⟨la2, lc2, hv', hlc2, hl2, hlb2⟩ := hF.vals; rw [bools_len] at hv'; subst hv')
                | (go_simp; go_wp2_with (first
                    | (go_at_call 10; refine (HP.out _ wa la2 lc2 hF.below ⟨rfl, rfl, rfl, rfl⟩ hl2 _ ?_).mono ?_; exact ⟨rfl, rfl, rfl, rfl⟩; rintro e w1 ⟨rfl, hB1, HP2⟩; have hcr1 := (hB1.cell (p := ⟨gb, go' + q, none⟩) hgbW).trans HC.out)
                    | (go_at_call 11; refine (HP2 _ ?_).mono ?_; exact ⟨rfl, rfl, rfl, rfl⟩; rintro e w2 ⟨rfl, HW⟩))))
              all_goals
                have HX : Hid (∃ t1 l1 t2 l2, Quad W _ bo go br gr t1 l1 bp gp bs gs t2 l2) := ⟨_, _, _, _, (quad_went (HQ2.out.keepB (below_drew _)).swap hF.below HW).swap⟩
                clear HW HP HP2 hB1 hcr1 hcr hF hl2 hlb2 HQ2 HVr HB
                go_wp2
                go_roundw
                case rel => exact ⟨q + 1, by omega, by go_num, HX⟩
                case measure => simp [intOf]; omega
            · obtain ⟨t1, l1, t2, l2, hQ⟩ := HQ.out
              have HQ3 : Hid (Quad W wr bo go br gr t1 l1 bp gp bs gs t2 l2) := hQ
              clear hQ HQ
              go_wp2_with (first
                | (go_at_call_of 12 (Value.pointer (some ⟨bo, 0, none⟩)); refine (cLeft _ bo go _ _ HQ3.out.a.o).mono ?_; rintro e w' ⟨rfl, rfl⟩)
                | (go_at_call_of 13 (Value.pointer (some ⟨br, 0, none⟩)); refine (cLeftR _ br gr _ _ HQ3.out.a.r).mono ?_; rintro e w' ⟨rfl, rfl⟩)
                | (go_at_call 12; refine (cLeft _ bp gp _ _ HQ3.out.b.o).mono ?_; rintro e w' ⟨rfl, rfl⟩)
                | (go_at_call 13; refine (cLeftR _ bs gs _ _ HQ3.out.b.r).mono ?_; rintro e w' ⟨rfl, rfl⟩))
              go_ret
              exact ⟨rfl, HQ3.out.a.below⟩
end Go.Proofs.Ytlbekopcaifijaa

/-
  What the reference's Pick answers and does: the document's pick.
-/
import Derived.Test.YtlbekopcaifijaaLeaf
import Derived.Test.YtlbekopcaifijaaChoose
import Derived.Deep.QuietTactic
import Derived.BigQuiet
namespace Go.Proofs.Ytlbekopcaifijaa
open Go.RowKit
def nats (l : List Nat) : List Value := l.map fun x : Nat => Value.int .i64 (x : Int)
theorem nats_snoc (l : List Nat) (k : Nat) : nats (l ++ [k]) = nats l ++ [.int .i64 k] := by simp [nats]
theorem nats_len (l : List Nat) : (nats l).length = l.length := by simp [nats]
/-- What is gathered, behind the loop: the slice begins at the head of a row of one's own. -/
theorem own_row {w : World} {base : Nat} {v : Value} {l : List Nat} (hl : l ≠ []) (h : w.ownsRow base 3 1 v l.length (nats l)) : ∃ g cap, v = .slice (some ⟨g, 0, none⟩) l.length cap ∧ base ≤ g ∧ l.length ≤ cap ∧ cap ≤ maxLen ∧
    ∀ j (h : j < l.length), w.cell? ⟨g, j, none⟩ = some (.int .i64 ((l[j]'h : Nat) : Int)) := by
  have hc := fun g => h.cells (g := g)
  obtain ⟨h1, h2⟩ := h
  rcases h2 with ⟨_, h2⟩ | ⟨g, cap, cur, rfl, hb, hh, hcc, hm, hs, ht⟩
  · exact absurd (List.length_eq_zero_iff.1 h2) hl
  · refine ⟨g, cap, rfl, hb, hcc, hm, fun j hj => ?_⟩
    have := hc g rfl j (.int .i64 ((l[j]'hj : Nat) : Int)) (by simp [nats, hj])
    rw [addr_add] at this
    simpa using this
theorem own_shape {w : World} {base : Nat} {v : Value} {n : Nat} {xs : List Value} (h : w.ownsRow base 3 1 v n xs) : ∃ ao cap, v = .slice ao n cap := by
  obtain ⟨h1, h2⟩ := h
  rcases h2 with ⟨rfl, rfl⟩ | ⟨g, cap, cur, rfl, _⟩
  · exact ⟨none, 0, rfl⟩
  · exact ⟨some ⟨g, 0, none⟩, cap, rfl⟩
theorem below_drewN (B n : Nat) (w : World) : Below B w (w.drewN n) := ⟨rfl, rfl, rfl, Nat.le_refl _, fun _ _ => rfl⟩
theorem Ord.drewN {T : TypeId} {w : World} {b g : Nat} {ts : List Int} {x : Int} (h : Ord T w b g ts x) (n : Nat) : Ord T (w.drewN n) b g ts x := h.keepB (below_drewN _ _ _)
theorem Ord.last {T : TypeId} {w : World} {b g : Nat} {ts : List Int} {x : Int} (h : Ord T w b g ts x) (y : Int) : Ord T (w.setCell ⟨b, 1, none⟩ (.int .i64 y)) b g ts y := by
  obtain ⟨hgb, hlt, ao, cap, h3, h4, h5, h6, h7, h8⟩ := h
  exact ⟨hgb, by simpa [World.setCell] using hlt, ao, cap, two_set1 h3 _, h4, h5, h6, h7, h8.keepI ((Only.refl _ _).set 1 _) (fun hne p q e => by rw [h7 hne p q e]; exact hgb hne)⟩
theorem head_at {l : List Nat} (hp : 0 < l.length) : l[0]'hp = l.headD 0 := by cases l with | nil => simp at hp | cons a r => rfl
set_option maxRecDepth 100000 in
set_option maxHeartbeats 1600000 in
theorem cPickR (w : World) (b g : Nat) (ts : List Int) (last : Int) (h : Ord 41 w b g ts last) (ao : Option Addr) (n cap : Nat) (B : Nat → Bool) (hv : Vals w ao (bools B n)) (hn : n ≤ 1099511627776) :
    Calls Try.prog 11 #[.pointer (some ⟨b, 0, none⟩), .slice ao n cap] w fun e w' => e = .returned (.int .i64 (pickV (rdyN B n) ts last)) ∧ Only b w w' ∧ Ord 41 w' b g (tsAft (rdyN B n) ts) (lastAft (rdyN B n) ts last) := by
  obtain ⟨i0, hi, hz0, hz1, hz2⟩ := info_parts Try.info3
  have hbl := h.lt
  go_enter Try.func11, Try.ntmps11
  go_wp2
  go_loopw [5, 6] (fun v i wr => ∃ k : Nat, k ≤ n ∧ i = .int .i64 k ∧ wr.ownsRow w.heap.size 3 1 v (rdyN B k).length (nats (rdyN B k)) ∧ Below w.heap.size w wr) (fun _ i _ => n - (intOf i).toNat)
  case atStart => exact ⟨0, Nat.zero_le _, rfl, World.ownsRow_nil _ _ _ _, Below.refl _ _⟩
  case round =>
    obtain ⟨k, hk, rfl, hown, hb⟩ := hrel
    have hl := rdy_len B k
    have hs := hb.size
    by_cases hlt : k < n
    · obtain ⟨p, off, rfl, hc⟩ := hv.bool (by omega)
      have hck : wr.cell? ⟨p, off + k, none⟩ = some (.bool (B k)) := by rw [hb.cell (p := ⟨p, off + k, none⟩) (World.block_lt_of_cell? w _ (hc k hlt))]; exact hc k hlt
      cases hB : B k with
      | true =>
        rw [hB] at hck
        have L2 : Hid (rdyN B (k + 1) = rdyN B k ++ [k]) := rdy_yes hB
        have HV : Hid (Vals w (some ⟨p, off, none⟩) (bools B n)) := hv
        clear hc hB hv
        go_wp2_with (at_builtin; refine wpList_append_own _ rfl _ _ 22 rfl w.heap.size 3 i0 (.int .i64 0) 1 8 Try.underlying22 hi hz0 hz1 hz2 rfl (by decide) _ _ _ rfl (hown.alloc _) ⟨wr.heap.size, 0, none⟩ 1 1 [.int .i64 k] rfl rfl (by intro j u hj; match j, hj with | 0, hj => simp at hj; subst hj; simp [Addr.add]) (by intro u hu; simp at hu; subst hu; rfl) (by unfold maxLen; omega) (by omega) (by simp; omega) ?_; intro v' w1 hown1 hgrow1 _)
        go_roundw
        case rel => exact ⟨k + 1, by omega, by go_num, by rw [L2.out, nats_snoc]; simpa using hown1, (hb.alloc hs _).grown hgrow1 (by simp; omega) (fun q hq => (hown.lt q hq).1)⟩
        case measure => simp [intOf]; omega
      | false =>
        rw [hB] at hck
        have L2 : Hid (rdyN B (k + 1) = rdyN B k) := rdy_no hB
        clear hc hB hv
        go_wp2
        go_roundw
        case rel => exact ⟨k + 1, by omega, by go_num, by rw [L2.out]; exact hown, hb⟩
        case measure => simp [intOf]; omega
    · obtain rfl : k = n := by omega
      have hO := h.keepB hb
      clear h hv
      have E1 : Hid (∀ h : rdyN B k = [], pickV (rdyN B k) ts last = -1 ∧ tsAft (rdyN B k) ts = ts ∧ lastAft (rdyN B k) ts last = last) := fun h => ⟨if_pos h, if_pos h, if_pos h⟩
      have E2 : Hid (∀ h : rdyN B k ≠ [], pickV (rdyN B k) ts last = (chosen (rdyN B k) ts last : Int) ∧ tsAft (rdyN B k) ts = ts.tail ∧ lastAft (rdyN B k) ts last = (chosen (rdyN B k) ts last : Int)) := fun h => ⟨if_neg h, if_neg h, if_neg h⟩
      by_cases hnil : rdyN B k = []
      · obtain ⟨e1, e2, e3⟩ := E1.out hnil
        have HE : Hid (pickV (rdyN B k) ts last = -1 ∧ tsAft (rdyN B k) ts = ts ∧ lastAft (rdyN B k) ts last = last) := ⟨e1, e2, e3⟩
        clear e1 e2 e3 E1 E2
        rw [hnil] at hown
        simp only [List.length_nil] at hown
        obtain ⟨vo, vc, hvv⟩ := own_shape hown
        subst hvv
        clear hnil
        go_wp2
        go_ret
        obtain ⟨e1, e2, e3⟩ := HE.out
        rw [e1, e2, e3]
        exact ⟨rfl, Only.of hb, hO⟩
      · have HE := E2
        clear E1 E2
        have hlen : (rdyN B k).length ≤ 1099511627776 := by omega
        generalize hL : rdyN B k = l at *
        have HL : Hid (rdyN B k = l) := hL
        clear hL hl
        have hp : 0 < l.length := List.length_pos_iff.2 hnil
        have hneq : ((l.length : Int) == 0) = false := by rw [beq_eq_false_iff_ne]; omega
        obtain ⟨gl, vc, hvv, hgl, hvc, hvm, hcl⟩ := own_row hnil hown
        subst hvv
        clear hown
        have hglb : gl ≠ b := by omega
        have hc0 : wr.cell? ⟨gl, 0, none⟩ = some (.int .i64 ((l.headD 0 : Nat) : Int)) := by rw [hcl 0 hp, head_at hp]
        obtain ⟨hgb, hlt', ao', cap', h3, h4, h5, h6, h7, h8⟩ := hO
        obtain ⟨c0, c1, f0, f1⟩ := cell_two h3
        cases ts with
        | cons t rest =>
          obtain ⟨p, off, rfl, hcells⟩ := h8.int (by simp)
          obtain rfl := h7 (by simp) p off rfl
          replace hgb := hgb (by simp)
          have ht : wr.cell? ⟨p, off, none⟩ = some (.int .i64 t) := hcells 0 (by simp)
          obtain ⟨hm1, hm2⟩ := mod_lt t hp
          have hm3 : t % (l.length : Int) < (l.length : Int) := by omega
          have hm4 := tmod_bd t l.length hp
          have hm5 := mod_two t l.length hp
          have hm6 := (Int.tmod_eq_emod_of_nonneg (a := t.tmod (l.length : Int) + (l.length : Int)) (b := (l.length : Int)) (by omega)).symm.trans hm5
          have hm7 : t.tmod (l.length : Int) % (l.length : Int) = t % (l.length : Int) := by
            have := hm6; rwa [Int.add_emod_right] at this
          have hcm : wr.cell? ⟨gl, (t % (l.length : Int)).toNat, none⟩ = some (.int .i64 (chosen l (t :: rest) last : Int)) := by
            rw [hcl _ hm1]
            show _ = some (Value.int .i64 ((l.getD (t % (l.length : Int)).toNat 0 : Nat) : Int))
            rw [List.getD_eq_getElem?_getD, List.getElem?_eq_getElem hm1]; rfl
          simp only [List.length_cons] at c0 h3 h4
          have HO : Hid (∀ q c', (cap' = 1 ∨ q = off + 1) → c' = cap' - 1 → Ord 41 (wr.setCell ⟨b, 0, none⟩ (.slice (some ⟨p, q, none⟩) rest.length c')) b p rest last) := fun q c' h1 h2 => ord_next hgb hlt' h3 h4 h5 h8 q h1 c' h2
          clear hcells h8 h7 h3 h6 hcl hneq
          unfold maxLen at h5
          go_wp2
          all_goals
            go_ret
            obtain ⟨e1, e2, e3⟩ := HE.out hnil
            rw [HL.out, e1, e2, e3]
            exact ⟨rfl, ((Only.of hb).set _ _).set _ _, (HO.out _ _ (by omega) (by omega)).last _⟩
        | nil =>
          have HO : Hid (Below w.heap.size w wr ∧ Ord 41 wr b g [] last ∧ ∀ j (h : j < l.length), wr.cell? ⟨gl, j, none⟩ = some (.int .i64 ((l[j]'h : Nat) : Int))) := ⟨hb, ⟨hgb, hlt', ao', cap', h3, h4, h5, h6, h7, h8⟩, hcl⟩
          have hst : Hid (backV l last l.length = l.headD 0) := back_all l last
          simp only [List.length_nil] at c0
          clear h3 h4 h6 h7 h8 hcl hb h5
          go_wp2
          go_loopw [7, 8] (fun kk ii wx => ∃ j : Nat, j ≤ l.length ∧ ii = .int .i64 ((j : Int) - 1) ∧ kk = .int .i64 (backV l last j : Int) ∧ Hid (Below w.heap.size w wx ∧ Ord 41 wx b g [] last ∧ ∀ j (h : j < l.length), wx.cell? ⟨gl, j, none⟩ = some (.int .i64 ((l[j]'h : Nat) : Int)))) (fun _ ii _ => (intOf ii + 1).toNat)
          case atStart => exact ⟨l.length, Nat.le_refl _, rfl, by rw [hst.out]; simp, HO⟩
          case round =>
            obtain ⟨j, hj, hii, rfl, HX⟩ := hrel
            clear HO c0 c1 f0 f1 hc0
            obtain ⟨hbx, hOx, hcx⟩ := HX.out
            obtain ⟨hgbx, hltx, aox, capx, h3x, -⟩ := hOx
            obtain ⟨c0, c1, f0, f1⟩ := cell_two h3x
            clear h3x
            cases j with
            | zero =>
              have hii' : _ = Value.int .i64 (-1) := hii
              subst hii'
              clear hbx hcx
              go_wp2
              go_ret
              obtain ⟨e1, e2, e3⟩ := HE.out hnil
              rw [HL.out, e1, e2, e3]
              have HX2 := HX.out
              exact ⟨rfl, (Only.of HX2.1).set _ _, HX2.2.1.last _⟩
            | succ q =>
              have hq : q < l.length := by omega
              have hii' : _ = Value.int .i64 (q : Int) := hii.trans (by go_num)
              subst hii'
              have cq := hcx q hq
              by_cases hy : last < ((l[q]'hq : Nat) : Int)
              · have hst2 : Hid (backV l last q = l[q]'hq) := back_yes hq hy
                clear hbx hcx hst hii
                go_wp2
                go_quiet (fail)
                go_wp2
                go_roundw
                case rel => exact ⟨q, by omega, by go_num, by rw [hst2.out], ⟨HX.out.1.trans (below_drewN _ _ _), HX.out.2.1.drewN _, HX.out.2.2⟩⟩
                case measure => first | (simp [intOf]; done) | (simp [intOf]; omega)
              · have hst2 : Hid (backV l last q = backV l last (q + 1)) := back_no hq hy
                clear hbx hcx hst hii
                go_wp2
                go_quiet (fail)
                go_wp2
                go_roundw
                case rel => exact ⟨q, by omega, by go_num, by rw [hst2.out], ⟨HX.out.1.trans (below_drewN _ _ _), HX.out.2.1.drewN _, HX.out.2.2⟩⟩
                case measure => first | (simp [intOf]; done) | (simp [intOf]; omega)
end Go.Proofs.Ytlbekopcaifijaa

/-
  JudgeOrders by contract. (By the verifier; no statement.)
-/
import Derived.Test.YtfhoflcecbdncaaDoorJ29
import Derived.Deep.RegionHeld3
import Derived.Deep.CutRange
import Derived.Test.YtfhoflcecbdncaaDoorJ08
import Derived.Test.YtfhoflcecbdncaaDoorJ28
import Derived.Test.YtfhoflcecbdncaaDoorJ22
namespace Go.Proofs.YtfhoflcecbdncaaDoor
open Go.RowKit
theorem lent_low {w : World} {B B' g : Nat} {F : List Int} (h : Lent w B g F) (hb : B' ≤ B) : Lent w B' g F := ⟨h.bk, Nat.le_trans hb h.le⟩
theorem lent_lt {w : World} {B g : Nat} {F : List Int} (h : Lent w B g F) : g < w.heap.size := by
  obtain ⟨cs, h1, _⟩ := h.bk
  exact lt_of_heap h1
/-- Both lists are lent. -/
structure Both (x1 : World) (D : List Dd) (F : List Int) (gl gd : Nat) (k : Int) (x : World) : Prop where
  le : Lent x x1.heap.size gl F
  gv : Giv x x1.heap.size gd D k
  tu : Turned [] x1 x
set_option maxRecDepth 100000 in
set_option maxHeartbeats 12800000 in
theorem cJudgeOrders {w : World} {D : List Dd} {F : List Int} {fv : Value} {ad : Option Addr} {cap : Nat} (hF : IV w fv F) (hD : DsAt w ad D) (hb : ∀ b o, ad = some ⟨b, o, none⟩ → b < w.heap.size) (hc0 : ad = none → cap = 0) (hT : Tab w) (hz : 0 < w.heap.size) (hRO : ∀ x : World, IV x fv F → DsAt x ad D → D.length ≤ 1000 → (D.length ≤ 14 ∨ 64 < D.length) → (∀ b o, ad = some ⟨b, o, none⟩ → b < x.heap.size) → Calls Tryd.prog 13 #[fv, .slice ad D.length cap] x fun r w' => RoP D F x r w') : Calls Tryd.prog 3 #[fv, .slice ad D.length cap] w fun r w' => r = .returned (.bool true) ∧ Turned [] w w' := by
  have HT : Hid (Tab w ∧ 0 < w.heap.size) := ⟨hT, hz⟩
  have HRO : Hid _ := hRO
  clear hRO
  have HF : Hid (IV w fv F) := hF
  have HD : Hid (DsAt w ad D) := hD
  have HBd : Hid (∀ b o, ad = some ⟨b, o, none⟩ → b < w.heap.size) := hb
  have HC0 : Hid (ad = none → cap = 0) := hc0
  obtain ⟨fa, fc, rfl, -, -⟩ := hF.ex
  clear hT hz hF hD hb hc0
  go_enter Tryd.func3, Tryd.ntmps3
  go_wp2_with (fail)
  refine (cKnown HT.out.1).mono ?_
  rintro r x1 ⟨rfl, t1⟩
  have H1 : Hid (Turned [] w x1) := t1
  clear t1
  by_cases h1 : 200 < D.length
  · have d1 : decide ((200 : Int) < (D.length : Int)) = true := decide_eq_true (by omega)
    go_wp2
    go_ret
    exact ⟨rfl, H1.out⟩
  have d1 : decide ((200 : Int) < (D.length : Int)) = false := decide_eq_false (by omega)
  by_cases h2 : 1000 < F.length
  · have d2 : decide ((1000 : Int) < (F.length : Int)) = true := decide_eq_true (by omega)
    go_wp2
    go_ret
    exact ⟨rfl, H1.out⟩
  have d2 : decide ((1000 : Int) < (F.length : Int)) = false := decide_eq_false (by omega)
  have HLe : Hid (∀ y, Turned [] x1 y → Calls Tryd.prog 10 #[.slice fa F.length fc] y fun r w' => ∃ g, r = .returned (lentV g F) ∧ Lent w' y.heap.size g F ∧ Turned [] y w') := fun y hy => cLent (HF.out.still (H1.out.trans hy)) (by omega)
  have HVd : Hid (∀ y, Turned [] x1 y → VW dcs y (.slice ad D.length cap) D) := fun y hy => (HD.out.still (H1.out.trans hy)).vw HC0.out
  have hmk := fun y => run_mkDd D.length (by omega) y
  have hsz : (madeCells zD ((D.length + 1) * 8)).size = (D.length + 1) * 8 := by unfold madeCells; simp
  have hcm : D.length + 1 ≤ maxLen := by unfold maxLen; omega
  have hwr : IntKind.i64.wrap ((D.length : Int) + 1) = (D.length : Int) + 1 := by simp [IntKind.wrap, IntKind.bits, IntKind.signed]; omega
  have hd200 : D.length ≤ 200 := by omega
  have hf1000 : F.length ≤ 1000 := by omega
  clear h1 h2
  go_upto_region 5 with fail
  go_cut [5, 6] from 20 (fun i g wx => Bx (∃ gl gd, i = lentV gl F ∧ g = givV gd D ∧ Hid (Lent wx x1.heap.size gl F) ∧ Hid (Giv wx x1.heap.size gd D 0) ∧ Hid (Turned [] x1 wx)))
  case first =>
    go_region_held3 (fun _ => True) (trivial) (first | (go_at_call 10; refine (HLe.out _ ?_).mono ?_; (focus (repeat first | exact Turned.refl _ _ | exact HTz.out | exact HTw.out | refine Turned.drew ?_ | refine Turned.alloc ?_ _)); rintro r z ⟨gl, rfl, hl, ht⟩; have HLt : Hid _ := hl; have HTl : Hid _ := ht; have HTz : Hid (Turned [] x1 z) := Turned.trans (l := []) (by (repeat first | exact Turned.refl _ _ | exact HTz.out | exact HTw.out | refine Turned.drew ?_ | refine Turned.alloc ?_ _)) ht; clear hl ht) | (refine step_roomO elD enD (g := x1.heap.size) (cap := D.length + 1) (cur := madeCells zD ((D.length + 1) * 8)) (u := .slice ad D.length cap) (M := D) rfl _ _ rfl ?_ (blk_new _ _) hsz ?_ (HVd.out _ ?_) (Nat.le_succ _) hcm ?_; (focus (simp [Act.eval]; done)); (focus (simp [Act.eval]; done)); (focus (repeat first | exact Turned.refl _ _ | exact HTz.out | exact HTw.out | refine Turned.drew ?_ | refine Turned.alloc ?_ _)); intro w2 ht hb; have HGv : Hid (Giv w2 x1.heap.size x1.heap.size D 0) := giv_of hb (Nat.le_refl _); have HTa : Hid _ := ht; have HTw : Hid (Turned [] x1 w2) := Turned.inner (l := []) (by (repeat first | exact Turned.refl _ _ | exact HTz.out | exact HTw.out | refine Turned.drew ?_ | refine Turned.alloc ?_ _)) ht (fun q hq => .inr (by rw [List.mem_singleton.1 hq]; exact (Nat.le_refl _))); clear ht hb) | (refine step_roomO elD enD (g := z.heap.size) (cap := D.length + 1) (cur := madeCells zD ((D.length + 1) * 8)) (u := .slice ad D.length cap) (M := D) rfl _ _ rfl ?_ (blk_new _ _) hsz ?_ (HVd.out _ ?_) (Nat.le_succ _) hcm ?_; (focus (simp [Act.eval]; done)); (focus (simp [Act.eval]; done)); (focus (repeat first | exact Turned.refl _ _ | exact HTz.out | exact HTw.out | refine Turned.drew ?_ | refine Turned.alloc ?_ _)); intro w2 ht hb; have HGv : Hid (Giv w2 x1.heap.size z.heap.size D 0) := giv_of hb HTz.out.size; have HTa : Hid _ := ht; have HTw : Hid (Turned [] x1 w2) := Turned.inner (l := []) (by (repeat first | exact Turned.refl _ _ | exact HTz.out | exact HTw.out | refine Turned.drew ?_ | refine Turned.alloc ?_ _)) ht (fun q hq => .inr (by rw [List.mem_singleton.1 hq]; exact HTz.out.size)); clear ht hb) | (refine step_roomO elD enD (g := x1.heap.size) (cap := D.length + 1) (cur := madeCells zD ((D.length + 1) * 8)) (u := .slice ad D.length cap) (M := D) rfl _ _ rfl ?_ (HTl.out.heap (blk_new _ _) (by simp)) hsz ?_ (HVd.out _ ?_) (Nat.le_succ _) hcm ?_; (focus (simp [Act.eval]; done)); (focus (simp [Act.eval]; done)); (focus (repeat first | exact Turned.refl _ _ | exact HTz.out | exact HTw.out | refine Turned.drew ?_ | refine Turned.alloc ?_ _)); intro w2 ht hb; have HGv : Hid (Giv w2 x1.heap.size x1.heap.size D 0) := giv_of hb (Nat.le_refl _); have HTa : Hid _ := ht; have HTw : Hid (Turned [] x1 w2) := Turned.inner (l := []) (by (repeat first | exact Turned.refl _ _ | exact HTz.out | exact HTw.out | refine Turned.drew ?_ | refine Turned.alloc ?_ _)) ht (fun q hq => .inr (by rw [List.mem_singleton.1 hq]; exact (Nat.le_refl _))); clear ht hb))
    all_goals
      go_wp2_with fail
      go_meet
      first | exact ⟨gl, z.heap.size, rfl, rfl, (lent_low HLt.out (Nat.le_refl _)).keep (((Turned.refl [z.heap.size] z).alloc _).trans HTa.out) (by have := lent_lt HLt.out; simp; omega), HGv, HTw⟩ | exact ⟨gl, x1.heap.size, rfl, rfl, (lent_low HLt.out (by simp)).keep HTa.out (by have := HLt.out.le; simp at this ⊢; omega), HGv, HTw⟩ | exact ⟨gl, x1.heap.size, rfl, rfl, lent_low HLt.out HTw.out.size, HGv.out.keep HTl.out (by simp), HTz⟩
  case rest =>
    obtain ⟨gl, gd, rfl, rfl, HLt, HGv, HTx⟩ := hcut.ex
    clear hcut HLe HVd hmk hsz hcm hwr
    obtain ⟨x2, rfl⟩ : ∃ x2, x2 = wc := ⟨_, rfl⟩
    obtain ⟨g0, -, -, g3, -, -, -, -, -, g9⟩ := HGv.out.room
    have HX : Hid (Turned [] w (x2.setCell ⟨gd, D.length * 8 + 2, none⟩ (.int .i64 77)) ∧ Lent (x2.setCell ⟨gd, D.length * 8 + 2, none⟩ (.int .i64 77)) w.heap.size gl F ∧ Giv (x2.setCell ⟨gd, D.length * 8 + 2, none⟩ (.int .i64 77)) w.heap.size gd D 77) := by
      have h1 : w.heap.size ≤ gd := Nat.le_trans H1.out.size HGv.out.le
      have ht : Turned [gd] x2 (x2.setCell ⟨gd, D.length * 8 + 2, none⟩ (.int .i64 77)) := (Turned.refl [gd] x2).set (by simp) _ _
      obtain ⟨c1, k1, _⟩ := HGv.out.bk
      obtain ⟨c2, k2, _⟩ := HLt.out.bk
      have hne : gl ≠ gd := tyne k2 k1 (by decide)
      have hg := HGv.out.mark 77
      exact ⟨(H1.out.trans HTx.out).set (.inr h1) _ _, (lent_low HLt.out H1.out.size).keep ht (by simpa using hne), ⟨hg.bk, h1⟩⟩
    go_upto_region 8 with fail
    clear g0 g3 g9
    generalize x2.setCell ⟨gd, D.length * 8 + 2, none⟩ (.int .i64 77) = x3 at HX ⊢
    obtain ⟨hx1, hx2, hx3⟩ := HX.out
    have HU : Hid (Turned [] w x3) := hx1
    have HL3 : Hid (Lent x3 w.heap.size gl F) := hx2
    have HG3 : Hid (Giv x3 w.heap.size gd D 77) := hx3
    clear hx1 hx2 hx3 HX HLt HGv HTx
    have HOr : Hid (∀ y, Turned [] w y → Lent y w.heap.size gl F → Giv y w.heap.size gd D 77 → Calls Tryd.prog 11 #[lentV gl F, givV gd D] y fun r w' => OrP D F y r w') := fun y h1 h2 h3 => cOrder h2.view h3.ds (by omega) (HT.out.1.keep h1 (by simp)) (Nat.lt_of_lt_of_le HT.out.2 h1.size) (fun b o e => by cases e; exact h3.room.1)
    by_cases g14 : 14 < D.length ∧ D.length ≤ 64
    · have d3 : decide ((14 : Int) < (D.length : Int)) = true := decide_eq_true (by omega)
      have d4 : decide ((D.length : Int) ≤ 64) = true := decide_eq_true (by omega)
      have hle64 := g14.2
      go_wp2_with (fail)
      refine (HOr.out _ HU.out HL3.out HG3.out).mono ?_
      intro r z hp
      obtain ⟨v, ok, e, rs, rfl, hr, -⟩ := hp.told
      have HE : Hid (e = chkD F.length D) := hr.err
      have HU4 : Hid (Turned [] w z) := HU.out.trans hp.tu
      clear hp hr
      go_wp2_with (fail)
      refine (cRefuses (fa := fa) (fc := fc) (m := F.length) (cap := cap) (HD.out.still HU4.out) hle64).mono ?_
      rintro r z2 ⟨rfl, t2⟩
      have HU5 : Hid (Turned [] w z2) := HU4.out.trans t2
      clear t2
      rw [HE.out]
      generalize chkD F.length D = q
      go_wp2
      go_ret
      exact ⟨rfl, HU5.out⟩
    · have h1464 : D.length ≤ 14 ∨ 64 < D.length := by omega
      have HRf : Hid (Calls Tryd.prog 13 #[.slice fa F.length fc, .slice ad D.length cap] x3 fun r w' => RoP D F x3 r w')   := HRO.out _ (HF.out.still HU.out) (HD.out.still HU.out) (by omega) h1464 (fun b o e => Nat.lt_of_lt_of_le (HBd.out b o e) HU.out.size)
      have hcase : (14 < D.length ∧ 64 < D.length) ∨ D.length ≤ 14 := by omega
      clear g14 h1464
      go_cut [4, 55] from 20 (fun r q wx => Bx (r = .bool false ∧ q = .bool false ∧ SameW x3 wx))
      case first =>
        rcases hcase with ⟨ha, hb⟩ | ha
        · have d3 : decide ((14 : Int) < (D.length : Int)) = true := decide_eq_true (by omega)
          have d4 : decide ((D.length : Int) ≤ 64) = false := decide_eq_false (by omega)
          go_wp2_with fail
          go_meet
          exact ⟨rfl, rfl, rfl⟩
        · have d3 : decide ((14 : Int) < (D.length : Int)) = false := decide_eq_false (by omega)
          go_wp2_with fail
          go_meet
          exact ⟨rfl, rfl, rfl⟩
      case rest =>
        obtain ⟨rfl, rfl, ew⟩ := hcut.ex
        have ew2 : x3 = wc := ew
        subst ew2
        clear hcut ew hcase
        go_wp2_with (fail)
        refine HRf.out.mono ?_
        intro r z hp
        obtain ⟨want, ok, e, ws, rfl, hR, hI⟩ := hp.told
        have HR : Hid (OrR D F ok e ws) := hR
        have HJ : Hid (JO w D F gl gd want ws z) := ⟨HU.out.trans hp.tu, HL3.out.keep hp.tu (by simp), HG3.out.keep hp.tu (by simp), hI.lower HU.out.size⟩
        have hwl : ws.length ≤ 1000 := by
          have := hR.short
          omega
        obtain ⟨wa, wc2, rfl⟩ := hI.form
        clear hp hR hI HRf HU HL3 HG3
        go_wp2_with (fail)
        go_loopw [14, 15, 16, 17, 18, 19] (fun n _ _ _ _ _ wx => Bx (∃ k : Nat, k ≤ 2 ∧ n = .int .i64 k ∧ Hid (JO w D F gl gd (.slice wa ws.length wc2) ws wx))) (fun n _ _ _ _ _ _ => 2 - (intOf n).toNat)
        case atStart => exact ⟨0, by omega, rfl, HJ⟩
        case round =>
          obtain ⟨k, hk, rfl, HJ1⟩ := hrel.ex
          clear hrel HJ
          obtain ⟨wo, rfl⟩ : ∃ wo, wo = wr := ⟨_, rfl⟩
          by_cases hlt : k < 2
          · go_wp2_with (fail)
            refine (HOr.out _ HJ1.out.tu HJ1.out.le HJ1.out.gv).mono ?_
            intro r z1 hp
            obtain ⟨v, ok', e', rs, rfl, hR, hI⟩ := hp.told
            obtain ⟨e1, e2, e3⟩ := hR.uniq HR.out
            subst e1 e2 e3
            have HJ2 : Hid (JO w D F gl gd (.slice wa rs.length wc2) rs z1) := HJ1.out.still hp.tu
            have HI2 : Hid (IR wo.heap.size z1 v rs) := hI
            have HTo : Hid (Turned [] wo z1) := hp.tu
            obtain ⟨va, vc, rfl⟩ := hI.form
            clear hp hR hI
            have P1 : ∀ y, Turned [] z1 y → Calls Tryd.prog 14 #[.slice va rs.length vc, .slice wa rs.length wc2] y fun r w' => r = .returned (.bool true) ∧ Turned [] y w' := fun y hy => (cSameI (HI2.out.view.still hy) (HJ2.out.wa.view.still hy) (by omega)).mono fun r w' ⟨h1, n, h2⟩ => ⟨by rw [h1, decide_eq_true rfl], by rw [h2]; exact (Turned.refl [] y).drewN n⟩
            have P2 : ∀ y, Turned [] z1 y → Calls Tryd.prog 15 #[lentV gl F, .slice fa F.length fc] y fun r w' => r = .returned (.bool true) ∧ Turned [] y w' := fun y hy => (cStays (HJ2.out.still hy).le (HF.out.still (HJ2.out.still hy).tu) (by omega)).mono fun r w' ⟨h1, n, h2⟩ => ⟨h1, by rw [h2]; exact (Turned.refl [] y).drewN n⟩
            have HP1 : Hid _ := P1
            have HP2 : Hid _ := P2
            have hneq := neqDd ⟨0, 0, 77, 0, 0, 0, 0, false⟩
            dsimp only at hneq
            clear P1 P2
            go_wp2_with (first
              | (go_at_call 14; refine (HP1.out _ (Turned.refl _ _)).mono ?_; rintro r z2 ⟨rfl, t2⟩; have HT2 : Hid (Turned [] z1 z2) := t2; clear t2)
              | (go_at_call 15; refine (HP2.out _ HT2.out).mono ?_; rintro r z3 ⟨rfl, t3⟩; have HT3 : Hid (Turned [] z1 z3) := HT2.out.trans t3; clear t3; obtain ⟨q0, q1, q2, q3, q4, q5, q6, q7, q8, -⟩ := (HJ2.out.still HT3.out).gv.room))
            clear q0 q1 q2 q3 q4 q5 q6 q7 q8 hneq HP1 HP2
            rename_i K1 hK1
            have HK1 : Hid _ := hK1
            clear hK1
            go_loopw [18] (fun i wx => Bx (∃ j : Nat, j ≤ D.length ∧ i = .int .i64 j ∧ Hid (Turned [] z1 wx))) (fun i _ => D.length - (intOf i).toNat)
            case atStart => exact ⟨0, Nat.zero_le _, rfl, HT3.out⟩
            case round =>
              obtain ⟨j, hj, rfl, HTj⟩ := hrel.ex
              clear hrel
              by_cases hlj : j < D.length
              · have hdj : D[j]? = some (dAt D j) := by unfold dAt; simp [hlj]
                obtain ⟨b1, o1, eb1, bl1, ⟨a0, a1, a2, a3, a4, a5, a6, a7⟩⟩ := (HJ2.out.still HTj.out).gv.ds.deed hdj
                simp only [Option.some.injEq, Addr.mk.injEq] at eb1
                obtain ⟨rfl, rfl, -⟩ := eb1
                obtain ⟨b2, o2, rfl, bl2, ⟨c0, c1, c2, c3, c4, c5, c6, c7⟩⟩ := (HD.out.still (HJ2.out.still HTj.out).tu).deed hdj
                simp only [Nat.zero_add] at a0 a1 a2 a3 a4 a5 a6 a7
                have hneq := neqDd (dAt D j)
                clear hdj
                go_wp2
                go_quiet (fail)
                go_wp2
                go_roundw
                case rel => exact ⟨j + 1, by omega, by go_num, HTj.out.drewN _⟩
                case measure => simp [intOf]; omega
              · obtain rfl : j = D.length := by omega
                obtain ⟨w4, rfl⟩ : ∃ w4, w4 = wr := ⟨_, rfl⟩
                clear hj hlj
                go_wp2
                refine HK1.out _ _ ?_
                clear HK1
                have HQ : Hid (∃ l : List Int, l.length = rs.length ∧ IR wo.heap.size w4 (.slice va rs.length vc) l ∧ Turned [] wo w4) := ⟨rs, rfl, HI2.out.still HTj.out, HTo.out.trans HTj.out⟩
                clear HTj HT3 HI2 HTo HJ2
                go_wp2
                go_loopw [19] (fun i wx => Bx (∃ j : Nat, j ≤ rs.length ∧ i = .int .i64 j ∧ Hid (∃ l : List Int, l.length = rs.length ∧ IR wo.heap.size wx (.slice va rs.length vc) l ∧ Turned [] wo wx))) (fun i _ => rs.length - (intOf i).toNat)
                case atStart => exact ⟨0, Nat.zero_le _, rfl, HQ⟩
                case round =>
                  obtain ⟨j, hj, rfl, HQ1⟩ := hrel.ex
                  clear hrel HQ
                  by_cases hlj : j < rs.length
                  · obtain ⟨l, l1, l2, l3⟩ := HQ1.out
                    obtain ⟨g, c, ev⟩ := l2.at_ (fun e => by rw [e] at l1; simp at l1; omega)
                    simp only [Value.slice.injEq] at ev
                    obtain ⟨rfl, -, -⟩ := ev
                    obtain ⟨cs, hcs⟩ := l2.type rfl
                    have f1 := lt_of_heap hcs
                    have f2 := (show IR wo.heap.size wr (.slice (some ⟨g, 0, none⟩) l.length vc) l by rw [l1]; exact l2).cells (i := j) (by omega)
                    have f3 := froz_at hcs j
                    have HQ2 : Hid (∃ l' : List Int, l'.length = rs.length ∧ IR wo.heap.size (wr.setCell ⟨g, j, none⟩ (.int .i64 (-1))) (.slice (some ⟨g, 0, none⟩) rs.length vc) l' ∧ Turned [] wo (wr.setCell ⟨g, j, none⟩ (.int .i64 (-1)))) := ⟨l.set j (-1), by simp [l1], l2.put j (-1), l3.set (.inr (l2.fresh rfl).1) _ _⟩
                    clear l2 l3 hcs HQ1
                    go_wp2
                    go_roundw
                    case rel => exact ⟨j + 1, by omega, by go_num, HQ2⟩
                    case measure => simp [intOf]; omega
                  · obtain ⟨w5, rfl⟩ : ∃ w5, w5 = wr := ⟨_, rfl⟩
                    have HJ5 : Hid (JO w D F gl gd (.slice wa rs.length wc2) rs w5) := by
                      obtain ⟨l, -, -, l3⟩ := HQ1.out
                      exact HJ1.out.still l3
                    obtain rfl : j = rs.length := by omega
                    clear HQ1 hj hlj
                    go_wp2
                    go_roundw
                    case rel => exact ⟨k + 1, by omega, by go_num, HJ5⟩
                    case measure => simp [intOf]; omega
          · obtain rfl : k = 2 := by omega
            go_wp2
            go_ret
            exact ⟨rfl, HJ1.out.tu⟩
end Go.Proofs.YtfhoflcecbdncaaDoor
/- A frame, spelled out. -/
namespace Go.Proofs.YtfhoflcecbdncaaDoor
open Go.RowKit
def lit167 (c : Nat → Value) : Array Value := #[c 0, c 1, c 2, c 3, c 4, c 5, c 6, c 7, c 8, c 9, c 10, c 11, c 12, c 13, c 14, c 15, c 16, c 17, c 18, c 19, c 20, c 21, c 22, c 23, c 24, c 25, c 26, c 27, c 28, c 29, c 30, c 31, c 32, c 33, c 34, c 35, c 36, c 37, c 38, c 39, c 40, c 41, c 42, c 43, c 44, c 45, c 46, c 47, c 48, c 49, c 50, c 51, c 52, c 53, c 54, c 55, c 56, c 57, c 58, c 59, c 60, c 61, c 62, c 63, c 64, c 65, c 66, c 67, c 68, c 69, c 70, c 71, c 72, c 73, c 74, c 75, c 76, c 77, c 78, c 79, c 80, c 81, c 82, c 83, c 84, c 85, c 86, c 87, c 88, c 89, c 90, c 91, c 92, c 93, c 94, c 95, c 96, c 97, c 98, c 99, c 100, c 101, c 102, c 103, c 104, c 105, c 106, c 107, c 108, c 109, c 110, c 111, c 112, c 113, c 114, c 115, c 116, c 117, c 118, c 119, c 120, c 121, c 122, c 123, c 124, c 125, c 126, c 127, c 128, c 129, c 130, c 131, c 132, c 133, c 134, c 135, c 136, c 137, c 138, c 139, c 140, c 141, c 142, c 143, c 144, c 145, c 146, c 147, c 148, c 149, c 150, c 151, c 152, c 153, c 154, c 155, c 156, c 157, c 158, c 159, c 160, c 161, c 162, c 163, c 164, c 165, c 166]
set_option maxRecDepth 100000 in
theorem lit167_eq (c : Nat → Value) : lit167 c = ((List.range 167).map c).toArray := by rfl
theorem expand167 {a : Act} (hs : a.tmps.size = 167) (hd : a.defers = []) : ∃ c : Nat → Value, a = ⟨lit167 c, []⟩ ∧ ∀ s, c s = a.eval (.tmp s) := by
  refine ⟨fun s => a.tmps.getD s undef, ?_, fun s => rfl⟩
  obtain ⟨t, d⟩ := a
  simp only at hs hd
  subst hd
  congr 1
  rw [lit167_eq]
  refine Array.ext (by simp [hs]) fun i h1 h2 => ?_
  simp [Array.getD, h1]
theorem expand167d {a : Act} {ds : List Deferred} (hs : a.tmps.size = 167) (hd : a.defers = ds) : ∃ c : Nat → Value, a = ⟨lit167 c, ds⟩ ∧ ∀ s, c s = a.eval (.tmp s) := by
  refine ⟨fun s => a.tmps.getD s undef, ?_, fun s => rfl⟩
  obtain ⟨t, d⟩ := a
  simp only at hs hd
  subst hd
  congr 1
  rw [lit167_eq]
  refine Array.ext (by simp [hs]) fun i h1 h2 => ?_
  simp [Array.getD, h1]
end Go.Proofs.YtfhoflcecbdncaaDoor
/-
  The document's search by contract: the end of its walk. (By the verifier; no statement.)
-/
namespace Go.Proofs.YtfhoflcecbdncaaDoor
open Go.RowKit
set_option maxRecDepth 100000 in
set_option maxHeartbeats 12800000 in
theorem goes_end {D : List Dd} {m B xb vb : Nat} {ad : Option Addr} {cap : Nat} {bs : List Bool} {cs : List Int} {os : List Nat} {gs0 gs : List Nat} {N : Nat} {w x3 : World} {p : SP} {oa : Option Addr} {oc sb : Nat} {a : Act} (hol : os.length ≤ D.length) (HBd : Hid (∀ b o, ad = some ⟨b, o, none⟩ → b < B)) (HN : Hid (N + tN (outN D.length (pL bs)) ≤ tN 14)) (HT1 : Hid (outN D.length (pL bs) = outN D.length (pL bs) - 1 + 1)) (HNo : Hid (¬ Can D (pL bs) (vL cs)))
    (HG6 : Hid (GI D m B xb vb ad cap bs cs os w gs0 sb p oa oc (N + outN D.length (pL bs) * tN (outN D.length (pL bs) - 1)) x3 gs)) (hs : a.tmps.size = 167) (hd : a.defers = []) (p0 : a.eval (.tmp 0) = .pointer (some ⟨xb, 0, none⟩)) (p4 : a.eval (.tmp 4) = .pointer (some ⟨sb, 0, none⟩)) (p10 : a.eval (.tmp 10) = .int .i64 (os.length : Int)) :
    (atc Tryd.f35.body [1, 1, 1, 1, 1, 1, 1]).wp Tryd.prog (bodyPost Tryd.prog Tryd.f35 fun r w' => GoP D m B xb vb (.slice ad D.length cap) bs cs os gs0 N w r w') a x3 := by
  obtain ⟨cc, hcc, hce⟩ := expand167 hs hd
  have z0 := (hce 0).trans p0
  have z4 := (hce 4).trans p4
  have z10 := (hce 10).trans p10
  clear hce p0 p4 p10 hs hd
  subst hcc
  conv => arg 2; whnf
  unfold lit167
  simp only [z0, z4, z10]
  obtain ⟨v, R, c1, hO, hRn, hgs, hvb, hxb, hpush⟩ := HG6.out.hu.push hol HG6.out.st HNo.out
  obtain ⟨va, vc, rfl⟩ := hO.slice
  have HOo : Hid (∀ y, Turned [] x3 y → OW 86 2 (encS D.length m) B y (.slice va R.length vc) R) := fun y hy => hO.still hy
  have HPs : Hid _ := hpush
  have hBx : B ≤ x3.heap.size := HG6.out.hu.bw
  have hby2 : (R.length + [p].length) * 48 ≤ 140737488355328 := by
    have h1 := HN.out
    have h2 : tN 14 ≤ 1000000000000 := by decide
    have h3 : tN (outN D.length (pL bs)) = 1 + (outN D.length (pL bs) - 1 + 1) * tN (outN D.length (pL bs) - 1) := by
      conv => lhs; rw [HT1.out]
      rfl
    rw [← HT1.out] at h3
    simp only [List.length_cons, List.length_nil]
    omega
  have HOne : Hid (∀ (i : Nat) (u : Value), ([p].flatMap (encS D.length m))[i]? = some u → (#[Value.slice p.1.1 D.length p.1.2, Value.slice p.2.1 m p.2.2] : Array Value)[i]? = some u) := fun i u hu => by simpa [encS] using hu
  have HSa : Hid (∀ y, Turned [] x3 y → (xb < y.heap.size ∧ y.cell? ⟨xb, 1, none⟩ = some (.slice (some ⟨vb, 0, none⟩) (D.length + 1) (D.length + 1)) ∧ sb < y.heap.size ∧ y.cell? ⟨sb, 0, none⟩ = some (.slice p.1.1 D.length p.1.2) ∧ y.cell? ⟨sb, 1, none⟩ = some (.slice p.2.1 m p.2.2))) := fun y hy => by
    obtain ⟨r1, -, r5, r3, r4, r6⟩ := (HG6.out.still hy).reads
    exact ⟨r1, r5, r3, r4, r6⟩
  have HCl : Hid (∀ y w2, Turned [] x3 y → Turned (Value.slice va R.length vc).ownBlock.toList y w2 → (vb < w2.heap.size ∧ w2.cell? ⟨vb, os.length, none⟩ = some (.slice va R.length vc) ∧ w2.frozen? ⟨vb, os.length, none⟩ = false) ∧ (xb < w2.heap.size ∧ w2.cell? ⟨xb, 1, none⟩ = some (.slice (some ⟨vb, 0, none⟩) (D.length + 1) (D.length + 1)) ∧ sb < w2.heap.size ∧ w2.cell? ⟨sb, 0, none⟩ = some (.slice p.1.1 D.length p.1.2) ∧ w2.cell? ⟨sb, 1, none⟩ = some (.slice p.2.1 m p.2.2)) ∧ ∀ v2, (xb < (w2.setCell ⟨vb, os.length, none⟩ v2).heap.size ∧ (w2.setCell ⟨vb, os.length, none⟩ v2).cell? ⟨xb, 1, none⟩ = some (.slice (some ⟨vb, 0, none⟩) (D.length + 1) (D.length + 1)) ∧ sb < (w2.setCell ⟨vb, os.length, none⟩ v2).heap.size ∧ (w2.setCell ⟨vb, os.length, none⟩ v2).cell? ⟨sb, 0, none⟩ = some (.slice p.1.1 D.length p.1.2) ∧ (w2.setCell ⟨vb, os.length, none⟩ v2).cell? ⟨sb, 1, none⟩ = some (.slice p.2.1 m p.2.2))) := fun y w2 h1 h2 => by
    obtain ⟨cs9, _, _, h3, _⟩ := HG6.out.hu.ex
    have h4 := h2.heap (h1.heap h3 (by simp)) hvb
    have h5 := h2.heap (h1.heap HG6.out.hu.hx (by simp)) hxb
    have nsb := HG6.out.nsb
    have h6 := h2.heap (h1.heap HG6.out.sk (by simp)) (fun hm => nsb (List.mem_cons_of_mem _ (hgs sb (by simpa using hm))))
    refine ⟨⟨lt_of_heap h4, ?_, froz_at h4 _⟩, ⟨lt_of_heap h5, by rw [cell_at h5]; rfl, lt_of_heap h6, by rw [cell_at h6]; rfl, by rw [cell_at h6]; rfl⟩, fun v2 => ?_⟩
    · rw [cell_at h4, ← cell_at h3]
      exact c1
    · have ht : Turned [vb] w2 (w2.setCell ⟨vb, os.length, none⟩ v2) := (Turned.refl [vb] w2).set (by simp) _ _
      have h7 := ht.heap h5 (by simpa using HG6.out.hu.ne.1)
      have h8 := ht.heap h6 (by simpa using fun e : sb = vb => nsb (by rw [e]; exact List.mem_cons_self))
      exact ⟨lt_of_heap h7, by rw [cell_at h7]; rfl, lt_of_heap h8, by rw [cell_at h8]; rfl, by rw [cell_at h8]; rfl⟩
  have HNe : Hid (N + outN D.length (pL bs) * tN (outN D.length (pL bs) - 1) + 1 ≤ N + tN (outN D.length (pL bs))) := by
    have h3 : tN (outN D.length (pL bs)) = 1 + (outN D.length (pL bs) - 1 + 1) * tN (outN D.length (pL bs) - 1) := by
      conv => lhs; rw [HT1.out]
      rfl
    rw [← HT1.out] at h3
    rw [Hid]
    omega
  have rv : vb < x3.heap.size := World.block_lt_of_cell? _ _ c1
  clear hO hpush hvb hxb hRn hgs
  have hlt9 : (os.length : Int) < (D.length : Int) + 1 := by omega
  refine wp_seq_k fun K0 hK0 => ?_
  have HK0 : Hid _ := hK0
  clear hK0
  obtain ⟨⟨r1, r5, r3, r4, r6⟩, HSb⟩ : (_ ∧ True) := ⟨HSa.out x3 (Turned.refl _ _), trivial⟩
  clear HSb
  go_region_law (first | (refine step_apO elS (enS D.length m) (B := B) (v := .slice va R.length vc) (u := .slice (some ⟨x3.heap.size, 0, none⟩) 1 1) (R := R) (M := [p]) rfl _ _ rfl ?_ (HOo.out _ ?_) ?_ (VW.block (R := [p]) (c := 1) (blk_new _ _) HOne.out) hby2 ?_ ?_; (focus (simp [Act.eval]; done)); (repeat first | exact Turned.refl _ _ | refine Turned.drew ?_ | refine Turned.alloc ?_ _); (focus (simp [Act.eval]; done)); (focus (refine Nat.le_trans hBx ?_; simp)); intro v2 w2 ho ht hv; obtain ⟨g2, c2, rfl⟩ := ho.somes; obtain ⟨⟨q1, q2, q3⟩, q4, -⟩ := HCl.out _ w2 (by (repeat first | exact Turned.refl _ _ | refine Turned.drew ?_ | refine Turned.alloc ?_ _)) ht; obtain ⟨q4, q5, q6, q7, q8⟩ := q4; have HPu : Hid _ := HPs.out _ _ w2 (by (repeat first | exact Turned.refl _ _ | refine Turned.drew ?_ | refine Turned.alloc ?_ _)) ho ht hv; clear ho ht hv))
  all_goals
    refine HK0.out _ _ ?_
    clear HK0
    obtain ⟨T1, gs9, U1, S1⟩ := HPu.out
    have HG9 : Hid (GI D m B xb vb ad cap bs cs os w gs0 sb p oa oc (N + outN D.length (pL bs) * tN (outN D.length (pL bs) - 1) + 1) _ gs9) := HG6.out.step HBd.out T1 U1 S1
    clear HPu T1 U1 S1
    go_wp2
    go_ret2
    exact ⟨HG9.out.tu, ⟨gs9, HG9.out.hu.mono HNe.out, HG9.out.sub⟩, none, _, false, rfl, HNo.out, .inr ⟨rfl, rfl, rfl⟩⟩
end Go.Proofs.YtfhoflcecbdncaaDoor

/-
  refuses by contract: the error of Order, ahead of the search. (By the verifier; no statement.)
-/
import Derived.Test.YtfhoflcecbdncaaDoorJ24
import Derived.Test.YtfhoflcecbdncaaDoorJ28
import Derived.Test.YtfhoflcecbdncaaDoorJ25
import Derived.Test.YtfhoflcecbdncaaDoorJ22
namespace Go.Proofs.YtfhoflcecbdncaaDoor
open Go.RowKit
theorem chk_m {m : Nat} {D : List Dd} (h : ¬ (m = 0 ∨ 256 < m)) (hn : D.length ≤ 64) : chkD m D = if D.all (rightB m) then (if D.all (fun d => decide (cntB D d.b ≤ 8)) then 0 else 201) else 200 := by
  unfold chkD
  rw [if_neg (by omega)]
set_option maxRecDepth 100000 in
set_option maxHeartbeats 12800000 in
theorem cRefuses {w : World} {D : List Dd} {fa ad : Option Addr} {m fc cap : Nat} (hD : DsAt w ad D) (hn : D.length ≤ 64) : Calls Tryd.prog 12 #[.slice fa m fc, .slice ad D.length cap] w fun r w' => r = .returned (.int .i64 (chkD m D)) ∧ Turned [] w w' := by
  have HD : Hid (DsAt w ad D) := hD
  clear hD
  by_cases g0 : m = 0
  · have HC : Hid (chkD m D = 201) := by rw [Hid, chkD, if_pos (by omega)]
    subst g0
    go_enter Tryd.func12, Tryd.ntmps12
    go_wp2
    go_ret
    exact ⟨by rw [HC.out]; rfl, Turned.refl _ _⟩
  have d0 : ((m : Int) == 0) = false := by simpa using g0
  by_cases g1 : 256 < m
  · have HC : Hid (chkD m D = 201) := by rw [Hid, chkD, if_pos (by omega)]
    have d1 : decide ((256 : Int) < (m : Int)) = true := decide_eq_true (by omega)
    clear g0 g1
    go_enter Tryd.func12, Tryd.ntmps12
    go_wp2
    go_ret
    exact ⟨by rw [HC.out]; rfl, Turned.refl _ _⟩
  have HC : Hid (chkD m D = if D.all (rightB m) then (if D.all (fun d => decide (cntB D d.b ≤ 8)) then 0 else 201) else 200) := chk_m (by omega) hn
  have d1 : decide ((256 : Int) < (m : Int)) = false := decide_eq_false (by omega)
  clear g0 g1
  go_enter Tryd.func12, Tryd.ntmps12
  go_wp2
  go_loopw [5, 6] (fun i _ wx => ∃ k : Nat, k ≤ D.length ∧ i = .int .i64 k ∧ Hid ((D.take k).all (rightB m) = true) ∧ Hid (Turned [] w wx)) (fun i _ _ => D.length - (intOf i).toNat)
  case atStart => exact ⟨0, Nat.zero_le _, rfl, rfl, Turned.refl _ _⟩
  case round =>
    obtain ⟨k, hk, rfl, HA, HT⟩ := hrel
    by_cases hlt : k < D.length
    · obtain ⟨d, hd⟩ : ∃ d, D[k]? = some d := ⟨_, List.getElem?_eq_getElem hlt⟩
      obtain ⟨b, o, rfl, hb, h0, h1, h2, h3, h4, h5, h6, h7⟩ := (HD.out.still HT.out).all k d hd
      have Hd : Hid (D[k]? = some d) := hd
      clear hd
      obtain ⟨db, de, dk, da, dx, dc, dn, dok⟩ := d
      dsimp only at h0 h1 h2 h3 h4 h5 h6 h7
      by_cases k1 : dk < 1
      · have ek1 : decide (dk < 1) = true := decide_eq_true k1
        have HR : Hid (rightB m ⟨db, de, dk, da, dx, dc, dn, dok⟩ = false) := by
          rw [Hid, rightB, timeB, Bool.eq_false_iff]
          intro hq
          simp only [Bool.and_eq_true, Bool.or_eq_true, decide_eq_true_eq] at hq
          omega
        clear k1
        go_wp2
        go_ret
        exact ⟨by rw [HC.out, all_no Hd.out HR.out]; rfl, HT.out.alloc _⟩
      have ek1 : decide (dk < 1) = false := decide_eq_false k1
      by_cases k2 : 7 < dk
      · have ek2 : decide (7 < dk) = true := decide_eq_true k2
        have HR : Hid (rightB m ⟨db, de, dk, da, dx, dc, dn, dok⟩ = false) := by
          rw [Hid, rightB, timeB, Bool.eq_false_iff]
          intro hq
          simp only [Bool.and_eq_true, Bool.or_eq_true, decide_eq_true_eq] at hq
          omega
        clear k2
        go_wp2
        go_ret
        exact ⟨by rw [HC.out, all_no Hd.out HR.out]; rfl, HT.out.alloc _⟩
      have ek2 : decide (7 < dk) = false := decide_eq_false k2
      by_cases k3 : da < 0
      · have ek3 : decide (da < 0) = true := decide_eq_true k3
        have HR : Hid (rightB m ⟨db, de, dk, da, dx, dc, dn, dok⟩ = false) := by
          rw [Hid, rightB, timeB, Bool.eq_false_iff]
          intro hq
          simp only [Bool.and_eq_true, Bool.or_eq_true, decide_eq_true_eq] at hq
          omega
        clear k3
        go_wp2
        go_ret
        exact ⟨by rw [HC.out, all_no Hd.out HR.out]; rfl, HT.out.alloc _⟩
      have ek3 : decide (da < 0) = false := decide_eq_false k3
      by_cases k4 : (m : Int) ≤ da
      · have ek4 : decide ((m : Int) ≤ da) = true := decide_eq_true k4
        have HR : Hid (rightB m ⟨db, de, dk, da, dx, dc, dn, dok⟩ = false) := by
          rw [Hid, rightB, timeB, Bool.eq_false_iff]
          intro hq
          simp only [Bool.and_eq_true, Bool.or_eq_true, decide_eq_true_eq] at hq
          omega
        clear k4
        go_wp2
        go_ret
        exact ⟨by rw [HC.out, all_no Hd.out HR.out]; rfl, HT.out.alloc _⟩
      have ek4 : decide ((m : Int) ≤ da) = false := decide_eq_false k4
      by_cases k5 : db < 1
      · have ek5 : decide (db < 1) = true := decide_eq_true k5
        have HR : Hid (rightB m ⟨db, de, dk, da, dx, dc, dn, dok⟩ = false) := by
          rw [Hid, rightB, timeB, Bool.eq_false_iff]
          intro hq
          simp only [Bool.and_eq_true, Bool.or_eq_true, decide_eq_true_eq] at hq
          omega
        clear k5
        go_wp2
        go_ret
        exact ⟨by rw [HC.out, all_no Hd.out HR.out]; rfl, HT.out.alloc _⟩
      have ek5 : decide (db < 1) = false := decide_eq_false k5
      by_cases k6 : de = 0
      · have HR : Hid (rightB m ⟨db, de, dk, da, dx, dc, dn, dok⟩ = true) := by
          rw [Hid, rightB, timeB]
          simp only [Bool.and_eq_true, Bool.or_eq_true, decide_eq_true_eq]
          omega
        subst k6
        clear k1 k2 k3 k4 k5
        go_wp2
        go_roundw
        case rel => exact ⟨k + 1, by omega, by go_num, by rw [Hid, all_take Hd.out, HA.out, HR.out]; rfl, HT.out.alloc _⟩
        case measure => simp [intOf]; omega
      have ek6 : (de != 0) = true := by simpa using k6
      by_cases k7 : de < db
      · have ek7 : decide (de < db) = true := decide_eq_true k7
        have HR : Hid (rightB m ⟨db, de, dk, da, dx, dc, dn, dok⟩ = false) := by
          rw [Hid, rightB, timeB, Bool.eq_false_iff]
          intro hq
          simp only [Bool.and_eq_true, Bool.or_eq_true, decide_eq_true_eq] at hq
          omega
        clear k1 k2 k3 k4 k5 k6 k7
        go_wp2
        go_ret
        exact ⟨by rw [HC.out, all_no Hd.out HR.out]; rfl, HT.out.alloc _⟩
      · have ek7 : decide (de < db) = false := decide_eq_false k7
        have HR : Hid (rightB m ⟨db, de, dk, da, dx, dc, dn, dok⟩ = true) := by
          rw [Hid, rightB, timeB]
          simp only [Bool.and_eq_true, Bool.or_eq_true, decide_eq_true_eq]
          omega
        clear k1 k2 k3 k4 k5 k6 k7
        go_wp2
        go_roundw
        case rel => exact ⟨k + 1, by omega, by go_num, by rw [Hid, all_take Hd.out, HA.out, HR.out]; rfl, HT.out.alloc _⟩
        case measure => simp [intOf]; omega
    · obtain rfl : k = D.length := by omega
      have HA2 : Hid (D.all (rightB m) = true) := by
        have := HA.out
        rw [List.take_length] at this
        exact this
      clear HA hlt hk
      have HCn : Hid (∀ t, cntB D t ≤ 64) := fun t => Nat.le_trans (List.length_filter_le _ _) hn
      go_wp2
      go_loopw [7, 8, 9] (fun i _ _ wx => ∃ j : Nat, j ≤ D.length ∧ i = .int .i64 j ∧ Hid ((D.take j).all (fun d => decide (cntB D d.b ≤ 8)) = true) ∧ Hid (Turned [] w wx)) (fun i _ _ _ => D.length - (intOf i).toNat)
      case atStart => exact ⟨0, Nat.zero_le _, rfl, rfl, HT⟩
      case round =>
        obtain ⟨j, hj, rfl, HB, HT2⟩ := hrel
        by_cases hlt2 : j < D.length
        · obtain ⟨b, o, rfl⟩ : ∃ b o, ad = some ⟨b, o, none⟩ := by
            obtain ⟨b, o, e, _⟩ := HD.out.all j _ (List.getElem?_eq_getElem hlt2)
            exact ⟨b, o, e⟩
          have HDa : Hid (∀ y, Turned [] w y → ∀ j, j < D.length → b < y.heap.size ∧ DAt y b o j (dAt D j)) := fun y hy j hj => by
            have hd : D[j]? = some (dAt D j) := by unfold dAt; simp [hj]
            obtain ⟨b', o', e, hb, h⟩ := (HD.out.still hy).deed hd
            cases e
            exact ⟨hb, h⟩
          have Hdj : Hid (D[j]? = some (dAt D j)) := by unfold dAt; simp [Hid, hlt2]
          go_wp2
          rename_i K hK
          have HK : Hid _ := hK
          clear hK
          obtain ⟨w2, hw2⟩ : ∃ w2, w2 = wr := ⟨_, rfl⟩
          have HT4 : Hid (Turned [] w w2) := by rw [Hid, hw2]; exact HT2.out
          rw [← hw2]
          clear hw2 HT2
          go_loopw [8, 9] (fun c i wx => ∃ l : Nat, l ≤ D.length ∧ c = .int .i64 (cntB (D.take l) (dAt D j).b : Nat) ∧ i = .int .i64 l ∧ Hid (Turned [] w wx)) (fun _ i _ => D.length - (intOf i).toNat)
          case atStart => exact ⟨0, Nat.zero_le _, rfl, rfl, HT4⟩
          case round =>
            obtain ⟨l, hl, rfl, rfl, HT3⟩ := hrel
            by_cases hl2 : l < D.length
            · have hcl : cntB (D.take l) (dAt D j).b ≤ 64 := Nat.le_trans (List.length_filter_le _ _) (by rw [List.length_take]; omega)
              obtain ⟨bl, dj⟩ := HDa.out wr HT3.out j hlt2
              obtain ⟨-, dl⟩ := HDa.out wr HT3.out l hl2
              have j0 := dj.h0
              have l0 := dl.h0
              have l1 := dl.h1
              clear dj dl
              by_cases g2 : (dAt D l).b ≤ (dAt D j).b
              · have f2 : decide ((dAt D l).b ≤ (dAt D j).b) = true := decide_eq_true g2
                by_cases g3 : (dAt D l).e = 0
                · have f3 : ((dAt D l).e == 0) = true := by simpa using g3
                  have HN : Hid (cntB (D.take (l + 1)) (dAt D j).b = cntB (D.take l) (dAt D j).b + 1) := by
                    rw [Hid, cnt_take (t := (dAt D j).b) (show D[l]? = some (dAt D l) by unfold dAt; simp [hl2]), show inB (dAt D j).b (dAt D l) = true by unfold inB wasA; simp; omega]
                    rfl
                  clear g2 g3
                  go_wp2
                  go_quiet (fail)
                  go_wp2
                  go_roundw
                  case rel => exact ⟨l + 1, by omega, by rw [HN.out]; go_num, by go_num, HT3.out.drewN _⟩
                  case measure => simp [intOf]; omega
                · have f3 : ((dAt D l).e == 0) = false := by simpa using g3
                  by_cases g4 : (dAt D j).b ≤ (dAt D l).e
                  · have f4 : decide ((dAt D j).b ≤ (dAt D l).e) = true := decide_eq_true g4
                    have HN : Hid (cntB (D.take (l + 1)) (dAt D j).b = cntB (D.take l) (dAt D j).b + 1) := by
                      rw [Hid, cnt_take (t := (dAt D j).b) (show D[l]? = some (dAt D l) by unfold dAt; simp [hl2]), show inB (dAt D j).b (dAt D l) = true by unfold inB wasA; simp; omega]
                      rfl
                    clear g2 g3 g4
                    go_wp2
                    go_quiet (fail)
                    go_wp2
                    go_roundw
                    case rel => exact ⟨l + 1, by omega, by rw [HN.out]; go_num, by go_num, HT3.out.drewN _⟩
                    case measure => simp [intOf]; omega
                  · have f4 : decide ((dAt D j).b ≤ (dAt D l).e) = false := decide_eq_false g4
                    have HN : Hid (cntB (D.take (l + 1)) (dAt D j).b = cntB (D.take l) (dAt D j).b + 0) := by
                      rw [Hid, cnt_take (t := (dAt D j).b) (show D[l]? = some (dAt D l) by unfold dAt; simp [hl2]), show inB (dAt D j).b (dAt D l) = false by unfold inB wasA; simp; omega]
                      rfl
                    clear g2 g3 g4
                    go_wp2
                    go_quiet (fail)
                    go_wp2
                    go_roundw
                    case rel => exact ⟨l + 1, by omega, by rw [HN.out]; go_num, by go_num, HT3.out.drewN _⟩
                    case measure => simp [intOf]; omega
              · have f2 : decide ((dAt D l).b ≤ (dAt D j).b) = false := decide_eq_false g2
                have HN : Hid (cntB (D.take (l + 1)) (dAt D j).b = cntB (D.take l) (dAt D j).b + 0) := by
                  rw [Hid, cnt_take (t := (dAt D j).b) (show D[l]? = some (dAt D l) by unfold dAt; simp [hl2]), show inB (dAt D j).b (dAt D l) = false by unfold inB wasA; simp; omega]
                  rfl
                clear g2
                go_wp2
                go_quiet (fail)
                go_wp2
                go_roundw
                case rel => exact ⟨l + 1, by omega, by rw [HN.out]; go_num, by go_num, HT3.out.drewN _⟩
                case measure => simp [intOf]; omega
            · obtain rfl : l = D.length := by omega
              rw [List.take_length]
              clear hl hl2
              go_wp2
              refine HK.out _ _ ?_
              clear HK
              have hc64 := HCn.out (dAt D j).b
              by_cases h8 : cntB D (dAt D j).b ≤ 8
              · have d5 : decide ((8 : Int) < (cntB D (dAt D j).b : Nat)) = false := decide_eq_false (by omega)
                have HB2 : Hid ((D.take (j + 1)).all (fun d => decide (cntB D d.b ≤ 8)) = true) := by rw [Hid, all_take Hdj.out, HB.out]; simp [h8]
                go_wp2
                go_roundw
                case rel => exact ⟨j + 1, by omega, by go_num, HB2, HT3⟩
                case measure => simp [intOf]; omega
              · have d5 : decide ((8 : Int) < (cntB D (dAt D j).b : Nat)) = true := decide_eq_true (by omega)
                go_wp2
                go_ret
                exact ⟨by rw [HC.out, HA2.out, all_no (p := fun d => decide (cntB D d.b ≤ 8)) Hdj.out (by simp [h8])]; rfl, HT3.out⟩
        · obtain rfl : j = D.length := by omega
          have HB2 : Hid (D.all (fun d => decide (cntB D d.b ≤ 8)) = true) := by
            have := HB.out
            rw [List.take_length] at this
            exact this
          go_wp2
          go_ret
          exact ⟨by rw [HC.out, HA2.out, HB2.out]; rfl, HT2.out⟩
end Go.Proofs.YtfhoflcecbdncaaDoor
/-
  JudgeOrders: what its walk stands on. (By the verifier; no statement.)
-/
namespace Go.Proofs.YtfhoflcecbdncaaDoor
open Go.RowKit
/-- What Order must answer. -/
def OrR (D : List Dd) (F : List Int) (ok : Bool) (e : Int) (rs : List Int) : Prop := (chkD F.length D ≠ 0 ∧ ok = false ∧ e = chkD F.length D ∧ rs = []) ∨ (chkD F.length D = 0 ∧ e = 0 ∧ ∃ an, Ans D (bitsP 0) (v0F F) an ∧ ok = an.isSome ∧ rs = ints (an.getD []))
theorem OrR.uniq {D : List Dd} {F : List Int} {ok ok' : Bool} {e e' : Int} {rs rs' : List Int} (h : OrR D F ok e rs) (h' : OrR D F ok' e' rs') : ok = ok' ∧ e = e' ∧ rs = rs' := by
  rcases h with ⟨h0, h1, h2, h3⟩ | ⟨h0, h1, an, h2, h3, h4⟩
  · rcases h' with ⟨_, k1, k2, k3⟩ | ⟨k0, _⟩
    · exact ⟨by rw [h1, k1], by rw [h2, k2], by rw [h3, k3]⟩
    · exact absurd k0 h0
  · rcases h' with ⟨k0, _⟩ | ⟨_, k1, an', k2, k3, k4⟩
    · exact absurd h0 k0
    · have := h2.uniq k2
      subst this
      exact ⟨by rw [h3, k3], by rw [h1, k1], by rw [h4, k4]⟩
theorem OrR.err {D : List Dd} {F : List Int} {ok : Bool} {e : Int} {rs : List Int} (h : OrR D F ok e rs) : e = chkD F.length D := by
  rcases h with ⟨_, _, h2, _⟩ | ⟨h0, h1, _⟩
  · exact h2
  · rw [h0, h1]
theorem OrR.short {D : List Dd} {F : List Int} {ok : Bool} {e : Int} {rs : List Int} (h : OrR D F ok e rs) : rs.length ≤ D.length := by
  rcases h with ⟨_, _, _, h3⟩ | ⟨_, _, an, h2, _, h4⟩
  · rw [h3]; exact Nat.zero_le _
  · rw [h4]
    cases an with
    | none => exact Nat.zero_le _
    | some os =>
      have h5 := goes_len (Least.goes h2)
      have h6 := outN_le D.length (bitsP 0)
      simp
      omega
theorem OrP.told {D : List Dd} {F : List Int} {w w' : World} {r : Ending} (h : OrP D F w r w') : ∃ v ok e rs, r = .returned (.tuple #[v, .bool ok, .int .i64 e]) ∧ OrR D F ok e rs ∧ IR w.heap.size w' v rs := by
  rcases h.ans with ⟨h1, rfl⟩ | ⟨h0, ⟨os, v, rfl, h1, h2⟩ | ⟨rfl, h1⟩⟩
  · exact ⟨_, _, _, [], rfl, .inl ⟨h1, rfl, rfl, rfl⟩, IR.nil _ _⟩
  · refine ⟨v, true, 0, ints os, rfl, .inr ⟨h0, rfl, some os, h1, rfl, rfl⟩, ?_⟩
    exact ⟨by rw [List.length_map, List.map_map]; exact h2⟩
  · exact ⟨_, false, 0, [], rfl, .inr ⟨h0, rfl, none, h1, rfl, rfl⟩, IR.nil _ _⟩
theorem RoP.told {D : List Dd} {F : List Int} {w w' : World} {r : Ending} (h : RoP D F w r w') : ∃ v ok e rs, r = .returned (.tuple #[v, .bool ok, .int .i64 e]) ∧ OrR D F ok e rs ∧ IR w.heap.size w' v rs := by
  rcases h.ans with ⟨h1, rfl⟩ | ⟨h0, an, v, ok, rfl, h1, ⟨os, rfl, rfl, h2⟩ | ⟨rfl, rfl, rfl⟩⟩
  · exact ⟨_, _, _, [], rfl, .inl ⟨h1, rfl, rfl, rfl⟩, IR.nil _ _⟩
  · exact ⟨v, true, 0, ints os, rfl, .inr ⟨h0, rfl, some os, h1, rfl, rfl⟩, h2⟩
  · exact ⟨_, false, 0, [], rfl, .inr ⟨h0, rfl, none, h1, rfl, rfl⟩, IR.nil _ _⟩
/-- The law's own memory. -/
structure JO (w : World) (D : List Dd) (F : List Int) (gl gd : Nat) (want : Value) (ws : List Int) (x : World) : Prop where
  tu : Turned [] w x
  le : Lent x w.heap.size gl F
  gv : Giv x w.heap.size gd D 77
  wa : IR w.heap.size x want ws
theorem JO.still {w x y : World} {D : List Dd} {F : List Int} {gl gd : Nat} {want : Value} {ws : List Int} (h : JO w D F gl gd want ws x) (ht : Turned [] x y) : JO w D F gl gd want ws y := ⟨h.tu.trans ht, h.le.keep ht (by simp), h.gv.keep ht (by simp), h.wa.still ht⟩
end Go.Proofs.YtfhoflcecbdncaaDoor

/-
  What two events are blamed for: the walk's end. (By the verifier; no statement.)
-/
import Derived.Test.YtbielnehggcaoaaDoorJ33
import Derived.Deep.CutRange
set_option linter.unusedVariables false
namespace Go.Proofs.YtbielnehggcaoaaDoor
open Go.RowKit
set_option maxRecDepth 100000 in
set_option maxHeartbeats 12800000 in
theorem pair_end {w0 w1 : World} {hb : Nat} {tv : Value} {S : List (List (Int × Int))} {D : List Ev} {CL O : List Bm} {i j b o lc g h nc pc nc' pc' : Nat} {na pa na' pa' : Option Addr} {wk eb en k p key num val new wk' eb' en' k' p' key' num' val' new' : Int} {had has had' has' : Bool} {ns ns' : List Int} {ps ps' : List (Int × Int)} {sa sb ah bh ua uw c2 c5 c6 c7 : Bool} {O4 : List Bm} {x : World} {a : Act} (hl : O.length ≤ 999999000) (HT : Hid (∀ O' y, VX w1 hb S.length (.slice (some ⟨b, o, none⟩) D.length lc) tv O' y → Turned [] w0 y)) (HI : Hid (IV w0 (.slice na ns.length nc) ns ∧ IV w0 (.slice na' ns'.length nc') ns')) (HNs : Hid (ns.length ≤ 1000000 ∧ ns'.length ≤ 1000000)) (HBf : Hid (∀ y, Calls Tryd.prog 60 #[.int .i64 en, .int .i64 eb'] y fun r w' => r = .returned (.bool bh) ∧ w' = y)) (HWa : Hid (∀ y, Calls Tryd.prog 55 #[.agg (evA ⟨wk, eb, en, k, p, key, num, had, val, has, new, ns, ps⟩ (.slice na ns.length nc) (.slice pa ps.length pc))] y fun r w' => r = .returned (.bool ua) ∧ Turned [] y w')) (HWw : Hid (∀ y, Calls Tryd.prog 55 #[.agg (evA ⟨wk', eb', en', k', p', key', num', had', val', has', new', ns', ps'⟩ (.slice na' ns'.length nc') (.slice pa' ps'.length pc'))] y fun r w' => r = .returned (.bool uw) ∧ Turned [] y w')) (HPa : Hid (ua = true → sa = false ∧ ∃ q : Nat, p = q ∧ q < S.length)) (HPw : Hid (uw = true → sb = false)) (HNa : Hid (sa = true → ns.length = S.length)) (HNw : Hid (sb = true → ns'.length = S.length)) (HQw : Hid (sb = false → ∃ q : Nat, p' = q ∧ q < S.length)) (HD2 : Hid (c2 = (decide (j < i) && (ua && uw && decide (p = p') && decide (num = num'))))) (HD5 : Hid (c5 = (ah && (!sa && !sb && decide (p = p') && (decide (num < num') || (decide (num = num') && ua)))))) (HD6 : Hid (c6 = (ah && ((sb && ua && decide (num ≤ ns'.getD p.toNat 0)) || (sa && !sb && decide (ns.getD p'.toNat 0 < num')))))) (HD7 : Hid (c7 = (decide (j < i) && (sa && sb && ((belowB ns ns' && belowB ns' ns) || (belowB ns ns' && ah) || (belowB ns' ns && bh)))))) (hO4 : O4.length ≤ O.length + 3) (HEnd : Hid (O ++ CL = O4 ++ (if c7 then [((i : Int), (j : Int), (7 : Int))] else []))) (HVf : Hid (VX w1 hb S.length (.slice (some ⟨b, o, none⟩) D.length lc) tv O4 x)) (HPf : Hid (P2 x hb g h ⟨wk, eb, en, k, p, key, num, had, val, has, new, ns, ps⟩ ⟨wk', eb', en', k', p', key', num', had', val', has', new', ns', ps'⟩ (.slice na ns.length nc) (.slice pa ps.length pc) (.slice na' ns'.length nc') (.slice pa' ps'.length pc'))) (hsz : a.tmps.size = 181) (hdf : a.defers = []) (p0 : a.eval (.tmp 0) = .pointer (some ⟨hb, 0, none⟩)) (p1 : a.eval (.tmp 1) = .int .i64 (i : Int)) (p2 : a.eval (.tmp 2) = .int .i64 (j : Int)) (p6 : a.eval (.tmp 6) = .pointer (some ⟨g, 0, none⟩)) (p7 : a.eval (.tmp 7) = .pointer (some ⟨h, 0, none⟩)) (p8 : a.eval (.tmp 8) = .bool sa) (p9 : a.eval (.tmp 9) = .bool sb) (p10 : a.eval (.tmp 10) = .bool ah) : (atc Tryd.f39.body [1, 1, 1, 1, 1, 1]).wp Tryd.prog (bodyPost Tryd.prog Tryd.f39 fun r x' => r = .returned (.tuple #[]) ∧ VX w1 hb S.length (.slice (some ⟨b, o, none⟩) D.length lc) tv (O ++ CL) x') a x := by
  have HEv : Hid (∀ y, P2 y hb g h ⟨wk, eb, en, k, p, key, num, had, val, has, new, ns, ps⟩ ⟨wk', eb', en', k', p', key', num', had', val', has', new', ns', ps'⟩ (.slice na ns.length nc) (.slice pa ps.length pc) (.slice na' ns'.length nc') (.slice pa' ps'.length pc') → (g < y.heap.size ∧ y.cell? ⟨g, 0, none⟩ = some (.int .i64 wk) ∧ y.cell? ⟨g, 1, none⟩ = some (.int .i64 eb) ∧ y.cell? ⟨g, 2, none⟩ = some (.int .i64 en) ∧ y.cell? ⟨g, 3, none⟩ = some (.int .i64 k) ∧ y.cell? ⟨g, 4, none⟩ = some (.int .i64 p) ∧ y.cell? ⟨g, 5, none⟩ = some (.int .i64 key) ∧ y.cell? ⟨g, 6, none⟩ = some (.int .i64 num) ∧ y.cell? ⟨g, 7, none⟩ = some (.bool had) ∧ y.cell? ⟨g, 8, none⟩ = some (.int .i64 val) ∧ y.cell? ⟨g, 9, none⟩ = some (.bool has) ∧ y.cell? ⟨g, 10, none⟩ = some (.int .i64 new) ∧ y.cell? ⟨g, 11, none⟩ = some (.slice na ns.length nc) ∧ y.cell? ⟨g, 12, none⟩ = some (.slice pa ps.length pc)) ∧ (h < y.heap.size ∧ y.cell? ⟨h, 0, none⟩ = some (.int .i64 wk') ∧ y.cell? ⟨h, 1, none⟩ = some (.int .i64 eb') ∧ y.cell? ⟨h, 2, none⟩ = some (.int .i64 en') ∧ y.cell? ⟨h, 3, none⟩ = some (.int .i64 k') ∧ y.cell? ⟨h, 4, none⟩ = some (.int .i64 p') ∧ y.cell? ⟨h, 5, none⟩ = some (.int .i64 key') ∧ y.cell? ⟨h, 6, none⟩ = some (.int .i64 num') ∧ y.cell? ⟨h, 7, none⟩ = some (.bool had') ∧ y.cell? ⟨h, 8, none⟩ = some (.int .i64 val') ∧ y.cell? ⟨h, 9, none⟩ = some (.bool has') ∧ y.cell? ⟨h, 10, none⟩ = some (.int .i64 new') ∧ y.cell? ⟨h, 11, none⟩ = some (.slice na' ns'.length nc') ∧ y.cell? ⟨h, 12, none⟩ = some (.slice pa' ps'.length pc'))) := fun y hy => ⟨EC.block hy.a y (Turned.refl _ _), EC.block hy.w y (Turned.refl _ _)⟩
  obtain ⟨cc, hcc, hce⟩ := expand181 hsz hdf
  have q0 := (hce 0).trans p0
  have q1 := (hce 1).trans p1
  have q2 := (hce 2).trans p2
  have q6 := (hce 6).trans p6
  have q7 := (hce 7).trans p7
  have q8 := (hce 8).trans p8
  have q9 := (hce 9).trans p9
  have q10 := (hce 10).trans p10
  clear p0 p1 p2 p6 p7 p8 p9 p10 hce hsz hdf
  subst hcc
  conv => arg 2; whnf
  unfold lit181
  simp only [q0, q1, q2, q6, q7, q8, q9, q10]
  clear q0 q1 q2 q6 q7 q8 q9 q10
  obtain ⟨x6, rfl⟩ : ∃ x6, x6 = x := ⟨_, rfl⟩
  obtain ⟨⟨a0, a1, a2, a3, a4, a5, a6, a7, a8, a9, a10, a11, a12, a13⟩, ⟨b0, b1, b2, b3, b4, b5, b6, b7, b8, b9, b10, b11, b12, b13⟩⟩ := HEv.out _ HPf.out
  cases sa with
  | false =>
    have HQ : Hid (O ++ CL = O4) := by
      have h7 : c7 = false := by rw [HD7.out]; simp
      rw [Hid, HEnd.out, h7]
      exact List.append_nil _
    go_wp2
    go_end0
    exact ⟨rfl, by rw [HQ.out]; exact HVf.out⟩
  | true =>
    cases sb with
    | false =>
      have HQ : Hid (O ++ CL = O4) := by
        have h7 : c7 = false := by rw [HD7.out]; simp
        rw [Hid, HEnd.out, h7]
        exact List.append_nil _
      go_wp2
      go_end0
      exact ⟨rfl, by rw [HQ.out]; exact HVf.out⟩
    | true =>
      by_cases hji : j < i
      · have d1 : decide ((j : Int) < (i : Int)) = true := decide_eq_true (by omega)
        have d1' : decide (j < i) = true := decide_eq_true hji
        have hn1 : ns.length = S.length := HNa.out rfl
        have hn2 : ns'.length = S.length := HNw.out rfl
        have HL1 : Hid (∀ y, Turned [] w0 y → Calls Tryd.prog 61 #[.agg (evA ⟨wk, eb, en, k, p, key, num, had, val, has, new, ns, ps⟩ (.slice na ns.length nc) (.slice pa ps.length pc)), .agg (evA ⟨wk', eb', en', k', p', key', num', had', val', has', new', ns', ps'⟩ (.slice na' ns'.length nc') (.slice pa' ps'.length pc'))] y fun r w' => r = .returned (.bool (belowB ns ns')) ∧ Turned [] y w') := fun y hy => cLess (e := ⟨wk, eb, en, k, p, key, num, had, val, has, new, ns, ps⟩) (f := ⟨wk', eb', en', k', p', key', num', had', val', has', new', ns', ps'⟩) (HI.out.1.still hy) (HI.out.2.still hy) (hn2.trans hn1.symm) (by have := HNs.out.1; show ns.length ≤ _; omega)
        have HL2 : Hid (∀ y, Turned [] w0 y → Calls Tryd.prog 61 #[.agg (evA ⟨wk', eb', en', k', p', key', num', had', val', has', new', ns', ps'⟩ (.slice na' ns'.length nc') (.slice pa' ps'.length pc')), .agg (evA ⟨wk, eb, en, k, p, key, num, had, val, has, new, ns, ps⟩ (.slice na ns.length nc) (.slice pa ps.length pc))] y fun r w' => r = .returned (.bool (belowB ns' ns)) ∧ Turned [] y w') := fun y hy => cLess (e := ⟨wk', eb', en', k', p', key', num', had', val', has', new', ns', ps'⟩) (f := ⟨wk, eb, en, k, p, key, num, had, val, has, new, ns, ps⟩) (HI.out.2.still hy) (HI.out.1.still hy) (hn1.trans hn2.symm) (by have := HNs.out.2; show ns'.length ≤ _; omega)
        clear hn1 hn2
        generalize belowB ns ns' = l1 at *
        generalize belowB ns' ns = l2 at *
        go_upto_region 13 with (go_at_call 60; refine (HBf.out _).mono ?_; rintro r z ⟨rfl, ez⟩; rw [ez]; clear ez z)
        go_cut [176] from 153 to 176 (fun c wx => Bx (c = .bool c7 ∧ Hid (VX w1 hb S.length (.slice (some ⟨b, o, none⟩) D.length lc) tv O4 wx) ∧ Hid (P2 wx hb g h ⟨wk, eb, en, k, p, key, num, had, val, has, new, ns, ps⟩ ⟨wk', eb', en', k', p', key', num', had', val', has', new', ns', ps'⟩ (.slice na ns.length nc) (.slice pa ps.length pc) (.slice na' ns'.length nc') (.slice pa' ps'.length pc'))))
        case first =>
          cases l1 with
          | true =>
            cases l2 with
            | true =>
              have HU : Hid (Value.bool true = .bool c7) := by rw [Hid, HD7.out, d1']; rfl
              go_wp2_with (fail)
              clear a0 a1 a2 a3 a4 a5 a6 a7 a8 a9 a10 a11 a12 a13 b0 b1 b2 b3 b4 b5 b6 b7 b8 b9 b10 b11 b12 b13
              refine (HL1.out _ (HT.out _ _ HVf.out)).mono ?_
              rintro r z0 ⟨rfl, tz⟩
              have HVg0 : Hid _ := HVf.out.still tz
              have HPg0 : Hid _ := HPf.out.still tz
              clear tz
              obtain ⟨⟨a0, a1, a2, a3, a4, a5, a6, a7, a8, a9, a10, a11, a12, a13⟩, ⟨b0, b1, b2, b3, b4, b5, b6, b7, b8, b9, b10, b11, b12, b13⟩⟩ := HEv.out _ HPg0.out
              go_wp2_with (fail)
              clear a0 a1 a2 a3 a4 a5 a6 a7 a8 a9 a10 a11 a12 a13 b0 b1 b2 b3 b4 b5 b6 b7 b8 b9 b10 b11 b12 b13
              refine (HL2.out _ (HT.out _ _ HVg0.out)).mono ?_
              rintro r z1 ⟨rfl, tz⟩
              have HVg1 : Hid _ := HVg0.out.still tz
              have HPg1 : Hid _ := HPg0.out.still tz
              clear tz
              go_wp2
              go_meet
              exact ⟨HU, HVg1, HPg1⟩
            | false =>
              cases ah with
              | true =>
                have HU : Hid (Value.bool true = .bool c7) := by rw [Hid, HD7.out, d1']; rfl
                go_wp2_with (fail)
                clear a0 a1 a2 a3 a4 a5 a6 a7 a8 a9 a10 a11 a12 a13 b0 b1 b2 b3 b4 b5 b6 b7 b8 b9 b10 b11 b12 b13
                refine (HL1.out _ (HT.out _ _ HVf.out)).mono ?_
                rintro r z0 ⟨rfl, tz⟩
                have HVg0 : Hid _ := HVf.out.still tz
                have HPg0 : Hid _ := HPf.out.still tz
                clear tz
                obtain ⟨⟨a0, a1, a2, a3, a4, a5, a6, a7, a8, a9, a10, a11, a12, a13⟩, ⟨b0, b1, b2, b3, b4, b5, b6, b7, b8, b9, b10, b11, b12, b13⟩⟩ := HEv.out _ HPg0.out
                go_wp2_with (fail)
                clear a0 a1 a2 a3 a4 a5 a6 a7 a8 a9 a10 a11 a12 a13 b0 b1 b2 b3 b4 b5 b6 b7 b8 b9 b10 b11 b12 b13
                refine (HL2.out _ (HT.out _ _ HVg0.out)).mono ?_
                rintro r z1 ⟨rfl, tz⟩
                have HVg1 : Hid _ := HVg0.out.still tz
                have HPg1 : Hid _ := HPg0.out.still tz
                clear tz
                obtain ⟨⟨a0, a1, a2, a3, a4, a5, a6, a7, a8, a9, a10, a11, a12, a13⟩, ⟨b0, b1, b2, b3, b4, b5, b6, b7, b8, b9, b10, b11, b12, b13⟩⟩ := HEv.out _ HPg1.out
                go_wp2_with (fail)
                clear a0 a1 a2 a3 a4 a5 a6 a7 a8 a9 a10 a11 a12 a13 b0 b1 b2 b3 b4 b5 b6 b7 b8 b9 b10 b11 b12 b13
                refine (HL1.out _ (HT.out _ _ HVg1.out)).mono ?_
                rintro r z2 ⟨rfl, tz⟩
                have HVg2 : Hid _ := HVg1.out.still tz
                have HPg2 : Hid _ := HPg1.out.still tz
                clear tz
                go_wp2
                go_meet
                exact ⟨HU, HVg2, HPg2⟩
              | false =>
                cases bh with
                | true =>
                  have HU : Hid (Value.bool false = .bool c7) := by rw [Hid, HD7.out, d1']; rfl
                  go_wp2_with (fail)
                  clear a0 a1 a2 a3 a4 a5 a6 a7 a8 a9 a10 a11 a12 a13 b0 b1 b2 b3 b4 b5 b6 b7 b8 b9 b10 b11 b12 b13
                  refine (HL1.out _ (HT.out _ _ HVf.out)).mono ?_
                  rintro r z0 ⟨rfl, tz⟩
                  have HVg0 : Hid _ := HVf.out.still tz
                  have HPg0 : Hid _ := HPf.out.still tz
                  clear tz
                  obtain ⟨⟨a0, a1, a2, a3, a4, a5, a6, a7, a8, a9, a10, a11, a12, a13⟩, ⟨b0, b1, b2, b3, b4, b5, b6, b7, b8, b9, b10, b11, b12, b13⟩⟩ := HEv.out _ HPg0.out
                  go_wp2_with (fail)
                  clear a0 a1 a2 a3 a4 a5 a6 a7 a8 a9 a10 a11 a12 a13 b0 b1 b2 b3 b4 b5 b6 b7 b8 b9 b10 b11 b12 b13
                  refine (HL2.out _ (HT.out _ _ HVg0.out)).mono ?_
                  rintro r z1 ⟨rfl, tz⟩
                  have HVg1 : Hid _ := HVg0.out.still tz
                  have HPg1 : Hid _ := HPg0.out.still tz
                  clear tz
                  obtain ⟨⟨a0, a1, a2, a3, a4, a5, a6, a7, a8, a9, a10, a11, a12, a13⟩, ⟨b0, b1, b2, b3, b4, b5, b6, b7, b8, b9, b10, b11, b12, b13⟩⟩ := HEv.out _ HPg1.out
                  go_wp2_with (fail)
                  clear a0 a1 a2 a3 a4 a5 a6 a7 a8 a9 a10 a11 a12 a13 b0 b1 b2 b3 b4 b5 b6 b7 b8 b9 b10 b11 b12 b13
                  refine (HL2.out _ (HT.out _ _ HVg1.out)).mono ?_
                  rintro r z2 ⟨rfl, tz⟩
                  have HVg2 : Hid _ := HVg1.out.still tz
                  have HPg2 : Hid _ := HPg1.out.still tz
                  clear tz
                  go_wp2
                  go_meet
                  exact ⟨HU, HVg2, HPg2⟩
                | false =>
                  have HU : Hid (Value.bool false = .bool c7) := by rw [Hid, HD7.out, d1']; rfl
                  go_wp2_with (fail)
                  clear a0 a1 a2 a3 a4 a5 a6 a7 a8 a9 a10 a11 a12 a13 b0 b1 b2 b3 b4 b5 b6 b7 b8 b9 b10 b11 b12 b13
                  refine (HL1.out _ (HT.out _ _ HVf.out)).mono ?_
                  rintro r z0 ⟨rfl, tz⟩
                  have HVg0 : Hid _ := HVf.out.still tz
                  have HPg0 : Hid _ := HPf.out.still tz
                  clear tz
                  obtain ⟨⟨a0, a1, a2, a3, a4, a5, a6, a7, a8, a9, a10, a11, a12, a13⟩, ⟨b0, b1, b2, b3, b4, b5, b6, b7, b8, b9, b10, b11, b12, b13⟩⟩ := HEv.out _ HPg0.out
                  go_wp2_with (fail)
                  clear a0 a1 a2 a3 a4 a5 a6 a7 a8 a9 a10 a11 a12 a13 b0 b1 b2 b3 b4 b5 b6 b7 b8 b9 b10 b11 b12 b13
                  refine (HL2.out _ (HT.out _ _ HVg0.out)).mono ?_
                  rintro r z1 ⟨rfl, tz⟩
                  have HVg1 : Hid _ := HVg0.out.still tz
                  have HPg1 : Hid _ := HPg0.out.still tz
                  clear tz
                  go_wp2
                  go_meet
                  exact ⟨HU, HVg1, HPg1⟩
          | false =>
            cases ah with
            | true =>
              cases bh with
              | true =>
                have HU : Hid (Value.bool l2 = .bool c7) := by rw [Hid, HD7.out, d1']; cases l2 <;> rfl
                go_wp2_with (fail)
                clear a0 a1 a2 a3 a4 a5 a6 a7 a8 a9 a10 a11 a12 a13 b0 b1 b2 b3 b4 b5 b6 b7 b8 b9 b10 b11 b12 b13
                refine (HL1.out _ (HT.out _ _ HVf.out)).mono ?_
                rintro r z0 ⟨rfl, tz⟩
                have HVg0 : Hid _ := HVf.out.still tz
                have HPg0 : Hid _ := HPf.out.still tz
                clear tz
                obtain ⟨⟨a0, a1, a2, a3, a4, a5, a6, a7, a8, a9, a10, a11, a12, a13⟩, ⟨b0, b1, b2, b3, b4, b5, b6, b7, b8, b9, b10, b11, b12, b13⟩⟩ := HEv.out _ HPg0.out
                go_wp2_with (fail)
                clear a0 a1 a2 a3 a4 a5 a6 a7 a8 a9 a10 a11 a12 a13 b0 b1 b2 b3 b4 b5 b6 b7 b8 b9 b10 b11 b12 b13
                refine (HL1.out _ (HT.out _ _ HVg0.out)).mono ?_
                rintro r z1 ⟨rfl, tz⟩
                have HVg1 : Hid _ := HVg0.out.still tz
                have HPg1 : Hid _ := HPg0.out.still tz
                clear tz
                obtain ⟨⟨a0, a1, a2, a3, a4, a5, a6, a7, a8, a9, a10, a11, a12, a13⟩, ⟨b0, b1, b2, b3, b4, b5, b6, b7, b8, b9, b10, b11, b12, b13⟩⟩ := HEv.out _ HPg1.out
                go_wp2_with (fail)
                clear a0 a1 a2 a3 a4 a5 a6 a7 a8 a9 a10 a11 a12 a13 b0 b1 b2 b3 b4 b5 b6 b7 b8 b9 b10 b11 b12 b13
                refine (HL2.out _ (HT.out _ _ HVg1.out)).mono ?_
                rintro r z2 ⟨rfl, tz⟩
                have HVg2 : Hid _ := HVg1.out.still tz
                have HPg2 : Hid _ := HPg1.out.still tz
                clear tz
                go_wp2
                go_meet
                exact ⟨HU, HVg2, HPg2⟩
              | false =>
                have HU : Hid (Value.bool false = .bool c7) := by rw [Hid, HD7.out, d1']; cases l2 <;> rfl
                go_wp2_with (fail)
                clear a0 a1 a2 a3 a4 a5 a6 a7 a8 a9 a10 a11 a12 a13 b0 b1 b2 b3 b4 b5 b6 b7 b8 b9 b10 b11 b12 b13
                refine (HL1.out _ (HT.out _ _ HVf.out)).mono ?_
                rintro r z0 ⟨rfl, tz⟩
                have HVg0 : Hid _ := HVf.out.still tz
                have HPg0 : Hid _ := HPf.out.still tz
                clear tz
                obtain ⟨⟨a0, a1, a2, a3, a4, a5, a6, a7, a8, a9, a10, a11, a12, a13⟩, ⟨b0, b1, b2, b3, b4, b5, b6, b7, b8, b9, b10, b11, b12, b13⟩⟩ := HEv.out _ HPg0.out
                go_wp2_with (fail)
                clear a0 a1 a2 a3 a4 a5 a6 a7 a8 a9 a10 a11 a12 a13 b0 b1 b2 b3 b4 b5 b6 b7 b8 b9 b10 b11 b12 b13
                refine (HL1.out _ (HT.out _ _ HVg0.out)).mono ?_
                rintro r z1 ⟨rfl, tz⟩
                have HVg1 : Hid _ := HVg0.out.still tz
                have HPg1 : Hid _ := HPg0.out.still tz
                clear tz
                go_wp2
                go_meet
                exact ⟨HU, HVg1, HPg1⟩
            | false =>
              cases bh with
              | true =>
                have HU : Hid (Value.bool l2 = .bool c7) := by rw [Hid, HD7.out, d1']; cases l2 <;> rfl
                go_wp2_with (fail)
                clear a0 a1 a2 a3 a4 a5 a6 a7 a8 a9 a10 a11 a12 a13 b0 b1 b2 b3 b4 b5 b6 b7 b8 b9 b10 b11 b12 b13
                refine (HL1.out _ (HT.out _ _ HVf.out)).mono ?_
                rintro r z0 ⟨rfl, tz⟩
                have HVg0 : Hid _ := HVf.out.still tz
                have HPg0 : Hid _ := HPf.out.still tz
                clear tz
                obtain ⟨⟨a0, a1, a2, a3, a4, a5, a6, a7, a8, a9, a10, a11, a12, a13⟩, ⟨b0, b1, b2, b3, b4, b5, b6, b7, b8, b9, b10, b11, b12, b13⟩⟩ := HEv.out _ HPg0.out
                go_wp2_with (fail)
                clear a0 a1 a2 a3 a4 a5 a6 a7 a8 a9 a10 a11 a12 a13 b0 b1 b2 b3 b4 b5 b6 b7 b8 b9 b10 b11 b12 b13
                refine (HL2.out _ (HT.out _ _ HVg0.out)).mono ?_
                rintro r z1 ⟨rfl, tz⟩
                have HVg1 : Hid _ := HVg0.out.still tz
                have HPg1 : Hid _ := HPg0.out.still tz
                clear tz
                go_wp2
                go_meet
                exact ⟨HU, HVg1, HPg1⟩
              | false =>
                have HU : Hid (Value.bool false = .bool c7) := by rw [Hid, HD7.out, d1']; cases l2 <;> rfl
                go_wp2_with (fail)
                clear a0 a1 a2 a3 a4 a5 a6 a7 a8 a9 a10 a11 a12 a13 b0 b1 b2 b3 b4 b5 b6 b7 b8 b9 b10 b11 b12 b13
                refine (HL1.out _ (HT.out _ _ HVf.out)).mono ?_
                rintro r z0 ⟨rfl, tz⟩
                have HVg0 : Hid _ := HVf.out.still tz
                have HPg0 : Hid _ := HPf.out.still tz
                clear tz
                go_wp2
                go_meet
                exact ⟨HU, HVg0, HPg0⟩
        case rest =>
        obtain ⟨rfl, HVh, HPh⟩ := hcut.ex
        clear hcut a0 a1 a2 a3 a4 a5 a6 a7 a8 a9 a10 a11 a12 a13 b0 b1 b2 b3 b4 b5 b6 b7 b8 b9 b10 b11 b12 b13 HVf HPf HL1 HL2
        cases c7 with
        | true =>
          go_wp2_with (go_at_call 57; refine (cBlameR HVh.out (by omega) _ _ _).mono ?_; rintro r y2 ⟨rfl, hv2, hk2⟩; have HVn : Hid _ := hv2; clear hv2 hk2)
          go_end0
          exact ⟨rfl, by rw [HEnd.out]; exact HVn.out⟩
        | false =>
          have HQ : Hid (O ++ CL = O4) := by rw [Hid, HEnd.out]; exact List.append_nil _
          go_wp2
          go_end0
          exact ⟨rfl, by rw [HQ.out]; exact HVh.out⟩
      · have d1 : decide ((j : Int) < (i : Int)) = false := decide_eq_false (by omega)
        have d1' : decide (j < i) = false := decide_eq_false hji
        have HQ : Hid (O ++ CL = O4) := by
          have h7 : c7 = false := by rw [HD7.out]; rw [d1']; rfl
          rw [Hid, HEnd.out, h7]
          exact List.append_nil _
        go_wp2
        go_end0
        exact ⟨rfl, by rw [HQ.out]; exact HVf.out⟩
end Go.Proofs.YtbielnehggcaoaaDoor

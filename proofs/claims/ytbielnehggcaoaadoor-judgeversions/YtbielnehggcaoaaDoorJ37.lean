/-
  What two events are blamed for: the walk's top. (By the verifier; no statement.)
-/
import Derived.Test.YtbielnehggcaoaaDoorJ36
import Derived.Deep.CutRange
set_option linter.unusedVariables false
namespace Go.Proofs.YtbielnehggcaoaaDoor
open Go.RowKit
set_option maxRecDepth 100000 in
set_option maxHeartbeats 12800000 in
theorem pair_top {w0 w1 : World} {hb : Nat} {tv : Value} {S : List (List (Int × Int))} {D : List Ev} {CL O : List Bm} {i j b o lc g h nc pc nc' pc' : Nat} {na pa na' pa' : Option Addr} {wk eb en k p key num val new wk' eb' en' k' p' key' num' val' new' : Int} {had has had' has' : Bool} {ns ns' : List Int} {ps ps' : List (Int × Int)} {sa sb ah bh ua uw c2 c5 c6 c7 : Bool}  {x : World} {a : Act} (hl : O.length ≤ 999999000) (HT : Hid (∀ O' y, VX w1 hb S.length (.slice (some ⟨b, o, none⟩) D.length lc) tv O' y → Turned [] w0 y)) (HI : Hid (IV w0 (.slice na ns.length nc) ns ∧ IV w0 (.slice na' ns'.length nc') ns')) (HNs : Hid (ns.length ≤ 1000000 ∧ ns'.length ≤ 1000000)) (HBf : Hid (∀ y, Calls Tryd.prog 60 #[.int .i64 en, .int .i64 eb'] y fun r w' => r = .returned (.bool bh) ∧ w' = y)) (HWa : Hid (∀ y, Calls Tryd.prog 55 #[.agg (evA ⟨wk, eb, en, k, p, key, num, had, val, has, new, ns, ps⟩ (.slice na ns.length nc) (.slice pa ps.length pc))] y fun r w' => r = .returned (.bool ua) ∧ Turned [] y w')) (HWw : Hid (∀ y, Calls Tryd.prog 55 #[.agg (evA ⟨wk', eb', en', k', p', key', num', had', val', has', new', ns', ps'⟩ (.slice na' ns'.length nc') (.slice pa' ps'.length pc'))] y fun r w' => r = .returned (.bool uw) ∧ Turned [] y w')) (HPa : Hid (ua = true → sa = false ∧ ∃ q : Nat, p = q ∧ q < S.length)) (HPw : Hid (uw = true → sb = false)) (HNa : Hid (sa = true → ns.length = S.length)) (HNw : Hid (sb = true → ns'.length = S.length)) (HQw : Hid (sb = false → ∃ q : Nat, p' = q ∧ q < S.length)) (HD2 : Hid (c2 = (decide (j < i) && (ua && uw && decide (p = p') && decide (num = num'))))) (HD5 : Hid (c5 = (ah && (!sa && !sb && decide (p = p') && (decide (num < num') || (decide (num = num') && ua)))))) (HD6 : Hid (c6 = (ah && ((sb && ua && decide (num ≤ ns'.getD p.toNat 0)) || (sa && !sb && decide (ns.getD p'.toNat 0 < num')))))) (HD7 : Hid (c7 = (decide (j < i) && (sa && sb && ((belowB ns ns' && belowB ns' ns) || (belowB ns ns' && ah) || (belowB ns' ns && bh)))))) (HCy : Hid (CL = (if c2 then [((i : Int), (j : Int), (2 : Int))] else []) ++ ((if c5 then [((i : Int), (j : Int), (5 : Int))] else []) ++ ((if c6 then [((i : Int), (j : Int), (6 : Int))] else []) ++ (if c7 then [((i : Int), (j : Int), (7 : Int))] else []))))) (HV2 : Hid (VX w1 hb S.length (.slice (some ⟨b, o, none⟩) D.length lc) tv O x)) (HP2 : Hid (P2 x hb g h ⟨wk, eb, en, k, p, key, num, had, val, has, new, ns, ps⟩ ⟨wk', eb', en', k', p', key', num', had', val', has', new', ns', ps'⟩ (.slice na ns.length nc) (.slice pa ps.length pc) (.slice na' ns'.length nc') (.slice pa' ps'.length pc'))) (hsz : a.tmps.size = 181) (hdf : a.defers = []) (p0 : a.eval (.tmp 0) = .pointer (some ⟨hb, 0, none⟩)) (p1 : a.eval (.tmp 1) = .int .i64 (i : Int)) (p2 : a.eval (.tmp 2) = .int .i64 (j : Int)) (p6 : a.eval (.tmp 6) = .pointer (some ⟨g, 0, none⟩)) (p7 : a.eval (.tmp 7) = .pointer (some ⟨h, 0, none⟩)) (p8 : a.eval (.tmp 8) = .bool sa) (p9 : a.eval (.tmp 9) = .bool sb) (p10 : a.eval (.tmp 10) = .bool ah) : (atc Tryd.f39.body [1, 1, 1, 1]).wp Tryd.prog (bodyPost Tryd.prog Tryd.f39 fun r x' => r = .returned (.tuple #[]) ∧ VX w1 hb S.length (.slice (some ⟨b, o, none⟩) D.length lc) tv (O ++ CL) x') a x := by
  have HEv : Hid (∀ y, P2 y hb g h ⟨wk, eb, en, k, p, key, num, had, val, has, new, ns, ps⟩ ⟨wk', eb', en', k', p', key', num', had', val', has', new', ns', ps'⟩ (.slice na ns.length nc) (.slice pa ps.length pc) (.slice na' ns'.length nc') (.slice pa' ps'.length pc') → (g < y.heap.size ∧ y.cell? ⟨g, 0, none⟩ = some (.int .i64 wk) ∧ y.cell? ⟨g, 1, none⟩ = some (.int .i64 eb) ∧ y.cell? ⟨g, 2, none⟩ = some (.int .i64 en) ∧ y.cell? ⟨g, 3, none⟩ = some (.int .i64 k) ∧ y.cell? ⟨g, 4, none⟩ = some (.int .i64 p) ∧ y.cell? ⟨g, 5, none⟩ = some (.int .i64 key) ∧ y.cell? ⟨g, 6, none⟩ = some (.int .i64 num) ∧ y.cell? ⟨g, 7, none⟩ = some (.bool had) ∧ y.cell? ⟨g, 8, none⟩ = some (.int .i64 val) ∧ y.cell? ⟨g, 9, none⟩ = some (.bool has) ∧ y.cell? ⟨g, 10, none⟩ = some (.int .i64 new) ∧ y.cell? ⟨g, 11, none⟩ = some (.slice na ns.length nc) ∧ y.cell? ⟨g, 12, none⟩ = some (.slice pa ps.length pc)) ∧ (h < y.heap.size ∧ y.cell? ⟨h, 0, none⟩ = some (.int .i64 wk') ∧ y.cell? ⟨h, 1, none⟩ = some (.int .i64 eb') ∧ y.cell? ⟨h, 2, none⟩ = some (.int .i64 en') ∧ y.cell? ⟨h, 3, none⟩ = some (.int .i64 k') ∧ y.cell? ⟨h, 4, none⟩ = some (.int .i64 p') ∧ y.cell? ⟨h, 5, none⟩ = some (.int .i64 key') ∧ y.cell? ⟨h, 6, none⟩ = some (.int .i64 num') ∧ y.cell? ⟨h, 7, none⟩ = some (.bool had') ∧ y.cell? ⟨h, 8, none⟩ = some (.int .i64 val') ∧ y.cell? ⟨h, 9, none⟩ = some (.bool has') ∧ y.cell? ⟨h, 10, none⟩ = some (.int .i64 new') ∧ y.cell? ⟨h, 11, none⟩ = some (.slice na' ns'.length nc') ∧ y.cell? ⟨h, 12, none⟩ = some (.slice pa' ps'.length pc'))) := fun y hy => ⟨EC.block hy.a y (Turned.refl _ _), EC.block hy.w y (Turned.refl _ _)⟩
  obtain ⟨cc, hcc, hce⟩ := expand181 hsz hdf
  have q0 := (hce 0).trans p0
  have q1 := (hce 1).trans p1
  have q2 := (hce 2).trans p2
  have q6 := (hce 6).trans p6
  have q7 := (hce 7).trans p7
  have q8 := (hce 8).trans p8
  have q9 := (hce 9).trans p9
  have q10 := (hce 10).trans p10
  clear p0 p1 p2 p6 p7 p8 p9 p10 hce hsz hdf
  subst hcc
  conv => arg 2; whnf
  unfold lit181
  simp only [q0, q1, q2, q6, q7, q8, q9, q10]
  clear q0 q1 q2 q6 q7 q8 q9 q10
  obtain ⟨x2, rfl⟩ : ∃ x2, x2 = x := ⟨_, rfl⟩
  obtain ⟨⟨a0, a1, a2, a3, a4, a5, a6, a7, a8, a9, a10, a11, a12, a13⟩, ⟨b0, b1, b2, b3, b4, b5, b6, b7, b8, b9, b10, b11, b12, b13⟩⟩ := HEv.out _ HP2.out
  refine wp_seq_k fun K0 hK0 => ?_
  have HK0 : Hid _ := hK0
  clear hK0
  have HRest0 : Hid (∀ a' x' (O3 : List Bm), a'.tmps.size = 181 → a'.defers = [] → a'.eval (.tmp 0) = .pointer (some ⟨hb, 0, none⟩) → a'.eval (.tmp 1) = .int .i64 (i : Int) → a'.eval (.tmp 2) = .int .i64 (j : Int) → a'.eval (.tmp 6) = .pointer (some ⟨g, 0, none⟩) → a'.eval (.tmp 7) = .pointer (some ⟨h, 0, none⟩) → a'.eval (.tmp 8) = .bool sa → a'.eval (.tmp 9) = .bool sb → a'.eval (.tmp 10) = .bool ah → Hid (O3 = O ++ ((if c2 then [((i : Int), (j : Int), (2 : Int))] else []) ++ (if c5 then [((i : Int), (j : Int), (5 : Int))] else []))) → O3.length ≤ O.length + 2 → Hid (VX w1 hb S.length (.slice (some ⟨b, o, none⟩) D.length lc) tv O3 x') → Hid (P2 x' hb g h ⟨wk, eb, en, k, p, key, num, had, val, has, new, ns, ps⟩ ⟨wk', eb', en', k', p', key', num', had', val', has', new', ns', ps'⟩ (.slice na ns.length nc) (.slice pa ps.length pc) (.slice na' ns'.length nc') (.slice pa' ps'.length pc')) → K0 a' x') := fun a' x' O3 hsz hdf p0 p1 p2 p6 p7 p8 p9 p10 HO3 hO3 HVb HPb => HK0.out _ _ (pair_mid hl HT HI HNs HBf HWa HWw HPa HPw HNa HNw HQw HD2 HD5 HD6 HD7 hO3 (by rw [Hid, HCy.out, HO3.out]; simp only [List.append_assoc]) HVb HPb hsz hdf p0 p1 p2 p6 p7 p8 p9 p10)
  clear HK0
  go_upto_region 4 with fail
  go_cut [49] from 37 to 49 (fun c wx => Bx (c = .bool (!sa && (!sb && decide (p = p'))) ∧ SameW x2 wx))
  case first =>
    cases sa with
    | true =>
      go_wp2
      go_meet
      exact ⟨rfl, rfl⟩
    | false =>
      cases sb with
      | true =>
        go_wp2
        go_meet
        exact ⟨rfl, rfl⟩
      | false =>
        by_cases hp : p = p'
        · have d1 : (p == p') = true := by simpa using hp
          have HU : Hid (Value.bool true = .bool (!false && (!false && decide (p = p')))) := by rw [Hid, decide_eq_true hp]; rfl
          clear hp
          go_wp2
          go_meet
          exact ⟨HU, rfl⟩
        · have d1 : (p == p') = false := by simpa using hp
          have HU : Hid (Value.bool false = .bool (!false && (!false && decide (p = p')))) := by rw [Hid, decide_eq_false hp]; rfl
          clear hp
          go_wp2
          go_meet
          exact ⟨HU, rfl⟩
  case rest =>
  obtain ⟨rfl, ew⟩ := hcut.ex
  have ew2 : x2 = wc := ew
  subst ew2
  clear hcut ew a0 a1 a2 a3 a4 a5 a6 a7 a8 a9 a10 a11 a12 a13 b0 b1 b2 b3 b4 b5 b6 b7 b8 b9 b10 b11 b12 b13
  have HVy : Hid _ := HV2.out
  have HPy : Hid _ := HP2.out
  clear HV2 HP2
  go_upto_if 49 with fail
  cases hin : (!sa && (!sb && decide (p = p'))) with
  | false =>
    have HE : Hid ((if c2 then [((i : Int), (j : Int), (2 : Int))] else []) ++ (if c5 then [((i : Int), (j : Int), (5 : Int))] else []) = []) := by
      have h2 : c2 = false := by
        rw [HD2.out]
        cases hua : ua with
        | false => simp
        | true =>
          cases huw : uw with
          | false => simp
          | true =>
            have q1 := (HPa.out hua).1
            have q2 := HPw.out huw
            rw [q1, q2] at hin
            have q3 : decide (p = p') = false := by simpa using hin
            rw [q3]
            simp
      have h5 : c5 = false := by
        rw [HD5.out]
        exact inn_false hin ah (decide (num < num') || (decide (num = num') && ua))
      rw [Hid, h2, h5]
      rfl
    go_wp2
    exact HRest0.out _ _ O rfl rfl rfl rfl rfl rfl rfl rfl rfl rfl (by rw [Hid, HE.out, List.append_nil]) (by omega) HVy HPy
  | true =>
    have HIn : Hid (sa = false ∧ sb = false ∧ decide (p = p') = true) := inn_true hin
    obtain ⟨⟨a0, a1, a2, a3, a4, a5, a6, a7, a8, a9, a10, a11, a12, a13⟩, ⟨b0, b1, b2, b3, b4, b5, b6, b7, b8, b9, b10, b11, b12, b13⟩⟩ := HEv.out x2 HPy.out
    go_upto_region 5 with fail
    clear hin
    go_cut [67] from 50 to 67 (fun c wx => Bx (c = .bool c2 ∧ Hid (VX w1 hb S.length (.slice (some ⟨b, o, none⟩) D.length lc) tv O wx) ∧ Hid (P2 wx hb g h ⟨wk, eb, en, k, p, key, num, had, val, has, new, ns, ps⟩ ⟨wk', eb', en', k', p', key', num', had', val', has', new', ns', ps'⟩ (.slice na ns.length nc) (.slice pa ps.length pc) (.slice na' ns'.length nc') (.slice pa' ps'.length pc'))))
    case first =>
      by_cases hji : j < i
      · have d1 : decide ((j : Int) < (i : Int)) = true := decide_eq_true (by omega)
        have d1' : decide (j < i) = true := decide_eq_true hji
        cases hua : ua with
        | false =>
          have HU : Hid (Value.bool false = .bool c2) := by rw [Hid, HD2.out, hua]; simp
          rw [hua] at HWa
          clear hua
          go_wp2_with (fail)
          clear a0 a1 a2 a3 a4 a5 a6 a7 a8 a9 a10 a11 a12 a13 b0 b1 b2 b3 b4 b5 b6 b7 b8 b9 b10 b11 b12 b13
          refine (HWa.out _).mono ?_
          rintro r z ⟨rfl, tz⟩
          have HVz : Hid _ := HVy.out.still tz
          have HPz : Hid _ := HPy.out.still tz
          clear tz
          obtain ⟨⟨a0, a1, a2, a3, a4, a5, a6, a7, a8, a9, a10, a11, a12, a13⟩, ⟨b0, b1, b2, b3, b4, b5, b6, b7, b8, b9, b10, b11, b12, b13⟩⟩ := HEv.out z HPz.out
          go_wp2
          go_meet
          exact ⟨HU, HVz, HPz⟩
        | true =>
          cases huw : uw with
          | false =>
            have HU : Hid (Value.bool false = .bool c2) := by rw [Hid, HD2.out, huw]; simp
            rw [hua] at HWa
            rw [huw] at HWw
            clear hua huw
            go_wp2_with (fail)
            clear a0 a1 a2 a3 a4 a5 a6 a7 a8 a9 a10 a11 a12 a13 b0 b1 b2 b3 b4 b5 b6 b7 b8 b9 b10 b11 b12 b13
            refine (HWa.out _).mono ?_
            rintro r z ⟨rfl, tz⟩
            have HVz : Hid _ := HVy.out.still tz
            have HPz : Hid _ := HPy.out.still tz
            clear tz
            obtain ⟨⟨a0, a1, a2, a3, a4, a5, a6, a7, a8, a9, a10, a11, a12, a13⟩, ⟨b0, b1, b2, b3, b4, b5, b6, b7, b8, b9, b10, b11, b12, b13⟩⟩ := HEv.out z HPz.out
            go_wp2_with (fail)
            clear a0 a1 a2 a3 a4 a5 a6 a7 a8 a9 a10 a11 a12 a13 b0 b1 b2 b3 b4 b5 b6 b7 b8 b9 b10 b11 b12 b13
            refine (HWw.out _).mono ?_
            rintro r z2 ⟨rfl, tz⟩
            have HVz2 : Hid _ := HVz.out.still tz
            have HPz2 : Hid _ := HPz.out.still tz
            clear tz
            obtain ⟨⟨a0, a1, a2, a3, a4, a5, a6, a7, a8, a9, a10, a11, a12, a13⟩, ⟨b0, b1, b2, b3, b4, b5, b6, b7, b8, b9, b10, b11, b12, b13⟩⟩ := HEv.out z2 HPz2.out
            go_wp2
            go_meet
            exact ⟨HU, HVz2, HPz2⟩
          | true =>
            by_cases hnn : num = num'
            · have d2 : (num == num') = true := by simpa using hnn
              have HU : Hid (Value.bool true = .bool c2) := by rw [Hid, HD2.out, hua, huw, HIn.out.2.2, decide_eq_true hnn, d1']; rfl
              rw [hua] at HWa
              rw [huw] at HWw
              clear hua huw hnn
              go_wp2_with (fail)
              clear a0 a1 a2 a3 a4 a5 a6 a7 a8 a9 a10 a11 a12 a13 b0 b1 b2 b3 b4 b5 b6 b7 b8 b9 b10 b11 b12 b13
              refine (HWa.out _).mono ?_
              rintro r z ⟨rfl, tz⟩
              have HVz : Hid _ := HVy.out.still tz
              have HPz : Hid _ := HPy.out.still tz
              clear tz
              obtain ⟨⟨a0, a1, a2, a3, a4, a5, a6, a7, a8, a9, a10, a11, a12, a13⟩, ⟨b0, b1, b2, b3, b4, b5, b6, b7, b8, b9, b10, b11, b12, b13⟩⟩ := HEv.out z HPz.out
              go_wp2_with (fail)
              clear a0 a1 a2 a3 a4 a5 a6 a7 a8 a9 a10 a11 a12 a13 b0 b1 b2 b3 b4 b5 b6 b7 b8 b9 b10 b11 b12 b13
              refine (HWw.out _).mono ?_
              rintro r z2 ⟨rfl, tz⟩
              have HVz2 : Hid _ := HVz.out.still tz
              have HPz2 : Hid _ := HPz.out.still tz
              clear tz
              obtain ⟨⟨a0, a1, a2, a3, a4, a5, a6, a7, a8, a9, a10, a11, a12, a13⟩, ⟨b0, b1, b2, b3, b4, b5, b6, b7, b8, b9, b10, b11, b12, b13⟩⟩ := HEv.out z2 HPz2.out
              go_wp2
              go_meet
              exact ⟨HU, HVz2, HPz2⟩
            · have d2 : (num == num') = false := by simpa using hnn
              have HU : Hid (Value.bool false = .bool c2) := by rw [Hid, HD2.out, decide_eq_false hnn]; simp
              rw [hua] at HWa
              rw [huw] at HWw
              clear hua huw hnn
              go_wp2_with (fail)
              clear a0 a1 a2 a3 a4 a5 a6 a7 a8 a9 a10 a11 a12 a13 b0 b1 b2 b3 b4 b5 b6 b7 b8 b9 b10 b11 b12 b13
              refine (HWa.out _).mono ?_
              rintro r z ⟨rfl, tz⟩
              have HVz : Hid _ := HVy.out.still tz
              have HPz : Hid _ := HPy.out.still tz
              clear tz
              obtain ⟨⟨a0, a1, a2, a3, a4, a5, a6, a7, a8, a9, a10, a11, a12, a13⟩, ⟨b0, b1, b2, b3, b4, b5, b6, b7, b8, b9, b10, b11, b12, b13⟩⟩ := HEv.out z HPz.out
              go_wp2_with (fail)
              clear a0 a1 a2 a3 a4 a5 a6 a7 a8 a9 a10 a11 a12 a13 b0 b1 b2 b3 b4 b5 b6 b7 b8 b9 b10 b11 b12 b13
              refine (HWw.out _).mono ?_
              rintro r z2 ⟨rfl, tz⟩
              have HVz2 : Hid _ := HVz.out.still tz
              have HPz2 : Hid _ := HPz.out.still tz
              clear tz
              obtain ⟨⟨a0, a1, a2, a3, a4, a5, a6, a7, a8, a9, a10, a11, a12, a13⟩, ⟨b0, b1, b2, b3, b4, b5, b6, b7, b8, b9, b10, b11, b12, b13⟩⟩ := HEv.out z2 HPz2.out
              go_wp2
              go_meet
              exact ⟨HU, HVz2, HPz2⟩
      · have d1 : decide ((j : Int) < (i : Int)) = false := decide_eq_false (by omega)
        have d1' : decide (j < i) = false := decide_eq_false hji
        have HU : Hid (Value.bool false = .bool c2) := by rw [Hid, HD2.out, d1']; rfl
        go_wp2
        go_meet
        exact ⟨HU, HVy, HPy⟩
    case rest =>
    obtain ⟨rfl, HVa, HPaa⟩ := hcut.ex
    clear hcut a0 a1 a2 a3 a4 a5 a6 a7 a8 a9 a10 a11 a12 a13 b0 b1 b2 b3 b4 b5 b6 b7 b8 b9 b10 b11 b12 b13 HVy HPy
    go_upto_if 67 with fail
    go_cut [] from 67 to 71 (fun wx => Bx (∃ O2 : List Bm, Hid (O2 = O ++ (if c2 then [((i : Int), (j : Int), (2 : Int))] else [])) ∧ O2.length ≤ O.length + 1 ∧ Hid (VX w1 hb S.length (.slice (some ⟨b, o, none⟩) D.length lc) tv O2 wx) ∧ Hid (P2 wx hb g h ⟨wk, eb, en, k, p, key, num, had, val, has, new, ns, ps⟩ ⟨wk', eb', en', k', p', key', num', had', val', has', new', ns', ps'⟩ (.slice na ns.length nc) (.slice pa ps.length pc) (.slice na' ns'.length nc') (.slice pa' ps'.length pc'))))
    case first =>
      cases c2 with
      | true =>
        go_wp2_with (go_at_call 57; refine (cBlameR HVa.out (by omega) _ _ _).mono ?_; rintro r y2 ⟨rfl, hv2, hk2⟩; have HVn : Hid _ := hv2; have HPn : Hid _ := HPaa.out.keep hk2; clear hv2 hk2)
        go_meet
        exact ⟨_, rfl, by simp, HVn, HPn⟩
      | false =>
        go_wp2
        go_meet
        exact ⟨O, (List.append_nil O).symm, by omega, HVa, HPaa⟩
    case rest =>
    obtain ⟨O2, HO2, hO2, HVc, HPc⟩ := hcut.ex
    clear hcut HVa HPaa
    obtain ⟨⟨a0, a1, a2, a3, a4, a5, a6, a7, a8, a9, a10, a11, a12, a13⟩, ⟨b0, b1, b2, b3, b4, b5, b6, b7, b8, b9, b10, b11, b12, b13⟩⟩ := HEv.out _ HPc.out
    go_upto_region 7 with fail
    go_cut [90] from 72 to 90 (fun c wx => Bx (c = .bool c5 ∧ Hid (VX w1 hb S.length (.slice (some ⟨b, o, none⟩) D.length lc) tv O2 wx) ∧ Hid (P2 wx hb g h ⟨wk, eb, en, k, p, key, num, had, val, has, new, ns, ps⟩ ⟨wk', eb', en', k', p', key', num', had', val', has', new', ns', ps'⟩ (.slice na ns.length nc) (.slice pa ps.length pc) (.slice na' ns'.length nc') (.slice pa' ps'.length pc'))))
    case first =>
      cases ah with
      | false =>
        have HU : Hid (Value.bool false = .bool c5) := by rw [Hid, HD5.out]; rfl
        go_wp2
        go_meet
        exact ⟨HU, HVc, HPc⟩
      | true =>
        by_cases hlt : num < num'
        · have d2 : decide (num < num') = true := decide_eq_true hlt
          have HU : Hid (Value.bool true = .bool c5) := by rw [Hid, HD5.out, HIn.out.1, HIn.out.2.1, HIn.out.2.2, d2]; rfl
          clear hlt
          go_wp2
          go_meet
          exact ⟨HU, HVc, HPc⟩
        · have d2 : decide (num < num') = false := decide_eq_false hlt
          by_cases hnn : num = num'
          · have d3 : (num == num') = true := by simpa using hnn
            have HU : Hid (Value.bool ua = .bool c5) := by rw [Hid, HD5.out, HIn.out.1, HIn.out.2.1, HIn.out.2.2, d2, decide_eq_true hnn]; simp
            clear hlt hnn
            go_wp2_with (fail)
            clear a0 a1 a2 a3 a4 a5 a6 a7 a8 a9 a10 a11 a12 a13 b0 b1 b2 b3 b4 b5 b6 b7 b8 b9 b10 b11 b12 b13
            refine (HWa.out _).mono ?_
            rintro r z ⟨rfl, tz⟩
            have HVz : Hid _ := HVc.out.still tz
            have HPz : Hid _ := HPc.out.still tz
            clear tz
            go_wp2
            go_meet
            exact ⟨HU, HVz, HPz⟩
          · have d3 : (num == num') = false := by simpa using hnn
            have HU : Hid (Value.bool false = .bool c5) := by rw [Hid, HD5.out, d2, decide_eq_false hnn]; simp
            clear hlt hnn
            go_wp2
            go_meet
            exact ⟨HU, HVc, HPc⟩
    case rest =>
    obtain ⟨rfl, HVd, HPd⟩ := hcut.ex
    clear hcut a0 a1 a2 a3 a4 a5 a6 a7 a8 a9 a10 a11 a12 a13 b0 b1 b2 b3 b4 b5 b6 b7 b8 b9 b10 b11 b12 b13 HVc HPc
    cases c5 with
    | true =>
      go_wp2_with (go_at_call 57; refine (cBlameR HVd.out (by omega) _ _ _).mono ?_; rintro r y2 ⟨rfl, hv2, hk2⟩; have HVn : Hid _ := hv2; have HPn : Hid _ := HPd.out.keep hk2; clear hv2 hk2)
      exact HRest0.out _ _ _ rfl rfl rfl rfl rfl rfl rfl rfl rfl rfl (by rw [Hid, HO2.out, List.append_assoc]; rfl) (by simp; omega) HVn HPn
    | false =>
      go_wp2
      exact HRest0.out _ _ O2 rfl rfl rfl rfl rfl rfl rfl rfl rfl rfl (by rw [Hid, HO2.out]; simp) (by omega) HVd HPd
end Go.Proofs.YtbielnehggcaoaaDoor

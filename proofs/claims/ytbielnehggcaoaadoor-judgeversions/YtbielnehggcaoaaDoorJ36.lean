/-
  What two events are blamed for: the walk's middle. (By the verifier; no statement.)
-/
import Derived.Test.YtbielnehggcaoaaDoorJ34
import Derived.Test.YtbielnehggcaoaaDoorJ35
import Derived.Deep.CutRange
set_option linter.unusedVariables false
namespace Go.Proofs.YtbielnehggcaoaaDoor
open Go.RowKit
set_option maxRecDepth 100000 in
set_option maxHeartbeats 12800000 in
theorem pair_mid {w0 w1 : World} {hb : Nat} {tv : Value} {S : List (List (Int × Int))} {D : List Ev} {CL O : List Bm} {i j b o lc g h nc pc nc' pc' : Nat} {na pa na' pa' : Option Addr} {wk eb en k p key num val new wk' eb' en' k' p' key' num' val' new' : Int} {had has had' has' : Bool} {ns ns' : List Int} {ps ps' : List (Int × Int)} {sa sb ah bh ua uw c2 c5 c6 c7 : Bool} {O3 : List Bm} {x : World} {a : Act} (hl : O.length ≤ 999999000) (HT : Hid (∀ O' y, VX w1 hb S.length (.slice (some ⟨b, o, none⟩) D.length lc) tv O' y → Turned [] w0 y)) (HI : Hid (IV w0 (.slice na ns.length nc) ns ∧ IV w0 (.slice na' ns'.length nc') ns')) (HNs : Hid (ns.length ≤ 1000000 ∧ ns'.length ≤ 1000000)) (HBf : Hid (∀ y, Calls Tryd.prog 60 #[.int .i64 en, .int .i64 eb'] y fun r w' => r = .returned (.bool bh) ∧ w' = y)) (HWa : Hid (∀ y, Calls Tryd.prog 55 #[.agg (evA ⟨wk, eb, en, k, p, key, num, had, val, has, new, ns, ps⟩ (.slice na ns.length nc) (.slice pa ps.length pc))] y fun r w' => r = .returned (.bool ua) ∧ Turned [] y w')) (HWw : Hid (∀ y, Calls Tryd.prog 55 #[.agg (evA ⟨wk', eb', en', k', p', key', num', had', val', has', new', ns', ps'⟩ (.slice na' ns'.length nc') (.slice pa' ps'.length pc'))] y fun r w' => r = .returned (.bool uw) ∧ Turned [] y w')) (HPa : Hid (ua = true → sa = false ∧ ∃ q : Nat, p = q ∧ q < S.length)) (HPw : Hid (uw = true → sb = false)) (HNa : Hid (sa = true → ns.length = S.length)) (HNw : Hid (sb = true → ns'.length = S.length)) (HQw : Hid (sb = false → ∃ q : Nat, p' = q ∧ q < S.length)) (HD2 : Hid (c2 = (decide (j < i) && (ua && uw && decide (p = p') && decide (num = num'))))) (HD5 : Hid (c5 = (ah && (!sa && !sb && decide (p = p') && (decide (num < num') || (decide (num = num') && ua)))))) (HD6 : Hid (c6 = (ah && ((sb && ua && decide (num ≤ ns'.getD p.toNat 0)) || (sa && !sb && decide (ns.getD p'.toNat 0 < num')))))) (HD7 : Hid (c7 = (decide (j < i) && (sa && sb && ((belowB ns ns' && belowB ns' ns) || (belowB ns ns' && ah) || (belowB ns' ns && bh)))))) (hO3 : O3.length ≤ O.length + 2) (HO3 : Hid (O ++ CL = O3 ++ ((if c6 then [((i : Int), (j : Int), (6 : Int))] else []) ++ (if c7 then [((i : Int), (j : Int), (7 : Int))] else [])))) (HVb : Hid (VX w1 hb S.length (.slice (some ⟨b, o, none⟩) D.length lc) tv O3 x)) (HPb : Hid (P2 x hb g h ⟨wk, eb, en, k, p, key, num, had, val, has, new, ns, ps⟩ ⟨wk', eb', en', k', p', key', num', had', val', has', new', ns', ps'⟩ (.slice na ns.length nc) (.slice pa ps.length pc) (.slice na' ns'.length nc') (.slice pa' ps'.length pc'))) (hsz : a.tmps.size = 181) (hdf : a.defers = []) (p0 : a.eval (.tmp 0) = .pointer (some ⟨hb, 0, none⟩)) (p1 : a.eval (.tmp 1) = .int .i64 (i : Int)) (p2 : a.eval (.tmp 2) = .int .i64 (j : Int)) (p6 : a.eval (.tmp 6) = .pointer (some ⟨g, 0, none⟩)) (p7 : a.eval (.tmp 7) = .pointer (some ⟨h, 0, none⟩)) (p8 : a.eval (.tmp 8) = .bool sa) (p9 : a.eval (.tmp 9) = .bool sb) (p10 : a.eval (.tmp 10) = .bool ah) : (atc Tryd.f39.body [1, 1, 1, 1, 1]).wp Tryd.prog (bodyPost Tryd.prog Tryd.f39 fun r x' => r = .returned (.tuple #[]) ∧ VX w1 hb S.length (.slice (some ⟨b, o, none⟩) D.length lc) tv (O ++ CL) x') a x := by
  have HEv : Hid (∀ y, P2 y hb g h ⟨wk, eb, en, k, p, key, num, had, val, has, new, ns, ps⟩ ⟨wk', eb', en', k', p', key', num', had', val', has', new', ns', ps'⟩ (.slice na ns.length nc) (.slice pa ps.length pc) (.slice na' ns'.length nc') (.slice pa' ps'.length pc') → (g < y.heap.size ∧ y.cell? ⟨g, 0, none⟩ = some (.int .i64 wk) ∧ y.cell? ⟨g, 1, none⟩ = some (.int .i64 eb) ∧ y.cell? ⟨g, 2, none⟩ = some (.int .i64 en) ∧ y.cell? ⟨g, 3, none⟩ = some (.int .i64 k) ∧ y.cell? ⟨g, 4, none⟩ = some (.int .i64 p) ∧ y.cell? ⟨g, 5, none⟩ = some (.int .i64 key) ∧ y.cell? ⟨g, 6, none⟩ = some (.int .i64 num) ∧ y.cell? ⟨g, 7, none⟩ = some (.bool had) ∧ y.cell? ⟨g, 8, none⟩ = some (.int .i64 val) ∧ y.cell? ⟨g, 9, none⟩ = some (.bool has) ∧ y.cell? ⟨g, 10, none⟩ = some (.int .i64 new) ∧ y.cell? ⟨g, 11, none⟩ = some (.slice na ns.length nc) ∧ y.cell? ⟨g, 12, none⟩ = some (.slice pa ps.length pc)) ∧ (h < y.heap.size ∧ y.cell? ⟨h, 0, none⟩ = some (.int .i64 wk') ∧ y.cell? ⟨h, 1, none⟩ = some (.int .i64 eb') ∧ y.cell? ⟨h, 2, none⟩ = some (.int .i64 en') ∧ y.cell? ⟨h, 3, none⟩ = some (.int .i64 k') ∧ y.cell? ⟨h, 4, none⟩ = some (.int .i64 p') ∧ y.cell? ⟨h, 5, none⟩ = some (.int .i64 key') ∧ y.cell? ⟨h, 6, none⟩ = some (.int .i64 num') ∧ y.cell? ⟨h, 7, none⟩ = some (.bool had') ∧ y.cell? ⟨h, 8, none⟩ = some (.int .i64 val') ∧ y.cell? ⟨h, 9, none⟩ = some (.bool has') ∧ y.cell? ⟨h, 10, none⟩ = some (.int .i64 new') ∧ y.cell? ⟨h, 11, none⟩ = some (.slice na' ns'.length nc') ∧ y.cell? ⟨h, 12, none⟩ = some (.slice pa' ps'.length pc'))) := fun y hy => ⟨EC.block hy.a y (Turned.refl _ _), EC.block hy.w y (Turned.refl _ _)⟩
  obtain ⟨cc, hcc, hce⟩ := expand181 hsz hdf
  have q0 := (hce 0).trans p0
  have q1 := (hce 1).trans p1
  have q2 := (hce 2).trans p2
  have q6 := (hce 6).trans p6
  have q7 := (hce 7).trans p7
  have q8 := (hce 8).trans p8
  have q9 := (hce 9).trans p9
  have q10 := (hce 10).trans p10
  clear p0 p1 p2 p6 p7 p8 p9 p10 hce hsz hdf
  subst hcc
  conv => arg 2; whnf
  unfold lit181
  simp only [q0, q1, q2, q6, q7, q8, q9, q10]
  clear q0 q1 q2 q6 q7 q8 q9 q10
  obtain ⟨x5, rfl⟩ : ∃ x5, x5 = x := ⟨_, rfl⟩
  obtain ⟨⟨a0, a1, a2, a3, a4, a5, a6, a7, a8, a9, a10, a11, a12, a13⟩, ⟨b0, b1, b2, b3, b4, b5, b6, b7, b8, b9, b10, b11, b12, b13⟩⟩ := HEv.out _ HPb.out
  refine wp_seq_k fun K0 hK0 => ?_
  have HK0 : Hid _ := hK0
  clear hK0
  go_upto_region 9 with fail
  rename_i K9 hK9
  have HRest : Hid (∀ a' x', a'.tmps.size = 181 → a'.defers = [] → a'.eval (.tmp 0) = .pointer (some ⟨hb, 0, none⟩) → a'.eval (.tmp 1) = .int .i64 (i : Int) → a'.eval (.tmp 2) = .int .i64 (j : Int) → a'.eval (.tmp 6) = .pointer (some ⟨g, 0, none⟩) → a'.eval (.tmp 7) = .pointer (some ⟨h, 0, none⟩) → a'.eval (.tmp 8) = .bool sa → a'.eval (.tmp 9) = .bool sb → a'.eval (.tmp 10) = .bool ah → a'.eval (.tmp 134) = .bool c6 → Hid (VX w1 hb S.length (.slice (some ⟨b, o, none⟩) D.length lc) tv O3 x') ∧ Hid (P2 x' hb g h ⟨wk, eb, en, k, p, key, num, had, val, has, new, ns, ps⟩ ⟨wk', eb', en', k', p', key', num', had', val', has', new', ns', ps'⟩ (.slice na ns.length nc) (.slice pa ps.length pc) (.slice na' ns'.length nc') (.slice pa' ps'.length pc')) → K9 a' x') := by
    intro a' x' hsz hdf p0 p1 p2 p6 p7 p8 p9 p10 p134 ⟨HVe, HPe⟩
    clear a0 a1 a2 a3 a4 a5 a6 a7 a8 a9 a10 a11 a12 a13 b0 b1 b2 b3 b4 b5 b6 b7 b8 b9 b10 b11 b12 b13 HVb HPb
    obtain ⟨cc, rfl, hcc⟩ := expand181 hsz hdf
    have q0 := (hcc 0).trans p0
    have q1 := (hcc 1).trans p1
    have q2 := (hcc 2).trans p2
    have q6 := (hcc 6).trans p6
    have q7 := (hcc 7).trans p7
    have q8 := (hcc 8).trans p8
    have q9 := (hcc 9).trans p9
    have q10 := (hcc 10).trans p10
    have q134 := (hcc 134).trans p134
    clear p0 p1 p2 p6 p7 p8 p9 p10 p134 hcc hsz hdf
    refine hK9 _ _ ?_
    simp only [lit181, q0, q1, q2, q6, q7, q8, q9, q10, q134]
    clear q0 q1 q2 q6 q7 q8 q9 q10 q134
    cases c6 with
    | true =>
      go_wp2_with (go_at_call 57; refine (cBlameR HVe.out (by omega) _ _ _).mono ?_; rintro r y2 ⟨rfl, hv2, hk2⟩; have HVn : Hid _ := hv2; have HPn : Hid _ := HPe.out.keep hk2; clear hv2 hk2)
      refine HK0.out _ _ ?_
      exact pair_end hl HT HI HNs HBf HWa HWw HPa HPw HNa HNw HQw HD2 HD5 HD6 HD7 (by simp; omega) (by rw [Hid, HO3.out]; simp) HVn HPn rfl rfl rfl rfl rfl rfl rfl rfl rfl rfl
    | false =>
      go_wp2
      refine HK0.out _ _ ?_
      exact pair_end hl HT HI HNs HBf HWa HWw HPa HPw HNa HNw HQw HD2 HD5 HD6 HD7 (by omega) (by rw [Hid, HO3.out]; simp) HVe HPe rfl rfl rfl rfl rfl rfl rfl rfl rfl rfl
  clear hK9
  cases sb with
  | true =>
    cases ah with
    | true =>
      cases ua with
      | true =>
        have HSa0 : sa = false := (HPa.out rfl).1
        subst HSa0
        obtain ⟨-, q, rfl, hq⟩ := HPa.out rfl
        have hnl : ns'.length = S.length := HNw.out rfl
        obtain ⟨nb, no, ncx, en2, -, hcl⟩ := (HI.out.2.still (HT.out _ _ HVb.out)).get (i := q) (by omega)
        simp only [Value.slice.injEq] at en2
        obtain ⟨rfl, -, -⟩ := en2
        have dq1 : (q : Int) < (ns'.length : Int) := by omega
        have dq2 : 0 ≤ (q : Int) := by omega
        have dq3 : IntKind.i64.wrap (q : Int) = (q : Int) := by
          have := HNs.out.2
          simp [IntKind.wrap, IntKind.bits, IntKind.signed]
          omega
        have dq4 : q < ns'.length := by omega
        by_cases hc : num ≤ ns'.getD q 0
        · have d5 : decide (num ≤ ns'.getD q 0) = true := decide_eq_true hc
          have HU : Value.bool true = .bool c6 := by rw [HD6.out, Int.toNat_natCast, d5]; rfl
          refine wp_thenN ?_
          refine pair_a (g := g) (h := h) rfl rfl rfl rfl rfl rfl a1 a2 a3 a4 a5 a6 a7 a8 a9 a10 a11 a12 a13 b12 hcl dq1 dq4 dq2 dq3 d5 (fun x _ => HWa.out x) ?_
          intro a' x' hsz hdf hoff h134 hx'
          exact HRest.out a' x' hsz hdf (hoff 0 (by decide)) (hoff 1 (by decide)) (hoff 2 (by decide)) (hoff 6 (by decide)) (hoff 7 (by decide)) (hoff 8 (by decide)) (hoff 9 (by decide)) (hoff 10 (by decide)) (h134.trans HU) ⟨HVb.out.still hx', HPb.out.still hx'⟩
        · have d5 : decide (num ≤ ns'.getD q 0) = false := decide_eq_false hc
          have HU : Value.bool false = .bool c6 := by rw [HD6.out, Int.toNat_natCast, d5]; rfl
          refine wp_thenN ?_
          refine pair_b (g := g) (h := h) rfl rfl rfl rfl rfl rfl a1 a2 a3 a4 a5 a6 a7 a8 a9 a10 a11 a12 a13 b12 hcl dq1 dq4 dq2 dq3 d5 (fun x _ => HWa.out x) ?_
          intro a' x' hsz hdf hoff h134 hx'
          exact HRest.out a' x' hsz hdf (hoff 0 (by decide)) (hoff 1 (by decide)) (hoff 2 (by decide)) (hoff 6 (by decide)) (hoff 7 (by decide)) (hoff 8 (by decide)) (hoff 9 (by decide)) (hoff 10 (by decide)) (h134.trans HU) ⟨HVb.out.still hx', HPb.out.still hx'⟩
      | false =>
        cases sa with
        | true =>
          have HU : Value.bool false = .bool c6 := by rw [HD6.out]; rfl
          refine wp_thenN ?_
          refine pair_c (g := g) (h := h) rfl rfl rfl rfl rfl rfl a1 a2 a3 a4 a5 a6 a7 a8 a9 a10 a11 a12 a13 (fun x _ => HWa.out x) ?_
          intro a' x' hsz hdf hoff h134 hx'
          exact HRest.out a' x' hsz hdf (hoff 0 (by decide)) (hoff 1 (by decide)) (hoff 2 (by decide)) (hoff 6 (by decide)) (hoff 7 (by decide)) (hoff 8 (by decide)) (hoff 9 (by decide)) (hoff 10 (by decide)) (h134.trans HU) ⟨HVb.out.still hx', HPb.out.still hx'⟩
        | false =>
          have HU : Value.bool false = .bool c6 := by rw [HD6.out]; rfl
          refine wp_thenN ?_
          refine pair_d (g := g) (h := h) rfl rfl rfl rfl rfl rfl a1 a2 a3 a4 a5 a6 a7 a8 a9 a10 a11 a12 a13 (fun x _ => HWa.out x) ?_
          intro a' x' hsz hdf hoff h134 hx'
          exact HRest.out a' x' hsz hdf (hoff 0 (by decide)) (hoff 1 (by decide)) (hoff 2 (by decide)) (hoff 6 (by decide)) (hoff 7 (by decide)) (hoff 8 (by decide)) (hoff 9 (by decide)) (hoff 10 (by decide)) (h134.trans HU) ⟨HVb.out.still hx', HPb.out.still hx'⟩
    | false =>
      cases sa with
      | true =>
        have HU : Hid (Value.bool false = .bool c6) := by rw [Hid, HD6.out]; rfl
        go_quiet (fail)
        exact HRest.out _ _ rfl rfl rfl rfl rfl rfl rfl rfl rfl rfl HU ⟨HVb.out.still ((Turned.refl [] _).drewN _), HPb.out.still ((Turned.refl [] _).drewN _)⟩
      | false =>
        have HU : Hid (Value.bool false = .bool c6) := by rw [Hid, HD6.out]; rfl
        go_quiet (fail)
        exact HRest.out _ _ rfl rfl rfl rfl rfl rfl rfl rfl rfl rfl HU ⟨HVb.out.still ((Turned.refl [] _).drewN _), HPb.out.still ((Turned.refl [] _).drewN _)⟩
  | false =>
    cases sa with
    | true =>
      cases ah with
      | true =>
        obtain ⟨q, rfl, hq⟩ := HQw.out rfl
        have hnl : ns.length = S.length := HNa.out rfl
        obtain ⟨nb, no, ncx, en2, -, hcl⟩ := (HI.out.1.still (HT.out _ _ HVb.out)).get (i := q) (by omega)
        simp only [Value.slice.injEq] at en2
        obtain ⟨rfl, -, -⟩ := en2
        have dq1 : (q : Int) < (ns.length : Int) := by omega
        have dq2 : 0 ≤ (q : Int) := by omega
        have dq3 : IntKind.i64.wrap (q : Int) = (q : Int) := by
          have := HNs.out.1
          simp [IntKind.wrap, IntKind.bits, IntKind.signed]
          omega
        have dq4 : q < ns.length := by omega
        have hnb := cell_lt hcl
        by_cases hc : ns.getD q 0 < num'
        · have d5 : decide (ns.getD q 0 < num') = true := decide_eq_true hc
          have HU : Hid (Value.bool true = .bool c6) := by rw [Hid, HD6.out, Int.toNat_natCast, d5]; rfl
          clear hc
          generalize ns.getD q 0 = vq at hcl d5
          go_quiet (fail)
          exact HRest.out _ _ rfl rfl rfl rfl rfl rfl rfl rfl rfl rfl HU ⟨HVb.out.still ((Turned.refl [] _).drewN _), HPb.out.still ((Turned.refl [] _).drewN _)⟩
        · have d5 : decide (ns.getD q 0 < num') = false := decide_eq_false hc
          have HU : Hid (Value.bool false = .bool c6) := by rw [Hid, HD6.out, Int.toNat_natCast, d5]; rfl
          clear hc
          generalize ns.getD q 0 = vq at hcl d5
          go_quiet (fail)
          exact HRest.out _ _ rfl rfl rfl rfl rfl rfl rfl rfl rfl rfl HU ⟨HVb.out.still ((Turned.refl [] _).drewN _), HPb.out.still ((Turned.refl [] _).drewN _)⟩
      | false =>
        have HU : Hid (Value.bool false = .bool c6) := by rw [Hid, HD6.out]; rfl
        go_quiet (fail)
        exact HRest.out _ _ rfl rfl rfl rfl rfl rfl rfl rfl rfl rfl HU ⟨HVb.out.still ((Turned.refl [] _).drewN _), HPb.out.still ((Turned.refl [] _).drewN _)⟩
    | false =>
      cases ah with
      | true =>
        have HU : Hid (Value.bool false = .bool c6) := by rw [Hid, HD6.out]; rfl
        go_quiet (fail)
        exact HRest.out _ _ rfl rfl rfl rfl rfl rfl rfl rfl rfl rfl HU ⟨HVb.out.still ((Turned.refl [] _).drewN _), HPb.out.still ((Turned.refl [] _).drewN _)⟩
      | false =>
        have HU : Hid (Value.bool false = .bool c6) := by rw [Hid, HD6.out]; rfl
        go_quiet (fail)
        exact HRest.out _ _ rfl rfl rfl rfl rfl rfl rfl rfl rfl rfl HU ⟨HVb.out.still ((Turned.refl [] _).drewN _), HPb.out.still ((Turned.refl [] _).drewN _)⟩
end Go.Proofs.YtbielnehggcaoaaDoor

/-
  What two events are blamed for, by the document's way; by contract. (By the verifier; no statement.)
-/
import Derived.Test.YtbielnehggcaoaaDoorJ37
import Derived.Deep.CutRange
set_option linter.unusedVariables false
namespace Go.Proofs.YtbielnehggcaoaaDoor
open Go.RowKit
section
variable {w0 w1 x : World} {hb : Nat} {lv tv : Value} {S : List (List (Int × Int))} {D : List Ev} {O : List Bm}
set_option maxRecDepth 100000 in
set_option maxHeartbeats 12800000 in
theorem cPair (hS : VS w0 w1 hb lv tv S D) (hV : VX w1 hb S.length lv tv O x) {i j : Nat} (hi : i < D.length) (hj : j < D.length) (ga : Gd S.length (eAt D i)) (gw : Gd S.length (eAt D j)) (hl : O.length ≤ 999999000) : Calls Tryd.prog 39 #[.pointer (some ⟨hb, 0, none⟩), .int .i64 i, .int .i64 j] x fun r x' => r = .returned (.tuple #[]) ∧ VX w1 hb S.length lv tv (O ++ cmpL D i j) x' := by
  obtain ⟨b, o, lc, rfl, he⟩ := hS.es.get hi
  obtain ⟨b', o', lc', e', he'⟩ := hS.es.get hj
  simp only [Value.slice.injEq, Option.some.injEq, Addr.mk.injEq] at e'
  obtain ⟨⟨rfl, rfl, -⟩, -, rfl⟩ := e'
  obtain ⟨na, nc, pa, pc, hec, hiv, -⟩ := he.ec
  obtain ⟨na', nc', pa', pc', hec', hiv', -⟩ := he'.ec
  have HT : Hid (∀ O' y, VX w1 hb S.length _ tv O' y → Turned [] w0 y) := fun O' y h => hS.turn h
  have HV : Hid (VX w1 hb S.length _ tv O x) := hV
  have HI : Hid (IV w0 (.slice na (eAt D i).ns.length nc) (eAt D i).ns ∧ IV w0 (.slice na' (eAt D j).ns.length nc') (eAt D j).ns) := ⟨hiv, hiv'⟩
  have HNs : Hid ((eAt D i).ns.length ≤ 1000000 ∧ (eAt D j).ns.length ≤ 1000000) := ⟨hS.ns i, hS.ns j⟩
  have hh : hb < x.heap.size ∧ x.cell? ⟨hb, 1, none⟩ = some (.slice (some ⟨b, o, none⟩) D.length lc) := by
    obtain ⟨ov, h1, _⟩ := hV.ex
    exact ⟨lt_of_heap h1, by rw [cell_at h1]; rfl⟩
  obtain ⟨z0, z1, z2, z3, z4, z5, z6, z7, z8, z9, z10, z11, z12, z13⟩ := hec.all x (hS.turn hV)
  obtain ⟨-, y1, y2, y3, y4, y5, y6, y7, y8, y9, y10, y11, y12, y13⟩ := hec'.all x (hS.turn hV)
  obtain ⟨s1, s2⟩ := hh
  have hDl : D.length ≤ 1024 := hS.dim.2.2
  have HCm := @cmp_parts D i j _ _ rfl rfl
  have HC : Hid _ := HCm
  have HGa : Hid _ := ga
  have HGw : Hid _ := gw
  clear hS hV hec he hiv hec' he' hiv' HCm ga gw
  generalize cmpL D i j = CL at *
  generalize eAt D i = a at *
  generalize eAt D j = w at *
  obtain ⟨wk, eb, en, k, p, key, num, had, val, has, new, ns, ps⟩ := a
  obtain ⟨wk', eb', en', k', p', key', num', had', val', has', new', ns', ps'⟩ := w
  dsimp only at z1 z2 z3 z4 z5 z6 z7 z8 z9 z10 z11 z12 z13 y1 y2 y3 y4 y5 y6 y7 y8 y9 y10 y11 y12 y13
  go_enter Tryd.func39, Tryd.ntmps39
  go_upto_region 0 with fail
  go_cut [6, 7] from 12 to 25 (fun s t wx => Bx (∃ g h : Nat, s = .pointer (some ⟨g, 0, none⟩) ∧ t = .pointer (some ⟨h, 0, none⟩) ∧ Hid (VX w1 hb S.length (.slice (some ⟨b, o, none⟩) D.length lc) tv O wx) ∧ Hid (Turned [] x wx) ∧ Hid (P2 wx hb g h ⟨wk, eb, en, k, p, key, num, had, val, has, new, ns, ps⟩ ⟨wk', eb', en', k', p', key', num', had', val', has', new', ns', ps'⟩ (.slice na ns.length nc) (.slice pa ps.length pc) (.slice na' ns'.length nc') (.slice pa' ps'.length pc'))))
  case first =>
    go_region
    all_goals
      go_wp2_with fail
      go_meet
      first
        | exact ⟨x.heap.size, x.heap.size + 1, rfl, rfl, HV.out.still (((Turned.refl [] x).alloc _).alloc _).drew, (((Turned.refl [] x).alloc _).alloc _).drew, ⟨blk20 _ _ _, blk21 _ _ _, ⟨Nat.ne_of_gt s1, Nat.ne_of_gt (Nat.lt_succ_of_lt s1)⟩⟩⟩
        | exact ⟨x.heap.size + 1, x.heap.size, rfl, rfl, HV.out.still (((Turned.refl [] x).alloc _).alloc _).drew, (((Turned.refl [] x).alloc _).alloc _).drew, ⟨blk21 _ _ _, blk20 _ _ _, ⟨Nat.ne_of_gt (Nat.lt_succ_of_lt s1), Nat.ne_of_gt s1⟩⟩⟩
  case rest =>
    obtain ⟨g, h, rfl, rfl, HV2, HT2, HP2⟩ := hcut.ex
    clear hcut z1 z2 z3 z4 z5 z6 z7 z8 z9 z10 z11 z12 z13 y1 y2 y3 y4 y5 y6 y7 y8 y9 y10 y11 y12 y13 s1 s2 z0 HV HT2
    obtain ⟨x2, rfl⟩ : ∃ x2, x2 = wc := ⟨_, rfl⟩
    have PB := fun y => cBefore en' eb y
    have PB2 := fun y => cBefore en eb' y
    have HBf : Hid (∀ y, Calls Tryd.prog 60 #[.int .i64 en, .int .i64 eb'] y fun r w' => r = .returned (.bool (wasA en eb')) ∧ w' = y) := PB2
    clear PB2
    have HEv : Hid (∀ y, P2 y hb g h ⟨wk, eb, en, k, p, key, num, had, val, has, new, ns, ps⟩ ⟨wk', eb', en', k', p', key', num', had', val', has', new', ns', ps'⟩ (.slice na ns.length nc) (.slice pa ps.length pc) (.slice na' ns'.length nc') (.slice pa' ps'.length pc') → (g < y.heap.size ∧ y.cell? ⟨g, 0, none⟩ = some (.int .i64 wk) ∧ y.cell? ⟨g, 1, none⟩ = some (.int .i64 eb) ∧ y.cell? ⟨g, 2, none⟩ = some (.int .i64 en) ∧ y.cell? ⟨g, 3, none⟩ = some (.int .i64 k) ∧ y.cell? ⟨g, 4, none⟩ = some (.int .i64 p) ∧ y.cell? ⟨g, 5, none⟩ = some (.int .i64 key) ∧ y.cell? ⟨g, 6, none⟩ = some (.int .i64 num) ∧ y.cell? ⟨g, 7, none⟩ = some (.bool had) ∧ y.cell? ⟨g, 8, none⟩ = some (.int .i64 val) ∧ y.cell? ⟨g, 9, none⟩ = some (.bool has) ∧ y.cell? ⟨g, 10, none⟩ = some (.int .i64 new) ∧ y.cell? ⟨g, 11, none⟩ = some (.slice na ns.length nc) ∧ y.cell? ⟨g, 12, none⟩ = some (.slice pa ps.length pc)) ∧ (h < y.heap.size ∧ y.cell? ⟨h, 0, none⟩ = some (.int .i64 wk') ∧ y.cell? ⟨h, 1, none⟩ = some (.int .i64 eb') ∧ y.cell? ⟨h, 2, none⟩ = some (.int .i64 en') ∧ y.cell? ⟨h, 3, none⟩ = some (.int .i64 k') ∧ y.cell? ⟨h, 4, none⟩ = some (.int .i64 p') ∧ y.cell? ⟨h, 5, none⟩ = some (.int .i64 key') ∧ y.cell? ⟨h, 6, none⟩ = some (.int .i64 num') ∧ y.cell? ⟨h, 7, none⟩ = some (.bool had') ∧ y.cell? ⟨h, 8, none⟩ = some (.int .i64 val') ∧ y.cell? ⟨h, 9, none⟩ = some (.bool has') ∧ y.cell? ⟨h, 10, none⟩ = some (.int .i64 new') ∧ y.cell? ⟨h, 11, none⟩ = some (.slice na' ns'.length nc') ∧ y.cell? ⟨h, 12, none⟩ = some (.slice pa' ps'.length pc'))) := fun y hy => ⟨EC.block hy.a y (Turned.refl _ _), EC.block hy.w y (Turned.refl _ _)⟩
    obtain ⟨⟨a0, a1, a2, a3, a4, a5, a6, a7, a8, a9, a10, a11, a12, a13⟩, ⟨b0, b1, b2, b3, b4, b5, b6, b7, b8, b9, b10, b11, b12, b13⟩⟩ := HEv.out x2 HP2.out
    have HWa : Hid (∀ y, Calls Tryd.prog 55 #[.agg (evA ⟨wk, eb, en, k, p, key, num, had, val, has, new, ns, ps⟩ (.slice na ns.length nc) (.slice pa ps.length pc))] y fun r w' => r = .returned (.bool (Ev.pub ⟨wk, eb, en, k, p, key, num, had, val, has, new, ns, ps⟩)) ∧ Turned [] y w') := fun y => cWrites y
    have HWw : Hid (∀ y, Calls Tryd.prog 55 #[.agg (evA ⟨wk', eb', en', k', p', key', num', had', val', has', new', ns', ps'⟩ (.slice na' ns'.length nc') (.slice pa' ps'.length pc'))] y fun r w' => r = .returned (.bool (Ev.pub ⟨wk', eb', en', k', p', key', num', had', val', has', new', ns', ps'⟩)) ∧ Turned [] y w') := fun y => cWrites y
    have HPa : Hid (Ev.pub ⟨wk, eb, en, k, p, key, num, had, val, has, new, ns, ps⟩ = true → (k == 4) = false ∧ ∃ q : Nat, p = q ∧ q < S.length) := fun hp => by
      have hk : k ≠ 4 := fun h4 => by
        have := pub_not4 (e := ⟨wk, eb, en, k, p, key, num, had, val, has, new, ns, ps⟩) h4
        rw [this] at hp
        cases hp
      exact ⟨by simpa using hk, HGa.out.p hk⟩
    have HPw : Hid (Ev.pub ⟨wk', eb', en', k', p', key', num', had', val', has', new', ns', ps'⟩ = true → (k' == 4) = false) := fun hp => by
      have hk : k' ≠ 4 := fun h4 => by
        have := pub_not4 (e := ⟨wk', eb', en', k', p', key', num', had', val', has', new', ns', ps'⟩) h4
        rw [this] at hp
        cases hp
      simpa using hk
    have HNa : Hid ((k == 4) = true → ns.length = S.length) := fun h4 => HGa.out.ns (by simpa using h4)
    have HNw : Hid ((k' == 4) = true → ns'.length = S.length) := fun h4 => HGw.out.ns (by simpa using h4)
    have HQw : Hid ((k' == 4) = false → ∃ q : Nat, p' = q ∧ q < S.length) := fun h4 => HGw.out.p (by simpa using h4)
    have HCx : Hid (CL = (if decide (j < i) && (Ev.pub ⟨wk, eb, en, k, p, key, num, had, val, has, new, ns, ps⟩ && Ev.pub ⟨wk', eb', en', k', p', key', num', had', val', has', new', ns', ps'⟩ && decide (p = p') && decide (num = num')) then [((i : Int), (j : Int), (2 : Int))] else []) ++ ((if wasA en' eb && (!(k == 4) && !(k' == 4) && decide (p = p') && (decide (num < num') || (decide (num = num') && Ev.pub ⟨wk, eb, en, k, p, key, num, had, val, has, new, ns, ps⟩))) then [((i : Int), (j : Int), (5 : Int))] else []) ++ ((if wasA en' eb && (((k' == 4) && Ev.pub ⟨wk, eb, en, k, p, key, num, had, val, has, new, ns, ps⟩ && decide (num ≤ ns'.getD p.toNat 0)) || ((k == 4) && !(k' == 4) && decide (ns.getD p'.toNat 0 < num'))) then [((i : Int), (j : Int), (6 : Int))] else []) ++ (if decide (j < i) && ((k == 4) && (k' == 4) && ((belowB ns ns' && belowB ns' ns) || (belowB ns ns' && wasA en' eb) || (belowB ns' ns && wasA en eb'))) then [((i : Int), (j : Int), (7 : Int))] else [])))) := HC.out
    clear HC HGa HGw
    generalize Ev.pub ⟨wk, eb, en, k, p, key, num, had, val, has, new, ns, ps⟩ = ua at *
    generalize Ev.pub ⟨wk', eb', en', k', p', key', num', had', val', has', new', ns', ps'⟩ = uw at *
    generalize hsa : (k == 4) = sa at *
    generalize hsb : (k' == 4) = sb at *
    generalize hah : wasA en' eb = ah at *
    generalize hbh : wasA en eb' = bh at *
    clear hah hbh
    obtain ⟨c2, hc2⟩ : ∃ c : Bool, c = (decide (j < i) && (ua && uw && decide (p = p') && decide (num = num'))) := ⟨_, rfl⟩
    obtain ⟨c5, hc5⟩ : ∃ c : Bool, c = (ah && (!sa && !sb && decide (p = p') && (decide (num < num') || (decide (num = num') && ua)))) := ⟨_, rfl⟩
    obtain ⟨c6, hc6⟩ : ∃ c : Bool, c = (ah && ((sb && ua && decide (num ≤ ns'.getD p.toNat 0)) || (sa && !sb && decide (ns.getD p'.toNat 0 < num')))) := ⟨_, rfl⟩
    obtain ⟨c7, hc7⟩ : ∃ c : Bool, c = (decide (j < i) && (sa && sb && ((belowB ns ns' && belowB ns' ns) || (belowB ns ns' && ah) || (belowB ns' ns && bh)))) := ⟨_, rfl⟩
    have HCy : Hid (CL = (if c2 then [((i : Int), (j : Int), (2 : Int))] else []) ++ ((if c5 then [((i : Int), (j : Int), (5 : Int))] else []) ++ ((if c6 then [((i : Int), (j : Int), (6 : Int))] else []) ++ (if c7 then [((i : Int), (j : Int), (7 : Int))] else [])))) := by
      rw [Hid, hc2, hc5, hc6, hc7]
      exact HCx.out
    have HD2 : Hid _ := hc2
    have HD5 : Hid _ := hc5
    have HD6 : Hid _ := hc6
    have HD7 : Hid _ := hc7
    clear hc2 hc5 hc6 hc7 HCx
    go_upto_region 3 with fail
    rename_i K3 hK3
    have HK3 : Hid _ := hK3
    clear hK3
    go_wp2_with (go_at_call 60; refine (PB _).mono ?_; rintro r z ⟨rfl, ez⟩; rw [ez]; clear ez z)
    refine HK3.out _ _ ?_
    exact pair_top hl HT HI HNs HBf HWa HWw HPa HPw HNa HNw HQw HD2 HD5 HD6 HD7 HCy HV2 HP2 rfl rfl rfl rfl rfl rfl rfl rfl rfl rfl
end
end Go.Proofs.YtbielnehggcaoaaDoor

/-
  Starts and events as the law is handed them; the document's answer and the program's are one. (By the verifier; no statement.)
-/
import Derived.Test.YtbielnehggcaoaaDoorJ32
import Derived.Test.YtbielnehggcaoaaDoorJ41
import Derived.Test.YtbielnehggcaoaaDoorJ26
import Derived.Test.YtbielnehggcaoaaDoorJ27
import Derived.Test.YtbielnehggcaoaaDoorJ11
namespace Go.Proofs.YtbielnehggcaoaaDoor
open Go.RowKit
theorem xe_still {w w' : World} {ev : Value} {D : List Ev} (h : XE w ev D) (ht : Turned [] w w') : XE w' ev D := by
  obtain ⟨L, h1, h2, h3⟩ := h.ex
  exact ⟨L, h1.still ht, h2, fun i hi => by obtain ⟨sa, sb, e1, e2, e3, e4⟩ := h3 i hi; exact ⟨sa, sb, e1, e2.still ht, e3.still ht, e4⟩⟩
theorem CpAt.lower {B B' k : Nat} {w : World} {ev : Value} {D : List Ev} (h : CpAt B w ev D k) (hb : B' ≤ B) : CpAt B' w ev D k := by
  obtain ⟨L, h1, h2, h3⟩ := h.ex
  exact ⟨L, h1.lower hb, h2, fun i hi => by obtain ⟨sa, sb, e1, e2, e3⟩ := h3 i hi; exact ⟨sa, sb, e1, e2.lower hb, e3.lower hb⟩⟩
/-- Starts as the law is given them: lists of any length. -/
structure XS (w : World) (sv : Value) (S : List (List (Int × Int))) : Prop where
  ex : ∃ a c, sv = .slice a S.length c ∧ ∀ i, i < S.length → ∃ (b o : Nat) (ra : Option Addr) (rc : Nat), a = some ⟨b, o, none⟩ ∧ w.cell? ⟨b, o + i, none⟩ = some (.slice ra (S.getD i []).length rc) ∧ VW encP w (.slice ra (S.getD i []).length rc) (S.getD i []) ∧ (S.getD i []).length * 16 ≤ 140737488355328
theorem XS.still {w w' : World} {sv : Value} {S : List (List (Int × Int))} (h : XS w sv S) (ht : Turned [] w w') : XS w' sv S := by
  obtain ⟨a, c, h1, h2⟩ := h.ex
  exact ⟨a, c, h1, fun i hi => by obtain ⟨b, o, ra, rc, e1, e2, e3, e4⟩ := h2 i hi; exact ⟨b, o, ra, rc, e1, ht.cell e2 (by simp), e3.still ht, e4⟩⟩
theorem XS.sw {w : World} {sv : Value} {S : List (List (Int × Int))} (h : XS w sv S) (hl : ∀ i, (S.getD i []).length ≤ 1000000) : SwAt w sv S := by
  obtain ⟨a, c, h1, h2⟩ := h.ex
  exact ⟨a, c, h1, fun i hi => by obtain ⟨b, o, ra, rc, e1, e2, e3, _⟩ := h2 i hi; exact ⟨b, o, ra, rc, e1, e2, e3, hl i⟩⟩
/-- What a light history gives to JudgeVersions. -/
structure LvOk (w : World) (sv ev : Value) (S : List (List (Int × Int))) (D : List Ev) : Prop where
  xs : XS w sv S
  xe : XE w ev D
  small : S.length + D.length ≤ 3000
  ss : S.length ≤ 64 → D.length ≤ 1024 → (∀ i, (S.getD i []).length ≤ 3000) ∧ (∀ i, (eAt D i).ns.length ≤ 3000) ∧ (∀ i, (eAt D i).ps.length ≤ 3000) ∧ (∀ i, (eAt D i).num < 9223372036854775808)
/-- The program's Versions of what was lent and copied answers R and f, wherever it is asked. -/
def SameA (S : List (List (Int × Int))) (D : List Ev) (R : List Bm) (f : Int) : Prop := ∀ (B : Nat) (z : World) (gv cv : Value), GvAt B z gv S S.length → CpAt B z cv D D.length → Calls Tryd.prog 22 #[gv, cv] z fun r z' => ∃ v', r = .returned (.tuple #[v', .int .i64 f]) ∧ BR z.heap.size z' v' R ∧ Turned [] z z'
theorem GvAt.form {B k : Nat} {w : World} {v : Value} {S : List (List (Int × Int))} (h : GvAt B w v S k) : ∃ a c, v = .slice a k c := by
  obtain ⟨L, h1, h2, -⟩ := h.ex
  obtain ⟨a, c, e⟩ := h1.slice
  exact ⟨a, c, by rw [e, h2]⟩
theorem CpAt.form {B k : Nat} {w : World} {v : Value} {D : List Ev} (h : CpAt B w v D k) : ∃ a c, v = .slice a k c := by
  obtain ⟨L, h1, h2, -⟩ := h.ex
  obtain ⟨a, c, e⟩ := h1.slice
  exact ⟨a, c, by rw [e, h2]⟩
theorem cWantR {w x : World} {sv ev : Value} {S : List (List (Int × Int))} {D : List Ev} (h : LvOk w sv ev S D) (hx : Turned [] w x) : Calls Tryd.prog 21 #[sv, ev] x fun r y => ∃ v R f, r = .returned (.tuple #[v, .int .i64 f]) ∧ BR x.heap.size y v R ∧ R.length ≤ 5000000 ∧ SameA S D R f ∧ Turned [] x y := by
  have hsm := h.small
  by_cases g : manyB S.length D.length = true
  · obtain ⟨sa, sc, rfl, -⟩ := h.xs.ex
    obtain ⟨L, hv, hL, -⟩ := h.xe.ex
    obtain ⟨ea, ec, rfl, -⟩ := hv.ex
    rw [hL]
    refine (cVersRMany g).mono ?_
    rintro r y ⟨rfl, rfl⟩
    refine ⟨_, [], _, rfl, BR.nil _ _, Nat.zero_le _, fun B z gv cv hG hC => ?_, Turned.refl _ _⟩
    obtain ⟨a1, c1, rfl⟩ := hG.form
    obtain ⟨a2, c2, rfl⟩ := hC.form
    refine (cVersMany g).mono ?_
    rintro r y ⟨rfl, rfl⟩
    exact ⟨_, rfl, BR.nil _ _, Turned.refl _ _⟩
  · have gm : manyB S.length D.length = false := by simpa using g
    have g64 : D.length ≤ 1024 ∧ S.length ≤ 64 := many_no gm
    obtain ⟨q1, q2, q3, q4⟩ := h.ss g64.2 g64.1
    refine (cVersionsR ((xe_still h.xe hx).es (by omega) (fun i => Nat.le_trans (q3 i) (by decide))) ((h.xs.still hx).sw (fun i => Nat.le_trans (q1 i) (by decide))) (fun i => Nat.le_trans (q2 i) (by decide)) q4 q3 gm).mono ?_
    rintro r y ⟨v, R, rfl, hO, hB, ht⟩
    refine ⟨v, R, 0, rfl, hB, hO.small (Nat.le_refl _) g64.1, fun B z gv cv hG hC => ?_, ht⟩
    refine (cVersions (hC.es (by omega) (fun i => Nat.le_trans (q3 i) (by decide))) (hG.ss (fun i => Nat.le_trans (q1 i) (by decide))) (by omega)).mono ?_
    intro r z' hv
    rcases hv.ans with ⟨m2, -⟩ | ⟨-, v2, R2, rfl, p2, s2, b2⟩
    · rw [gm] at m2
      cases m2
    · obtain rfl := hO.fin p2 s2
      exact ⟨v2, rfl, b2, hv.tu⟩
end Go.Proofs.YtbielnehggcaoaaDoor
/-
  Starts and events as the law is handed them, out of the row's data. (By the verifier; no statement.)
-/
namespace Go.Proofs.YtbielnehggcaoaaDoor
open Go.ChangeShapes Go.WideShapes Go.ChangeAt Go.WideMaps Go.WideElems Go.RowKit Go.Deep
theorem vw_cells {α : Type} {k : Nat} {enc : α → List Value} (N : En k enc) (hk : 0 < k) {w : World} {b o : Nat} (R : List α) (h : ∀ q (hq : q < R.length) j u, (enc R[q])[j]? = some u → w.cell? ⟨b, o + (q * k + j), none⟩ = some u) : ∀ (i : Nat) (u : Value), (R.flatMap enc)[i]? = some u → w.cell? ⟨b, o + i, none⟩ = some u := by
  intro i u hu
  have hi := (List.getElem?_eq_some_iff.1 hu).1
  rw [rowO_len N] at hi
  have hq : i / k < R.length := Nat.div_lt_of_lt_mul (by rw [Nat.mul_comm]; exact hi)
  have e : i / k * k + i % k = i := by rw [Nat.mul_comm]; exact Nat.div_add_mod i k
  have h1 := rowO_at N R hq (Nat.mod_lt i hk)
  rw [e, hu] at h1
  have h2 := h _ hq _ u h1.symm
  rwa [e] at h2
theorem reach_47 {n : Nat} (h : n ≤ reachBytes) : n ≤ 140737488355328 := by
  have := reachBytes_lt
  have : (2 : Nat) ^ 47 = 140737488355328 := by decide
  omega
theorem VW.len {α : Type} {enc : α → List Value} {w : World} {a : Option Addr} {n c : Nat} {R : List α} (h : VW enc w (.slice a n c) R) : n = R.length := by
  obtain ⟨a1, c1, h1, -⟩ := h.ex
  simp only [Value.slice.injEq] at h1
  exact h1.2.1
section
variable {H : Type} {enc : TypeId × Value → H} {W : World} {fuel base : Nat} {v : Value} {x : DataW H × List MemPlace} {d : DataW H} {p : List MemPlace}
set_option maxRecDepth 100000 in
theorem leaf_pairsV (h : DataW.trod enc Tryd.prog W 0 (fun _ => true) true fuel 41 [v] = some x) (hs : SmallD 41 x.1) : ∃ l : List (Int × Int), VW encP W v l ∧ l.length * 16 ≤ 140737488355328 := by
  rcases open_slice_pairs Tryd.underlying41 Tryd.underlying67 cellsPairR rfl rfl cellsIntR cellsIntR h with ⟨hcs, -⟩ | ⟨a, len, cap, m, n, V0, V1, D0, D1, P0, P1, hcs, _, hl, _, hm, hx, hel⟩
  · simp at hcs
    subst hcs
    exact ⟨[], VW.nil _ _, by simp⟩
  · simp at hcs
    subst hcs hx
    simp only [if_true] at hm
    obtain ⟨hb, -⟩ := small_slice Tryd.underlying41 hs
    rw [bytesPairR, List.length_map, List.length_range] at hb
    obtain ⟨b, off, spot⟩ := a
    obtain ⟨l, hll, hlp⟩ := choose_list (α := Int × Int) (P := fun i p => W.cell? ((⟨b, off, spot⟩ : Addr).add (i * 2)) = some (.int .i64 p.1) ∧ W.cell? ((⟨b, off, spot⟩ : Addr).add (i * 2 + 1)) = some (.int .i64 p.2)) len fun i hi => by
      obtain ⟨h0, h1, t0, t1⟩ := hel i (by omega)
      obtain ⟨z0, e0, _⟩ := DataW.trod_int Tryd.underlying3 t0
      obtain ⟨z1, e1, _⟩ := DataW.trod_int Tryd.underlying3 t1
      simp at e0 e1
      rw [e0] at h0
      rw [e1] at h1
      exact ⟨(z0, z1), h0, h1⟩
    refine ⟨l, ⟨some ⟨b, off, spot⟩, cap, by rw [hll], (fun h => by cases h), fun hne => ?_⟩, by rw [hll]; exact reach_47 hb⟩
    have hpos : 0 < l.length := by
      rcases Nat.eq_zero_or_pos l.length with e | e
      · exact absurd (List.length_eq_zero_iff.1 e) hne
      · exact e
    have hspot : spot = none := by simpa [Addr.add] using World.cell?_spot (hlp 0 _ (List.getElem?_eq_getElem hpos)).1
    subst hspot
    refine ⟨b, off, rfl, vw_cells enP (by decide) l fun q hq j u hu => ?_⟩
    obtain ⟨h0, h1⟩ := hlp q _ (List.getElem?_eq_getElem hq)
    match j, hu with
    | 0, hu =>
      simp only [encP, List.getElem?_cons_zero, Option.some.injEq] at hu
      rw [← hu]
      simpa [add_plain] using h0
    | 1, hu =>
      simp only [encP, List.getElem?_cons_succ, List.getElem?_cons_zero, Option.some.injEq] at hu
      rw [← hu]
      simpa [add_plain, Nat.add_assoc] using h1
    | j + 2, hu => simp [encP] at hu
set_option maxRecDepth 100000 in
theorem leaf_intsV (h : DataW.trod enc Tryd.prog W 0 (fun _ => true) true fuel 22 [v] = some x) (hs : SmallD 22 x.1) : ∃ l : List Int, VW (fun q : Int => [Value.int .i64 q]) W v l ∧ l.length * 8 ≤ 140737488355328 := by
  obtain ⟨l, hI, -⟩ := leaf_ints h hs
  refine ⟨l, hI.vw, ?_⟩
  rcases open_ints Tryd.underlying22 Tryd.underlying3 cellsIntR h with ⟨hcs, hx⟩ | ⟨a, len0, cap0, zs, hcs, _, hl, hm, hz, hx, hcell, hwz⟩
  · simp at hcs
    subst hcs
    have := VW.len hI.vw
    omega
  · simp at hcs
    subst hcs hx
    simp only [if_true] at hz
    obtain ⟨hb, -⟩ := small_slice Tryd.underlying22 hs
    have hlen : (zs.take len0).length = len0 := by rw [List.length_take, Nat.min_eq_left (by omega)]
    have hb2 : len0 * 8 ≤ reachBytes := by
      simpa [lits, bytesIntR, hlen, Nat.min_eq_left (show len0 ≤ zs.length by omega)] using hb
    have := VW.len hI.vw
    rw [← this]
    exact reach_47 hb2
set_option maxRecDepth 100000 in
theorem view_startsV (hok : Value.okWide Tryd.prog W .any base 38 v) (h : DataW.Trod enc Tryd.prog W 0 (fun _ => true) true 38 v d p) (hs : SmallD 38 d) :
    ∃ S : List (List (Int × Int)), XS W v S ∧ S.length ≤ 140737488355328 := by
  obtain ⟨a0, len, cap, rfl⟩ := okWide_slice Tryd.underlying38 hok
  obtain ⟨fuel, hf⟩ := h
  rcases open_slice Tryd.underlying38 hf with ⟨hcs, _⟩ | ⟨a, len', cap', m, n, Dx, Pl, hcs, _, hl, _, hm, hx, hel⟩
  · simp [Value.cells] at hcs
    obtain ⟨rfl, rfl, rfl⟩ := hcs
    exact ⟨[], ⟨none, 0, rfl, fun i hi => absurd hi (Nat.not_lt_zero _)⟩, by simp⟩
  · simp [Value.cells] at hcs
    obtain ⟨rfl, rfl, rfl⟩ := hcs
    simp only [Prod.mk.injEq] at hx
    obtain ⟨rfl, -⟩ := hx
    simp only [if_true] at hm
    obtain ⟨hb, hsm⟩ := small_slice Tryd.underlying38 hs
    rw [bytesPairsR, List.length_map, List.length_range] at hb
    obtain ⟨b, off, spot⟩ := a
    obtain ⟨S, hSl, hSp⟩ := choose_list (α := List (Int × Int)) (P := fun i l => ∃ u, W.cell? ((⟨b, off, spot⟩ : Addr).add i) = some u ∧ VW encP W u l ∧ l.length * 16 ≤ 140737488355328) len fun i hi => by
      obtain ⟨cs', h1, h2⟩ := hel i (by omega)
      rw [cellsPairsR] at h1
      obtain ⟨_, hlen, hcell⟩ := World.cells?_some h1
      match cs', hlen with
      | [u], _ =>
        obtain ⟨l, hpu⟩ := leaf_pairsV h2 (hsm _ (List.mem_map.2 ⟨i, List.mem_range.2 hi, rfl⟩))
        have t0 := hcell 0 (by simp)
        rw [add_add] at t0
        exact ⟨l, u, by simpa using t0, hpu⟩
    refine ⟨S, ⟨some ⟨b, off, spot⟩, cap, by rw [hSl], fun i hi => ?_⟩, by rw [hSl]; exact reach_le hb (by omega)⟩
    have hspot : spot = none := by
      obtain ⟨u, hu, -⟩ := hSp 0 _ (List.getElem?_eq_getElem (by omega))
      simpa [Addr.add] using World.cell?_spot hu
    subst hspot
    obtain ⟨u, hu, hpu, h16⟩ := hSp i _ (List.getElem?_eq_getElem hi)
    have eg : S.getD i [] = S[i] := by simp [hi]
    obtain ⟨ra, rc, rfl, -⟩ := id hpu.ex
    rw [eg]
    exact ⟨b, off, ra, rc, rfl, by simpa [add_plain] using hu, hpu, h16⟩
set_option maxRecDepth 100000 in
set_option maxHeartbeats 1600000 in
theorem view_eventsV (hok : Value.okWide Tryd.prog W .any base 39 v) (h : DataW.Trod enc Tryd.prog W 0 (fun _ => true) true 39 v d p) (hs : SmallD 39 d) :
    ∃ D : List Ev, XE W v D ∧ D.length ≤ 140737488355328 ∧ ∀ i, (eAt D i).num < 9223372036854775808 := by
  obtain ⟨a0, len, cap, rfl⟩ := okWide_slice Tryd.underlying39 hok
  obtain ⟨fuel, hf⟩ := h
  rcases open_slice Tryd.underlying39 hf with ⟨hcs, _⟩ | ⟨a, len', cap', m, n, Dx, Pl, hcs, _, hl, _, hm, hx, hel⟩
  · simp [Value.cells] at hcs
    obtain ⟨rfl, rfl, rfl⟩ := hcs
    exact ⟨[], ⟨[], VW.nil _ _, rfl, fun i hi => absurd hi (Nat.not_lt_zero _)⟩, by simp, fun i => by unfold eAt; simp; decide⟩
  · simp [Value.cells] at hcs
    obtain ⟨rfl, rfl, rfl⟩ := hcs
    simp only [Prod.mk.injEq] at hx
    obtain ⟨rfl, -⟩ := hx
    simp only [if_true] at hm
    obtain ⟨hb, hsm⟩ := small_slice Tryd.underlying39 hs
    rw [bytesEventR, List.length_map, List.length_range] at hb
    obtain ⟨L, hLl, hLp⟩ := choose_list (α := Ev × SV × SV) (P := fun i r => (∀ j, j < 13 → W.cell? (a.add (i * 13 + j)) = (encX r)[j]?) ∧ VW (fun q : Int => [Value.int .i64 q]) W (slV r.2.1) r.1.ns ∧ VW encP W (slV r.2.2) r.1.ps ∧ r.1.ns.length * 8 ≤ 140737488355328 ∧ r.1.ps.length * 16 ≤ 140737488355328 ∧ r.1.num < 9223372036854775808) len fun i hi => by
      obtain ⟨cs', h1, h2⟩ := hel i (by omega)
      rw [cellsEventR] at h1
      obtain ⟨_, hlen, hcell⟩ := World.cells?_some h1
      have hsi := hsm _ (List.mem_map.2 ⟨i, List.mem_range.2 hi, rfl⟩)
      obtain ⟨xs, k, _, hx2, _, hxl, hfs⟩ := DataW.trod_struct Tryd.underlying52 h2
      match xs, hxl, cs', hlen with
      | [y0, y1, y2, y3, y4, y5, y6, y7, y8, y9, y10, y11, y12], _, [v0, v1, v2, v3, v4, v5, v6, v7, v8, v9, v10, v11, v12], _ =>
        have g0 := hfs 0 _ rfl
        have g1 := hfs 1 _ rfl
        have g2 := hfs 2 _ rfl
        have g3 := hfs 3 _ rfl
        have g4 := hfs 4 _ rfl
        have g5 := hfs 5 _ rfl
        have g6 := hfs 6 _ rfl
        have g7 := hfs 7 _ rfl
        have g8 := hfs 8 _ rfl
        have g9 := hfs 9 _ rfl
        have g10 := hfs 10 _ rfl
        have g11 := hfs 11 _ rfl
        have g12 := hfs 12 _ rfl
        simp [cellsIntR, cellsBoolR, cellsIntsR, cellsPairsR] at g0 g1 g2 g3 g4 g5 g6 g7 g8 g9 g10 g11 g12
        simp only [Prod.mk.injEq] at hx2
        rw [hx2.1] at hsi
        obtain ⟨z0, e0, _⟩ := DataW.trod_int Tryd.underlying3 g0
        obtain ⟨z1, e1, _⟩ := DataW.trod_int Tryd.underlying3 g1
        obtain ⟨z2, e2, _⟩ := DataW.trod_int Tryd.underlying3 g2
        obtain ⟨z3, e3, _⟩ := DataW.trod_int Tryd.underlying3 g3
        obtain ⟨z4, e4, _⟩ := DataW.trod_int Tryd.underlying3 g4
        obtain ⟨z5, e5, _⟩ := DataW.trod_int Tryd.underlying3 g5
        obtain ⟨z6, e6, _, r6⟩ := DataW.trod_int Tryd.underlying3 g6
        obtain ⟨z7, e7, _⟩ := DataW.trod_bool Tryd.underlying4 g7
        obtain ⟨z8, e8, _⟩ := DataW.trod_int Tryd.underlying3 g8
        obtain ⟨z9, e9, _⟩ := DataW.trod_bool Tryd.underlying4 g9
        obtain ⟨z10, e10, _⟩ := DataW.trod_int Tryd.underlying3 g10
        obtain ⟨ns, hns, hnl⟩ := leaf_intsV g11 (small_agg (j := 11) Tryd.underlying52 hsi rfl rfl)
        obtain ⟨ps, hps, hpl⟩ := leaf_pairsV g12 (small_agg (j := 12) Tryd.underlying52 hsi rfl rfl)
        simp at e0 e1 e2 e3 e4 e5 e6 e7 e8 e9 e10
        subst e0 e1 e2 e3 e4 e5 e6 e7 e8 e9 e10
        have hnum : z6 < 9223372036854775808 := by
          simp [Lit.wf] at r6
          omega
        obtain ⟨na, nc, rfl, -⟩ := id hns.ex
        obtain ⟨pa, pc, rfl, -⟩ := id hps.ex
        refine ⟨(⟨z0, z1, z2, z3, z4, z5, z6, z7, z8, z9, z10, ns, ps⟩, (na, ns.length, nc), (pa, ps.length, pc)), fun j hj => ?_, hns, hps, hnl, hpl, hnum⟩
        have t0 := hcell j (by simpa using hj)
        rw [add_add] at t0
        exact t0.trans (by simp [encX, slV])
    have hDe : ∀ i (hi : i < L.length), eAt (L.map (·.1)) i = L[i].1 := fun i hi => by unfold eAt; simp [hi]
    refine ⟨L.map (·.1), ⟨L, ⟨some a, cap, by rw [hLl], (fun h => by cases h), fun hne => ?_⟩, by simp, fun i hi => ?_⟩, by rw [List.length_map, hLl]; exact reach_le hb (by omega), fun i => ?_⟩
    · have hpos : 0 < L.length := by
        rcases Nat.eq_zero_or_pos L.length with e | e
        · exact absurd (List.length_eq_zero_iff.1 e) hne
        · exact e
      obtain ⟨b, off, spot⟩ := a
      have hspot : spot = none := by
        obtain ⟨hu, -⟩ := hLp 0 _ (List.getElem?_eq_getElem hpos)
        simpa [Addr.add] using World.cell?_spot ((hu 0 (by omega)).trans rfl)
      subst hspot
      refine ⟨b, off, rfl, vw_cells enX (by decide) L fun q hq j u hu => ?_⟩
      obtain ⟨hc, -⟩ := hLp q _ (List.getElem?_eq_getElem hq)
      have hj : j < 13 := by
        have := (List.getElem?_eq_some_iff.1 hu).1
        rwa [enX.len] at this
      have := (hc j hj).trans hu
      simpa [add_plain, Nat.add_assoc] using this
    · have hi2 : i < L.length := by simpa using hi
      obtain ⟨-, h1, h2, h3, h4, -⟩ := hLp i _ (List.getElem?_eq_getElem hi2)
      rw [hDe i hi2]
      exact ⟨L[i].2.1, L[i].2.2, by rw [List.getElem?_eq_getElem hi2], h1, h2, h3, h4⟩
    · by_cases hi : i < L.length
      · obtain ⟨-, -, -, -, -, h5⟩ := hLp i _ (List.getElem?_eq_getElem hi)
        rw [hDe i hi]
        exact h5
      · unfold eAt
        rw [List.getD_eq_getElem?_getD, List.getElem?_eq_none (by simpa using Nat.le_of_not_lt hi)]
        decide
end
end Go.Proofs.YtbielnehggcaoaaDoor
/- JudgeVersions' drawn regions. (Written by tools/gen/genjyr.py.) -/
set_option linter.unusedVariables false
namespace Go.Proofs.YtbielnehggcaoaaDoor
open Go.RowKit
def jv_r21V (bb oo b2 o2 nn c1 c2 ii nl nc pl pc mc qc : Nat) (wk eb en k p key num val new : Int) (had has : Bool) (na pa1 ma qa : Option Addr) (_ : Unit) : Nat → Value := fun j => match j with | 0 => (Value.slice (some ⟨bb, oo, none⟩) nn c1) | 1 => (Value.int IntKind.i64 (ii : Int)) | 2 => (pa bb (oo + ii * 13)) | 3 => (Value.agg #[.int .i64 wk, .int .i64 eb, .int .i64 en, .int .i64 k, .int .i64 p, .int .i64 key, .int .i64 num, .bool had, .int .i64 val, .bool has, .int .i64 new, .slice na nl nc, .slice pa1 pl pc]) | 4 => (Value.slice (some ⟨b2, o2, none⟩) nn c2) | 5 => (Value.int IntKind.i64 (ii : Int)) | 6 => (pa b2 (o2 + ii * 13)) | 7 => (Value.agg #[.int .i64 wk, .int .i64 eb, .int .i64 en, .int .i64 k, .int .i64 p, .int .i64 key, .int .i64 num, .bool had, .int .i64 val, .bool has, .int .i64 new, .slice ma nl mc, .slice qa pl qc]) | 8 => (Value.bool true) | 9 => (Value.bool false) | _ => undef
set_option maxRecDepth 100000 in
set_option maxHeartbeats 1600000 in
theorem jv_r21 {bb oo b2 o2 nn c1 c2 ii nl nc pl pc mc qc : Nat} {wk eb en k p key num val new : Int} {had has : Bool} {na pa1 ma qa : Option Addr} {K : Act → World → Prop} {Q : Exit → Act → World → Prop} {a0 : Act} {w : World} (hs : a0.tmps.size = 105) (x7 : a0.eval (.tmp 7) = .slice (some ⟨bb, oo, none⟩) nn c1) (x13 : a0.eval (.tmp 13) = .int .i64 (ii : Int)) (x1 : a0.eval (.tmp 1) = .slice (some ⟨b2, o2, none⟩) nn c2) (hq : (ii : Int) < (nn : Int)) (hq1 : ii < nn) (hq2 : 0 ≤ (ii : Int)) (hq3 : IntKind.i64.wrap (ii : Int) = (ii : Int)) (hl1 : bb < w.heap.size) (hl2 : b2 < w.heap.size) (ha0 : w.cell? ⟨bb, oo + ii * 13, none⟩ = some (.int .i64 wk)) (ha1 : w.cell? ⟨bb, oo + ii * 13 + 1, none⟩ = some (.int .i64 eb)) (ha2 : w.cell? ⟨bb, oo + ii * 13 + 2, none⟩ = some (.int .i64 en)) (ha3 : w.cell? ⟨bb, oo + ii * 13 + 3, none⟩ = some (.int .i64 k)) (ha4 : w.cell? ⟨bb, oo + ii * 13 + 4, none⟩ = some (.int .i64 p)) (ha5 : w.cell? ⟨bb, oo + ii * 13 + 5, none⟩ = some (.int .i64 key)) (ha6 : w.cell? ⟨bb, oo + ii * 13 + 6, none⟩ = some (.int .i64 num)) (ha7 : w.cell? ⟨bb, oo + ii * 13 + 7, none⟩ = some (.bool had)) (ha8 : w.cell? ⟨bb, oo + ii * 13 + 8, none⟩ = some (.int .i64 val)) (ha9 : w.cell? ⟨bb, oo + ii * 13 + 9, none⟩ = some (.bool has)) (ha10 : w.cell? ⟨bb, oo + ii * 13 + 10, none⟩ = some (.int .i64 new)) (ha11 : w.cell? ⟨bb, oo + ii * 13 + 11, none⟩ = some (.slice na nl nc)) (ha12 : w.cell? ⟨bb, oo + ii * 13 + 12, none⟩ = some (.slice pa1 pl pc)) (hb0 : w.cell? ⟨b2, o2 + ii * 13, none⟩ = some (.int .i64 wk)) (hb1 : w.cell? ⟨b2, o2 + ii * 13 + 1, none⟩ = some (.int .i64 eb)) (hb2 : w.cell? ⟨b2, o2 + ii * 13 + 2, none⟩ = some (.int .i64 en)) (hb3 : w.cell? ⟨b2, o2 + ii * 13 + 3, none⟩ = some (.int .i64 k)) (hb4 : w.cell? ⟨b2, o2 + ii * 13 + 4, none⟩ = some (.int .i64 p)) (hb5 : w.cell? ⟨b2, o2 + ii * 13 + 5, none⟩ = some (.int .i64 key)) (hb6 : w.cell? ⟨b2, o2 + ii * 13 + 6, none⟩ = some (.int .i64 num)) (hb7 : w.cell? ⟨b2, o2 + ii * 13 + 7, none⟩ = some (.bool had)) (hb8 : w.cell? ⟨b2, o2 + ii * 13 + 8, none⟩ = some (.int .i64 val)) (hb9 : w.cell? ⟨b2, o2 + ii * 13 + 9, none⟩ = some (.bool has)) (hb10 : w.cell? ⟨b2, o2 + ii * 13 + 10, none⟩ = some (.int .i64 new)) (hb11 : w.cell? ⟨b2, o2 + ii * 13 + 11, none⟩ = some (.slice ma nl mc)) (hb12 : w.cell? ⟨b2, o2 + ii * 13 + 12, none⟩ = some (.slice qa pl qc))
    (hC : ∀ x, Turned [] w x → Calls Tryd.prog 24 #[.agg #[.int .i64 wk, .int .i64 eb, .int .i64 en, .int .i64 k, .int .i64 p, .int .i64 key, .int .i64 num, .bool had, .int .i64 val, .bool has, .int .i64 new, .slice na nl nc, .slice pa1 pl pc], .agg #[.int .i64 wk, .int .i64 eb, .int .i64 en, .int .i64 k, .int .i64 p, .int .i64 key, .int .i64 num, .bool had, .int .i64 val, .bool has, .int .i64 new, .slice ma nl mc, .slice qa pl qc]] x fun e w' => e = .returned (Value.bool true) ∧ Turned [] x w')
    (hEnd : ∀ a' x, a'.tmps.size = a0.tmps.size → a'.defers = a0.defers → (∀ s, some s ∉ ([some 69, some 70, some 71, some 72, some 73, some 74, some 75, some 76, some 77, some 78] : List (Option Nat)) → a'.eval (.tmp s) = a0.eval (.tmp s)) → a'.eval (.tmp 78) = (Value.bool false) → Turned [] w x → K a' x) : (Code.region 21 (opsOf 21 Tryd.f5.body) true).wp Tryd.prog (Exit.then K Q) a0 w := by
  refine wp_region_ghost3 (G := Unit) (by kernel_rfl) [some 69, some 70, some 71, some 72, some 73, some 74, some 75, some 76, some 77, some 78] (by rw [hs]; kernel_rfl) (jv_r21V bb oo b2 o2 nn c1 c2 ii nl nc pl pc mc qc wk eb en k p key num val new had has na pa1 ma qa) [] ?_ (fun _ _ => false) (fun _ x => Turned [] w x) (()) ((Turned.refl _ _).drew) (by simp) (by decide) ?_ ?_
  · intro i g b h γ
    have hi : i < 10 := by
      apply Classical.byContradiction
      intro hn
      rw [show (opsOf 21 Tryd.f5.body)[i]? = none from Array.getElem?_eq_none (by have : (opsOf 21 Tryd.f5.body).size = 10 := (by kernel_rfl); omega)] at h
      cases h
    rcases (by omega : i = 0 ∨ i = 1 ∨ i = 2 ∨ i = 3 ∨ i = 4 ∨ i = 5 ∨ i = 6 ∨ i = 7 ∨ i = 8 ∨ i = 9) with rfl | rfl | rfl | rfl | rfl | rfl | rfl | rfl | rfl | rfl
    · rw [show ((opsOf 21 Tryd.f5.body)[0]?).bind (fun o : Oper => o.guard) = none from by kernel_rfl] at h
      cases h
    · rw [show ((opsOf 21 Tryd.f5.body)[1]?).bind (fun o : Oper => o.guard) = none from by kernel_rfl] at h
      cases h
    · rw [show ((opsOf 21 Tryd.f5.body)[2]?).bind (fun o : Oper => o.guard) = none from by kernel_rfl] at h
      cases h
    · rw [show ((opsOf 21 Tryd.f5.body)[3]?).bind (fun o : Oper => o.guard) = none from by kernel_rfl] at h
      cases h
    · rw [show ((opsOf 21 Tryd.f5.body)[4]?).bind (fun o : Oper => o.guard) = none from by kernel_rfl] at h
      cases h
    · rw [show ((opsOf 21 Tryd.f5.body)[5]?).bind (fun o : Oper => o.guard) = none from by kernel_rfl] at h
      cases h
    · rw [show ((opsOf 21 Tryd.f5.body)[6]?).bind (fun o : Oper => o.guard) = none from by kernel_rfl] at h
      cases h
    · rw [show ((opsOf 21 Tryd.f5.body)[7]?).bind (fun o : Oper => o.guard) = none from by kernel_rfl] at h
      cases h
    · rw [show ((opsOf 21 Tryd.f5.body)[8]?).bind (fun o : Oper => o.guard) = none from by kernel_rfl] at h
      cases h
    · rw [show ((opsOf 21 Tryd.f5.body)[9]?).bind (fun o : Oper => o.guard) = none from by kernel_rfl] at h
      cases h
  · intro i hi hgd
    rcases (by simp at hi; omega : i = 0 ∨ i = 1 ∨ i = 2 ∨ i = 3 ∨ i = 4 ∨ i = 5 ∨ i = 6 ∨ i = 7 ∨ i = 8 ∨ i = 9) with rfl | rfl | rfl | rfl | rfl | rfl | rfl | rfl | rfl | rfl
    · refine soft (by decide) ?_
      intro o ac wa g ho hoff hv hS hdn
      exact (x_move (op_is rfl ho)).trans (by rw [((hoff 7 (by decide)).trans x7)]; rfl)
    · refine soft (by decide) ?_
      intro o ac wa g ho hoff hv hS hdn
      exact (x_move (op_is rfl ho)).trans (by rw [((hoff 13 (by decide)).trans x13)]; rfl)
    · refine soft (by decide) ?_
      intro o ac wa g ho hoff hv hS hdn
      exact x_index (op_is rfl ho) (by rw [(hv 0 69 rfl (by kernel_rfl)), (hv 1 70 rfl (by kernel_rfl))]; show (Instr.indexAt _ (Value.slice (some ⟨bb, oo, none⟩) nn c1) (Value.int IntKind.i64 (ii : Int))).run _ _ = .ok (pa _ _) _; unfold pa; go_simp)
    · refine soft (by decide) ?_
      intro o ac wa g ho hoff hv hS hdn
      have q13 := Nat.lt_of_lt_of_le hl1 (Turned.size hS)
      have q0 := hS.cell ha0 (by simp)
      have q1 := hS.cell ha1 (by simp)
      have q2 := hS.cell ha2 (by simp)
      have q3 := hS.cell ha3 (by simp)
      have q4 := hS.cell ha4 (by simp)
      have q5 := hS.cell ha5 (by simp)
      have q6 := hS.cell ha6 (by simp)
      have q7 := hS.cell ha7 (by simp)
      have q8 := hS.cell ha8 (by simp)
      have q9 := hS.cell ha9 (by simp)
      have q10 := hS.cell ha10 (by simp)
      have q11 := hS.cell ha11 (by simp)
      have q12 := hS.cell ha12 (by simp)
      exact x_load (op_is rfl ho) (by rw [(hv 2 71 rfl (by kernel_rfl))]; show (Instr.loadAt _ (pa _ _)).run _ _ = _; unfold pa; go_simp; rfl)
    · refine soft (by decide) ?_
      intro o ac wa g ho hoff hv hS hdn
      exact (x_move (op_is rfl ho)).trans (by rw [((hoff 1 (by decide)).trans x1)]; rfl)
    · refine soft (by decide) ?_
      intro o ac wa g ho hoff hv hS hdn
      exact (x_move (op_is rfl ho)).trans (by rw [((hoff 13 (by decide)).trans x13)]; rfl)
    · refine soft (by decide) ?_
      intro o ac wa g ho hoff hv hS hdn
      exact x_index (op_is rfl ho) (by rw [(hv 4 73 rfl (by kernel_rfl)), (hv 5 74 rfl (by kernel_rfl))]; show (Instr.indexAt _ (Value.slice (some ⟨b2, o2, none⟩) nn c2) (Value.int IntKind.i64 (ii : Int))).run _ _ = .ok (pa _ _) _; unfold pa; go_simp)
    · refine soft (by decide) ?_
      intro o ac wa g ho hoff hv hS hdn
      have q13 := Nat.lt_of_lt_of_le hl2 (Turned.size hS)
      have q0 := hS.cell hb0 (by simp)
      have q1 := hS.cell hb1 (by simp)
      have q2 := hS.cell hb2 (by simp)
      have q3 := hS.cell hb3 (by simp)
      have q4 := hS.cell hb4 (by simp)
      have q5 := hS.cell hb5 (by simp)
      have q6 := hS.cell hb6 (by simp)
      have q7 := hS.cell hb7 (by simp)
      have q8 := hS.cell hb8 (by simp)
      have q9 := hS.cell hb9 (by simp)
      have q10 := hS.cell hb10 (by simp)
      have q11 := hS.cell hb11 (by simp)
      have q12 := hS.cell hb12 (by simp)
      exact x_load (op_is rfl ho) (by rw [(hv 6 75 rfl (by kernel_rfl))]; show (Instr.loadAt _ (pa _ _)).run _ _ = _; unfold pa; go_simp; rfl)
    · intro o ac wa g K ho hd _ hoff hv hS _ _ _ hK
      refine l_callE (op_is rfl ho) (xs := #[.agg #[.int .i64 wk, .int .i64 eb, .int .i64 en, .int .i64 k, .int .i64 p, .int .i64 key, .int .i64 num, .bool had, .int .i64 val, .bool has, .int .i64 new, .slice na nl nc, .slice pa1 pl pc], .agg #[.int .i64 wk, .int .i64 eb, .int .i64 en, .int .i64 k, .int .i64 p, .int .i64 key, .int .i64 num, .bool had, .int .i64 val, .bool has, .int .i64 new, .slice ma nl mc, .slice qa pl qc]]) (by simp only [List.map_toArray, List.map_cons, List.map_nil]; rw [(hv 3 72 rfl (by kernel_rfl)), (hv 7 76 rfl (by kernel_rfl))]; rfl) Tryd.func24 (by kernel_rfl) rfl (hC wa hS) ?_
      rintro e w' ⟨rfl, ht⟩
      refine ⟨_, rfl, ?_⟩
      rw [hd]
      exact hK g w' (hS.trans ht) (by simp) (fun _ _ _ => rfl)
    · refine soft (by decide) ?_
      intro o ac wa g ho hoff hv hS hdn
      exact (x_notG (op_is rfl ho) ((hv 8 77 rfl (by kernel_rfl)))).trans rfl
  · intro a' w' g hsz hdf hoff hS hdn hval
    exact hEnd a' w' hsz hdf (fun s hs => ev_same (hoff s hs)) (hval 9 78 rfl) hS
def jv_r26V (bb oo b2 o2 nn c1 c2 ii rl rc tl tc : Nat) (ra ta : Option Addr) (_ : Unit) : Nat → Value := fun j => match j with | 0 => (Value.slice (some ⟨bb, oo, none⟩) nn c1) | 1 => (Value.int IntKind.i64 (ii : Int)) | 2 => (pa bb (oo + ii)) | 3 => (Value.slice ra rl rc) | 4 => (Value.slice (some ⟨b2, o2, none⟩) nn c2) | 5 => (Value.int IntKind.i64 (ii : Int)) | 6 => (pa b2 (o2 + ii)) | 7 => (Value.slice ta tl tc) | 8 => (Value.bool true) | 9 => (Value.bool false) | _ => undef
set_option maxRecDepth 100000 in
set_option maxHeartbeats 1600000 in
theorem jv_r26 {bb oo b2 o2 nn c1 c2 ii rl rc tl tc : Nat} {ra ta : Option Addr} {K : Act → World → Prop} {Q : Exit → Act → World → Prop} {a0 : Act} {w : World} (hs : a0.tmps.size = 105) (x5 : a0.eval (.tmp 5) = .slice (some ⟨bb, oo, none⟩) nn c1) (x14 : a0.eval (.tmp 14) = .int .i64 (ii : Int)) (x0 : a0.eval (.tmp 0) = .slice (some ⟨b2, o2, none⟩) nn c2) (hq : (ii : Int) < (nn : Int)) (hq1 : ii < nn) (hq2 : 0 ≤ (ii : Int)) (hq3 : IntKind.i64.wrap (ii : Int) = (ii : Int)) (hl1 : bb < w.heap.size) (hl2 : b2 < w.heap.size) (ha0 : w.cell? ⟨bb, oo + ii, none⟩ = some (.slice ra rl rc)) (hb0 : w.cell? ⟨b2, o2 + ii, none⟩ = some (.slice ta tl tc))
    (hC : ∀ x, Turned [] w x → Calls Tryd.prog 25 #[.slice ra rl rc, .slice ta tl tc] x fun e w' => e = .returned (Value.bool true) ∧ Turned [] x w')
    (hEnd : ∀ a' x, a'.tmps.size = a0.tmps.size → a'.defers = a0.defers → (∀ s, some s ∉ ([some 85, some 86, some 87, some 88, some 89, some 90, some 91, some 92, some 93, some 94] : List (Option Nat)) → a'.eval (.tmp s) = a0.eval (.tmp s)) → a'.eval (.tmp 94) = (Value.bool false) → Turned [] w x → K a' x) : (Code.region 26 (opsOf 26 Tryd.f5.body) true).wp Tryd.prog (Exit.then K Q) a0 w := by
  refine wp_region_ghost3 (G := Unit) (by kernel_rfl) [some 85, some 86, some 87, some 88, some 89, some 90, some 91, some 92, some 93, some 94] (by rw [hs]; kernel_rfl) (jv_r26V bb oo b2 o2 nn c1 c2 ii rl rc tl tc ra ta) [] ?_ (fun _ _ => false) (fun _ x => Turned [] w x) (()) ((Turned.refl _ _).drew) (by simp) (by decide) ?_ ?_
  · intro i g b h γ
    have hi : i < 10 := by
      apply Classical.byContradiction
      intro hn
      rw [show (opsOf 26 Tryd.f5.body)[i]? = none from Array.getElem?_eq_none (by have : (opsOf 26 Tryd.f5.body).size = 10 := (by kernel_rfl); omega)] at h
      cases h
    rcases (by omega : i = 0 ∨ i = 1 ∨ i = 2 ∨ i = 3 ∨ i = 4 ∨ i = 5 ∨ i = 6 ∨ i = 7 ∨ i = 8 ∨ i = 9) with rfl | rfl | rfl | rfl | rfl | rfl | rfl | rfl | rfl | rfl
    · rw [show ((opsOf 26 Tryd.f5.body)[0]?).bind (fun o : Oper => o.guard) = none from by kernel_rfl] at h
      cases h
    · rw [show ((opsOf 26 Tryd.f5.body)[1]?).bind (fun o : Oper => o.guard) = none from by kernel_rfl] at h
      cases h
    · rw [show ((opsOf 26 Tryd.f5.body)[2]?).bind (fun o : Oper => o.guard) = none from by kernel_rfl] at h
      cases h
    · rw [show ((opsOf 26 Tryd.f5.body)[3]?).bind (fun o : Oper => o.guard) = none from by kernel_rfl] at h
      cases h
    · rw [show ((opsOf 26 Tryd.f5.body)[4]?).bind (fun o : Oper => o.guard) = none from by kernel_rfl] at h
      cases h
    · rw [show ((opsOf 26 Tryd.f5.body)[5]?).bind (fun o : Oper => o.guard) = none from by kernel_rfl] at h
      cases h
    · rw [show ((opsOf 26 Tryd.f5.body)[6]?).bind (fun o : Oper => o.guard) = none from by kernel_rfl] at h
      cases h
    · rw [show ((opsOf 26 Tryd.f5.body)[7]?).bind (fun o : Oper => o.guard) = none from by kernel_rfl] at h
      cases h
    · rw [show ((opsOf 26 Tryd.f5.body)[8]?).bind (fun o : Oper => o.guard) = none from by kernel_rfl] at h
      cases h
    · rw [show ((opsOf 26 Tryd.f5.body)[9]?).bind (fun o : Oper => o.guard) = none from by kernel_rfl] at h
      cases h
  · intro i hi hgd
    rcases (by simp at hi; omega : i = 0 ∨ i = 1 ∨ i = 2 ∨ i = 3 ∨ i = 4 ∨ i = 5 ∨ i = 6 ∨ i = 7 ∨ i = 8 ∨ i = 9) with rfl | rfl | rfl | rfl | rfl | rfl | rfl | rfl | rfl | rfl
    · refine soft (by decide) ?_
      intro o ac wa g ho hoff hv hS hdn
      exact (x_move (op_is rfl ho)).trans (by rw [((hoff 5 (by decide)).trans x5)]; rfl)
    · refine soft (by decide) ?_
      intro o ac wa g ho hoff hv hS hdn
      exact (x_move (op_is rfl ho)).trans (by rw [((hoff 14 (by decide)).trans x14)]; rfl)
    · refine soft (by decide) ?_
      intro o ac wa g ho hoff hv hS hdn
      exact x_index (op_is rfl ho) (by rw [(hv 0 85 rfl (by kernel_rfl)), (hv 1 86 rfl (by kernel_rfl))]; show (Instr.indexAt _ (Value.slice (some ⟨bb, oo, none⟩) nn c1) (Value.int IntKind.i64 (ii : Int))).run _ _ = .ok (pa _ _) _; unfold pa; go_simp)
    · refine soft (by decide) ?_
      intro o ac wa g ho hoff hv hS hdn
      have q13 := Nat.lt_of_lt_of_le hl1 (Turned.size hS)
      have q0 := hS.cell ha0 (by simp)
      exact x_load (op_is rfl ho) (by rw [(hv 2 87 rfl (by kernel_rfl))]; show (Instr.loadAt _ (pa _ _)).run _ _ = _; unfold pa; go_simp; rfl)
    · refine soft (by decide) ?_
      intro o ac wa g ho hoff hv hS hdn
      exact (x_move (op_is rfl ho)).trans (by rw [((hoff 0 (by decide)).trans x0)]; rfl)
    · refine soft (by decide) ?_
      intro o ac wa g ho hoff hv hS hdn
      exact (x_move (op_is rfl ho)).trans (by rw [((hoff 14 (by decide)).trans x14)]; rfl)
    · refine soft (by decide) ?_
      intro o ac wa g ho hoff hv hS hdn
      exact x_index (op_is rfl ho) (by rw [(hv 4 89 rfl (by kernel_rfl)), (hv 5 90 rfl (by kernel_rfl))]; show (Instr.indexAt _ (Value.slice (some ⟨b2, o2, none⟩) nn c2) (Value.int IntKind.i64 (ii : Int))).run _ _ = .ok (pa _ _) _; unfold pa; go_simp)
    · refine soft (by decide) ?_
      intro o ac wa g ho hoff hv hS hdn
      have q13 := Nat.lt_of_lt_of_le hl2 (Turned.size hS)
      have q0 := hS.cell hb0 (by simp)
      exact x_load (op_is rfl ho) (by rw [(hv 6 91 rfl (by kernel_rfl))]; show (Instr.loadAt _ (pa _ _)).run _ _ = _; unfold pa; go_simp; rfl)
    · intro o ac wa g K ho hd _ hoff hv hS _ _ _ hK
      refine l_callE (op_is rfl ho) (xs := #[.slice ra rl rc, .slice ta tl tc]) (by simp only [List.map_toArray, List.map_cons, List.map_nil]; rw [(hv 3 88 rfl (by kernel_rfl)), (hv 7 92 rfl (by kernel_rfl))]; rfl) Tryd.func25 (by kernel_rfl) rfl (hC wa hS) ?_
      rintro e w' ⟨rfl, ht⟩
      refine ⟨_, rfl, ?_⟩
      rw [hd]
      exact hK g w' (hS.trans ht) (by simp) (fun _ _ _ => rfl)
    · refine soft (by decide) ?_
      intro o ac wa g ho hoff hv hS hdn
      exact (x_notG (op_is rfl ho) ((hv 8 93 rfl (by kernel_rfl)))).trans rfl
  · intro a' w' g hsz hdf hoff hS hdn hval
    exact hEnd a' w' hsz hdf (fun s hs => ev_same (hoff s hs)) (hval 9 94 rfl) hS
end Go.Proofs.YtbielnehggcaoaaDoor
/-
  JudgeVersions by contract, over light's. (By the verifier; no statement.)
-/
namespace Go.Proofs.YtbielnehggcaoaaDoor
open Go.RowKit
/-- The next start, lent: what it takes to append it. -/
theorem lent_step {w wr y : World} {g k : Nat} {F : List (Int × Int)} {L : List SV} (hg : LentP y wr.heap.size g F) (hU : Turned [] w wr) (ty : Turned [] wr y) (hL : L.length = k) (hk : k ≤ 3000) : LentP (y.alloc (.cells #[lentPV g F] 41 (0, 0))) w.heap.size g F ∧ Turned [] wr (y.alloc (.cells #[lentPV g F] 41 (0, 0))) ∧ VW encT (y.alloc (.cells #[lentPV g F] 41 (0, 0))) (.slice (some ⟨y.heap.size, 0, none⟩) 1 1) [((some ⟨g, 0, none⟩, F.length, F.length + 2) : SV)] ∧ (L.length + [((some ⟨g, 0, none⟩, F.length, F.length + 2) : SV)].length) * 24 ≤ 140737488355328 ∧ w.heap.size ≤ (y.alloc (.cells #[lentPV g F] 41 (0, 0))).heap.size := by
  have h2 : Turned [] wr (y.alloc (.cells #[lentPV g F] 41 (0, 0))) := ty.alloc _
  refine ⟨(⟨hg.bk, Nat.le_trans hU.size hg.le⟩ : LentP y w.heap.size g F).keep ((Turned.refl [] y).alloc _) (by simp), h2, VW.block (R := [((some ⟨g, 0, none⟩, F.length, F.length + 2) : SV)]) (c := 1) (blk_new _ _) (fun i u hu => ?_), ?_, Nat.le_trans hU.size h2.size⟩
  · rw [List.getElem?_toArray]
    exact hu
  · rw [hL]
    simp only [List.length_cons, List.length_nil]
    omega
theorem run_i64 {j n : Nat} (h : j < n) (hn : n ≤ 1000000000) : (j : Int) < (n : Int) ∧ 0 ≤ (j : Int) ∧ IntKind.i64.wrap (j : Int) = (j : Int) := by
  refine ⟨by omega, by omega, ?_⟩
  simp [IntKind.wrap, IntKind.bits, IntKind.signed]
  omega
theorem CpAt.get {B : Nat} {w : World} {cv : Value} {D : List Ev} (h : CpAt B w cv D D.length) {i : Nat} (hi : i < D.length) : ∃ b o c na nc pa pc, cv = .slice (some ⟨b, o, none⟩) D.length c ∧ EC w b (o + i * 13) (eAt D i) (.slice na (eAt D i).ns.length nc) (.slice pa (eAt D i).ps.length pc) ∧ VW (fun q : Int => [Value.int .i64 q]) w (.slice na (eAt D i).ns.length nc) (eAt D i).ns ∧ VW encP w (.slice pa (eAt D i).ps.length pc) (eAt D i).ps := by
  obtain ⟨L, hv, hL, hh⟩ := h.ex
  exact events_get hv.view hL (fun i hi => by obtain ⟨sa, sb, e1, e2, e3⟩ := hh i hi; exact ⟨sa, sb, e1, e2.view, e3.view⟩) hi
theorem XE.get {w : World} {ev : Value} {D : List Ev} (h : XE w ev D) {i : Nat} (hi : i < D.length) : ∃ b o c na nc pa pc, ev = .slice (some ⟨b, o, none⟩) D.length c ∧ EC w b (o + i * 13) (eAt D i) (.slice na (eAt D i).ns.length nc) (.slice pa (eAt D i).ps.length pc) ∧ VW (fun q : Int => [Value.int .i64 q]) w (.slice na (eAt D i).ns.length nc) (eAt D i).ns ∧ VW encP w (.slice pa (eAt D i).ps.length pc) (eAt D i).ps := by
  obtain ⟨L, hv, hL, hh⟩ := h.ex
  exact events_get hv hL (fun i hi => by obtain ⟨sa, sb, e1, e2, e3, -⟩ := hh i hi; exact ⟨sa, sb, e1, e2, e3⟩) hi
theorem XE.lens {w : World} {ev : Value} {D : List Ev} (h : XE w ev D) {i : Nat} (hi : i < D.length) : (eAt D i).ns.length ≤ 140737488355328 ∧ (eAt D i).ps.length ≤ 140737488355328 := by
  obtain ⟨L, hv, hL, hh⟩ := h.ex
  obtain ⟨sa, sb, e1, e2, e3, e4, e5⟩ := hh i hi
  omega
theorem GvAt.get {B : Nat} {w : World} {v : Value} {S : List (List (Int × Int))} (h : GvAt B w v S S.length) {i : Nat} (hi : i < S.length) : ∃ b o c g, v = .slice (some ⟨b, o, none⟩) S.length c ∧ b < w.heap.size ∧ w.cell? ⟨b, o + i, none⟩ = some (lentPV g (S.getD i [])) ∧ LentP w B g (S.getD i []) := by
  obtain ⟨L, h1, h2, h3⟩ := h.ex
  obtain ⟨g, e1, e2⟩ := h3 i hi
  obtain ⟨b, o, c', ev, hb, hc⟩ := h1.view.get enT (by decide) (i := i) (by rw [h2]; exact hi)
  have e3 : L[i]'(by rw [h2]; exact hi) = ((some ⟨g, 0, none⟩, (S.getD i []).length, (S.getD i []).length + 2) : SV) := (List.getElem?_eq_some_iff.1 e1).2
  rw [e3] at hc
  have hk := hc 0 _ rfl
  exact ⟨b, o, c', g, by rw [ev, h2], hb, by simpa using hk, e2⟩
theorem XS.get {w : World} {v : Value} {S : List (List (Int × Int))} (h : XS w v S) {i : Nat} (hi : i < S.length) : ∃ b o c ra rc, v = .slice (some ⟨b, o, none⟩) S.length c ∧ b < w.heap.size ∧ w.cell? ⟨b, o + i, none⟩ = some (.slice ra (S.getD i []).length rc) ∧ VW encP w (.slice ra (S.getD i []).length rc) (S.getD i []) ∧ (S.getD i []).length ≤ 140737488355328 := by
  obtain ⟨a, c, e, hh⟩ := h.ex
  obtain ⟨b, o, ra, rc, rfl, h1, h2, h3⟩ := hh i hi
  exact ⟨b, o, c, ra, rc, e, cell_lt h1, h1, h2, by omega⟩
theorem cStayT {w : World} {B g : Nat} {fv : Value} {F : List (Int × Int)} (hL : LentP w B g F) (hF : VW encP w fv F) (hn : F.length ≤ 140737488355328) : Calls Tryd.prog 25 #[lentPV g F, fv] w fun r w' => r = .returned (.bool true) ∧ Turned [] w w' :=
  (cStayP hL hF hn).mono fun r w' ⟨e1, n, e2⟩ => ⟨e1, by rw [e2]; exact (Turned.refl [] w).drewN n⟩
/-- A row of blames, as it lies, to be laid over. -/
structure Ow3 (B : Nat) (x : World) (v : Value) (n : Nat) : Prop where
  ex : ∃ R, R.length = n ∧ BR B x v R
theorem Ow3.get {B : Nat} {x : World} {v : Value} {n : Nat} (h : Ow3 B x v n) {i : Nat} (hi : i < n) : ∃ g c, v = .slice (some ⟨g, 0, none⟩) n c ∧ B ≤ g ∧ g < x.heap.size ∧ (∃ u0 u1 u2, x.cell? ⟨g, i * 3, none⟩ = some u0 ∧ x.cell? ⟨g, i * 3 + 1, none⟩ = some u1 ∧ x.cell? ⟨g, i * 3 + 2, none⟩ = some u2) ∧ (∀ j, x.frozen? ⟨g, j, none⟩ = false) ∧ ∀ a b c', Ow3 B (((x.setCell ⟨g, i * 3, none⟩ (.int .i64 a)).setCell ⟨g, i * 3 + 1, none⟩ (.int .i64 b)).setCell ⟨g, i * 3 + 2, none⟩ (.int .i64 c')) v n := by
  obtain ⟨R, rfl, hR⟩ := h.ex
  rcases hR.form with ⟨_, e⟩ | ⟨g, c, rfl⟩
  · subst e
    exact absurd hi (Nat.not_lt_zero _)
  obtain ⟨b, o, c', e, q0, q1, q2⟩ : ∃ b o c', Value.slice (some ⟨g, 0, none⟩) R.length c = .slice (some ⟨b, o, none⟩) R.length c' ∧ x.cell? ⟨b, o + i * 3, none⟩ = some (.int .i64 R[i].1) ∧ x.cell? ⟨b, o + i * 3 + 1, none⟩ = some (.int .i64 R[i].2.1) ∧ x.cell? ⟨b, o + i * 3 + 2, none⟩ = some (.int .i64 R[i].2.2) := by
    obtain ⟨a1, c1, e1, h1⟩ := hR.view.ex
    obtain ⟨b, o, rfl, h2⟩ := h1 i hi
    exact ⟨b, o, c1, e1, h2⟩
  simp only [Value.slice.injEq, Option.some.injEq, Addr.mk.injEq] at e
  obtain ⟨⟨rfl, rfl, -⟩, -, rfl⟩ := e
  obtain ⟨cs, hcs⟩ := hR.type (g := g) rfl
  rw [Nat.zero_add] at q0 q1 q2
  refine ⟨g, c, rfl, (hR.fresh (g := g) rfl).1, lt_of_heap hcs, ⟨_, _, _, q0, q1, q2⟩, fun j => froz_at hcs j, fun a b c' => ⟨R.set i (a, b, c'), by simp, ?_⟩⟩
  have h3 := (hR.set3 hi (a, b, c')).1
  rwa [List.length_set] at h3
/-- What stands between two rounds. -/
structure Jv (w x : World) (gv cv wv : Value) (S : List (List (Int × Int))) (D : List Ev) (R : List Bm) : Prop where
  cp : CpAt w.heap.size x cv D D.length
  gi : GvAt w.heap.size x gv S S.length
  want : BW x wv R
  tu : Turned [] w x
theorem Jv.still {w x y : World} {gv cv wv : Value} {S : List (List (Int × Int))} {D : List Ev} {R : List Bm} (h : Jv w x gv cv wv S D R) (ht : Turned [] x y) : Jv w y gv cv wv S D R := ⟨h.cp.still ht, h.gi.still ht, h.want.still ht, h.tu.trans ht⟩
set_option maxRecDepth 100000 in
set_option maxHeartbeats 12800000 in
theorem cJudgeVersions {w : World} {sv ev : Value} {S : List (List (Int × Int))} {D : List Ev} (hsv : ∃ sa sc, sv = .slice sa S.length sc) (hev : ∃ ea ec, ev = .slice ea D.length ec) (hl : ∀ x, Turned [] w x → Calls Tryd.prog 18 #[sv, ev] x fun r y => ∃ q, r = .returned (.bool q) ∧ (q = true → LvOk w sv ev S D) ∧ Turned [] x y) (hT : Tab w) :
    Calls Tryd.prog 5 #[sv, ev] w fun r w' => r = .returned (.bool true) ∧ Turned [] w w' := by
  have HT : Hid (Tab w) := hT
  have HL : Hid _ := hl
  obtain ⟨sa, sc, rfl⟩ := hsv
  obtain ⟨ea, ec, rfl⟩ := hev
  clear hT hl
  go_enter Tryd.func5, Tryd.ntmps5
  go_wp2_with (fail)
  refine (cKnown HT.out).mono ?_
  rintro r x1 ⟨rfl, t1⟩
  have H1 : Hid (Turned [] w x1) := t1
  clear t1
  go_wp2_with (fail)
  refine (HL.out x1 H1.out).mono ?_
  rintro r x2 ⟨q, rfl, hq, t2⟩
  have H2 : Hid (Turned [] w x2) := H1.out.trans t2
  clear t2 H1 HL
  cases q with
  | false =>
    go_wp2
    go_ret
    exact ⟨rfl, H2.out⟩
  | true =>
    have HO : Hid (LvOk w (.slice sa S.length sc) (.slice ea D.length ec) S D) := hq rfl
    have hsm : S.length + D.length ≤ 3000 := HO.out.small
    clear hq HT
    go_wp2
    go_loopw [5, 6] (fun c i wx => Bx (∃ k : Nat, k ≤ S.length ∧ i = .int .i64 k ∧ Hid (GvAt w.heap.size wx c S k) ∧ Hid (Turned [] w wx))) (fun _ i _ => S.length - (intOf i).toNat)
    case atStart => exact ⟨0, Nat.zero_le _, rfl, GvAt.nil _ _ _, H2⟩
    case round =>
      obtain ⟨k, hk, rfl, HG, HU⟩ := hrel.ex
      clear hrel H2
      by_cases hlt : k < S.length
      · obtain ⟨b, o, c, ra, rc, es, hb, hcell, hvw, -⟩ := (HO.out.xs.still HU.out).get hlt
        simp only [Value.slice.injEq] at es
        obtain ⟨rfl, -, rfl⟩ := es
        have HV : Hid (VW encP wr (.slice ra (S.getD k []).length rc) (S.getD k [])) := hvw
        have H16 : Hid ((S.getD k []).length * 16 ≤ 140737488355328) := by
          obtain ⟨_, _, _, h⟩ := HO.out.xs.ex
          obtain ⟨_, _, _, _, _, _, _, h⟩ := h k hlt
          exact h
        clear hvw
        generalize hF : S.getD k [] = F at HV H16 hcell
        have HFe : Hid (S.getD k [] = F) := hF
        clear hF
        obtain ⟨L, hO, hL, hT⟩ := HG.out.ex
        obtain ⟨va, vc, rfl⟩ := hO.slice
        have HO1 : Hid (OW 41 1 encT w.heap.size wr (.slice va L.length vc) L) := hO
        have HLk : Hid (L.length = k) := hL
        have HT3 : Hid _ := hT
        clear hO hL hT HG
        go_wp2_with (fail)
        refine (cLentP HV.out H16.out).mono ?_
        rintro r y ⟨g, rfl, hg, ty⟩
        obtain ⟨s1, s2, s3, s4, s5⟩ := lent_step hg HU.out ty HLk.out (by omega)
        have HGl : Hid _ := s1
        have HTy : Hid _ := s2
        have HVr : Hid _ := s3
        have HBy : Hid _ := s4
        have HBb : Hid _ := s5
        clear hg ty hb hcell HV H16 s1 s2 s3 s4 s5
        go_upto_region 8 with (at_builtin; refine wpList_apO elPs enT (B := w.heap.size) (v := .slice va L.length vc) (u := .slice (some ⟨y.heap.size, 0, none⟩) 1 1) (R := L) (M := [((some ⟨g, 0, none⟩, F.length, F.length + 2) : SV)]) rfl _ _ rfl rfl (HO1.out.still HTy.out) rfl HVr.out HBy.out HBb.out ?_; intro v4 x4 ho ht _; have HR : Hid (GvAt w.heap.size x4 v4 S (k + 1)) := GvAt.push (g := g) HO1.out HLk.out HT3.out HTy.out (by rw [HFe.out]; exact HGl.out) ht (by rw [HFe.out]; exact ho); have HTf : Hid (Turned [] w x4) := (HU.out.trans HTy.out).inner ht (fun q hq => .inr (HO1.out.fresh (by simpa using hq)).1); clear ho ht)
        clear HO1 HLk HT3 HTy HGl HVr HBy HBb HU
        go_wp2
        go_roundw
        case rel => exact ⟨k + 1, by omega, by go_num, HR, HTf⟩
        case measure => simp [intOf]; omega
      · obtain rfl : k = S.length := by omega
        have HDl : Hid (D.length * 136 ≤ 140737488355328) := by
          rw [Hid]
          omega
        go_wp2_with (fail)
        refine (cCopies (xe_still HO.out.xe HU.out) HDl.out).mono ?_
        rintro r x3 ⟨cv, rfl, hc, t3⟩
        have HC : Hid (CpAt w.heap.size x3 cv D D.length) := hc.lower HU.out.size
        have HGv : Hid (GvAt w.heap.size x3 _ S S.length) := HG.out.still t3
        have HU3 : Hid (Turned [] w x3) := HU.out.trans t3
        clear hc t3 HG HU hlt hk
        go_wp2_with (fail)
        refine (cWantR HO.out HU3.out).mono ?_
        rintro r x4 ⟨wv, R, f, rfl, hb, hRl, hsame, t4⟩
        have HJ : Hid (Jv w x4 _ cv wv S D R) := ⟨HC.out.still t4, HGv.out.still t4, hb.view, HU3.out.trans t4⟩
        have HS : Hid (SameA S D R f) := hsame
        clear hb hsame t4 HC HGv HU3 HDl
        obtain ⟨ga, gc, rfl⟩ := HJ.out.gi.form
        obtain ⟨ca, cc, rfl⟩ := HJ.out.cp.form
        have hff : (f != f) = false := by simp
        go_wp2
        go_loopw [10, 11, 12, 13, 14, 15] (fun i _ _ _ _ _ wx => Bx (∃ k : Nat, k ≤ 2 ∧ i = .int .i64 k ∧ Hid (Jv w wx (.slice ga S.length gc) (.slice ca D.length cc) wv S D R))) (fun i _ _ _ _ _ _ => 2 - (intOf i).toNat)
        case atStart => exact ⟨0, by omega, rfl, HJ⟩
        case round =>
          obtain ⟨k, hk, rfl, HK⟩ := hrel.ex
          clear hrel HJ
          by_cases hlt : k < 2
          · obtain ⟨y, ey⟩ : ∃ y, y = wr := ⟨_, rfl⟩
            subst ey
            go_wp2_with (fail)
            refine (HS.out _ _ _ _ HK.out.gi HK.out.cp).mono ?_
            rintro r z1 ⟨xv, rfl, hb, ht⟩
            have HB : Hid (BR y.heap.size z1 xv R) := hb
            have HT1 : Hid (Turned [] y z1) := ht
            clear hb ht
            go_wp2_with (fail)
            refine (cSameB HB.out.view (HK.out.want.still HT1.out) (by omega)).mono ?_
            rintro r z2 ⟨rfl, nq, hz2⟩
            rw [decide_eq_true rfl]
            have HB2 : Hid (BR y.heap.size z2 xv R) := by rw [hz2]; exact HB.out.still ((Turned.refl [] z1).drewN nq)
            have HT2 : Hid (Turned [] y z2) := by rw [hz2]; exact HT1.out.drewN nq
            clear hz2 HB HT1
            obtain ⟨xa, xc, rfl⟩ : ∃ xa xc, xv = .slice xa R.length xc := by
              rcases HB2.out.form with ⟨rfl, rfl⟩ | ⟨g, c, rfl⟩
              · exact ⟨none, 0, rfl⟩
              · exact ⟨_, c, rfl⟩
            go_wp2
            go_loopw [13] (fun i wx => Bx (∃ j : Nat, j ≤ D.length ∧ i = .int .i64 j ∧ Hid (Turned [] z2 wx))) (fun i _ => D.length - (intOf i).toNat)
            case atStart => exact ⟨0, Nat.zero_le _, rfl, Turned.refl _ _⟩
            case round =>
              obtain ⟨j, hj, rfl, HV⟩ := hrel.ex
              clear hrel
              by_cases hl : j < D.length
              · have HKr : Hid _ := (HK.out.still HT2.out).still HV.out
                obtain ⟨b, o, c, na, nc, pa1, pc, es, hec, hn1, hp1⟩ := HKr.out.cp.get hl
                simp only [Value.slice.injEq] at es
                obtain ⟨rfl, -, rfl⟩ := es
                obtain ⟨b2, o2, c2, ma, mc, qa, qc, es, hec2, hn2, hp2⟩ := (xe_still HO.out.xe HKr.out.tu).get hl
                simp only [Value.slice.injEq] at es
                obtain ⟨rfl, -, rfl⟩ := es
                obtain ⟨z0, a0, a1, a2, a3, a4, a5, a6, a7, a8, a9, a10, a11, a12⟩ := hec.all wr (Turned.refl _ _)
                obtain ⟨y0, b0, b1, b2, b3, b4, b5, b6, b7, b8, b9, b10, b11, b12⟩ := hec2.all wr (Turned.refl _ _)
                obtain ⟨l1, l2⟩ := HO.out.xe.lens hl
                obtain ⟨g1, g2, g3⟩ := run_i64 hl (by omega)
                have hC := fun x (hx : Turned [] wr x) => cSameAt (e := eAt D j) (hn1.still hx) (hp1.still hx) (hn2.still hx) (hp2.still hx) l1 l2
                clear hec hec2 hn1 hp1 hn2 hp2 l1 l2
                generalize eAt D j = e at *
                obtain ⟨wk, eb, en, kd, p, key, num, had, val, has, new, ns, ps⟩ := e
                dsimp only at a0 a1 a2 a3 a4 a5 a6 a7 a8 a9 a10 a11 a12 b0 b1 b2 b3 b4 b5 b6 b7 b8 b9 b10 b11 b12
                have HC : Hid _ := hC
                clear hC
                go_upto_region 21 with fail
                refine wp_thenN ?_
                refine jv_r21 rfl rfl rfl rfl g1 hl g2 g3 z0 y0 a0 a1 a2 a3 a4 a5 a6 a7 a8 a9 a10 a11 a12 b0 b1 b2 b3 b4 b5 b6 b7 b8 b9 b10 b11 b12 HC.out ?_
                intro a' x' hsz hdf hoff hv hT
                have E := act_many a' [69, 70, 71, 72, 73, 74, 75, 76, 77, 78] _ hsz.symm hdf.symm (fun s hs => hoff s (fun h => hs (by simpa using h)))
                rw [E]
                clear E hoff hsz hdf a0 a1 a2 a3 a4 a5 a6 a7 a8 a9 a10 a11 a12 b0 b1 b2 b3 b4 b5 b6 b7 b8 b9 b10 b11 b12 HC z0 y0 g1 g2 g3
                simp only [List.foldl, Act.put, List.setIfInBounds_toArray, List.set_cons_zero, List.set_cons_succ, hv]
                clear hv
                have HV2 : Hid (Turned [] z2 x') := HV.out.trans hT
                clear hT HV HKr
                go_wp2
                go_roundw
                case rel => exact ⟨j + 1, by omega, by go_num, HV2⟩
                case measure => simp [intOf]; omega
              · obtain rfl : j = D.length := by omega
                have HK3 : Hid _ := (HK.out.still HT2.out).still HV.out
                have HB3 : Hid (BR y.heap.size wr (.slice xa R.length xc) R) := HB2.out.still HV.out
                have HT3 : Hid (Turned [] y wr) := HT2.out.trans HV.out
                obtain ⟨z3, ez3⟩ : ∃ z, z = wr := ⟨_, rfl⟩
                subst ez3
                clear HV HB2 HT2 hl hj
                go_wp2
                go_loopw [14] (fun i wx => Bx (∃ j : Nat, j ≤ S.length ∧ i = .int .i64 j ∧ Hid (Turned [] z3 wx))) (fun i _ => S.length - (intOf i).toNat)
                case atStart => exact ⟨0, Nat.zero_le _, rfl, Turned.refl _ _⟩
                case round =>
                  obtain ⟨j, hj, rfl, HV⟩ := hrel.ex
                  clear hrel
                  by_cases hl : j < S.length
                  · have HKr : Hid _ := HK3.out.still HV.out
                    obtain ⟨b, o, c, g, es, hb, hcell, hlp⟩ := HKr.out.gi.get hl
                    simp only [Value.slice.injEq] at es
                    obtain ⟨rfl, -, rfl⟩ := es
                    obtain ⟨b2, o2, c2, ra, rc, es, hb2, hcell2, hvw, hln⟩ := (HO.out.xs.still HKr.out.tu).get hl
                    simp only [Value.slice.injEq] at es
                    obtain ⟨rfl, -, rfl⟩ := es
                    obtain ⟨g1, g2, g3⟩ := run_i64 hl (by omega)
                    have hC := fun x (hx : Turned [] wr x) => cStayT (hlp.keep hx (by simp)) (hvw.still hx) hln
                    clear hlp hvw hln
                    generalize S.getD j [] = F at *
                    have HC : Hid _ := hC
                    clear hC
                    go_upto_region 26 with fail
                    refine wp_thenN ?_
                    refine jv_r26 rfl rfl rfl rfl g1 hl g2 g3 hb hb2 hcell hcell2 HC.out ?_
                    intro a' x' hsz hdf hoff hv hT
                    have E := act_many a' [85, 86, 87, 88, 89, 90, 91, 92, 93, 94] _ hsz.symm hdf.symm (fun s hs => hoff s (fun h => hs (by simpa using h)))
                    rw [E]
                    clear E hoff hsz hdf HC hb hb2 hcell hcell2 g1 g2 g3
                    simp only [List.foldl, Act.put, List.setIfInBounds_toArray, List.set_cons_zero, List.set_cons_succ, hv]
                    clear hv
                    have HV2 : Hid (Turned [] z3 x') := HV.out.trans hT
                    clear hT HV HKr
                    go_wp2
                    go_roundw
                    case rel => exact ⟨j + 1, by omega, by go_num, HV2⟩
                    case measure => simp [intOf]; omega
                  · obtain rfl : j = S.length := by omega
                    have HW4 : Hid (Ow3 y.heap.size wr (.slice xa R.length xc) R.length) := ⟨R, rfl, HB3.out.still HV.out⟩
                    have HT4 : Hid (Turned [] y wr) := HT3.out.trans HV.out
                    clear HV HB3 HT3 hl hj HK3
                    go_wp2
                    go_loopw [15] (fun i wx => Bx (∃ j : Nat, j ≤ R.length ∧ i = .int .i64 j ∧ Hid (Ow3 y.heap.size wx (.slice xa R.length xc) R.length) ∧ Hid (Turned [] y wx))) (fun i _ => R.length - (intOf i).toNat)
                    case atStart => exact ⟨0, Nat.zero_le _, rfl, HW4, HT4⟩
                    case round =>
                      obtain ⟨j, hj, rfl, HW, HV⟩ := hrel.ex
                      clear hrel HW4 HT4
                      by_cases hl : j < R.length
                      · obtain ⟨g, c, es, hB, hlt2, ⟨u0, u1, u2, q0, q1, q2⟩, hfz, hset⟩ := HW.out.get hl
                        simp only [Value.slice.injEq] at es
                        obtain ⟨rfl, -, rfl⟩ := es
                        have f0 := hfz (j * 3)
                        have f1 := hfz (j * 3 + 1)
                        have f2 := hfz (j * 3 + 2)
                        have HSt : Hid _ := hset (-9) 0 0
                        have HVt : Hid _ := ((HV.out.set (.inr hB) (j * 3) (.int .i64 (-9))).set (.inr hB) (j * 3 + 1) (.int .i64 0)).set (.inr hB) (j * 3 + 2) (.int .i64 0)
                        clear hset hfz HW HV
                        go_wp2
                        go_roundw
                        case rel => exact ⟨j + 1, by omega, by go_num, HSt, HVt⟩
                        case measure => simp [intOf]; omega
                      · obtain rfl : j = R.length := by omega
                        have HKn : Hid _ := HK.out.still HV.out
                        clear HK HW HV hl hj
                        go_wp2
                        go_roundw
                        case rel => exact ⟨k + 1, by omega, by go_num, HKn⟩
                        case measure => simp [intOf]; omega
          · obtain rfl : k = 2 := by omega
            go_wp2
            go_ret
            exact ⟨rfl, HK.out.tu⟩
end Go.Proofs.YtbielnehggcaoaaDoor

/-
  The views of starts and of events. (By the verifier; no statement.)
-/
import Derived.Test.YtbielnehggcaoaaDoorJ26
import Derived.Deep.SlicePairs
namespace Go.Proofs.YtbielnehggcaoaaDoor
open Go.ChangeShapes Go.WideShapes Go.ChangeAt Go.WideMaps Go.WideElems Go.RowKit Go.Deep
theorem cellsPairR : Tryd.prog.cellsOf 67 = 2 := by kernel_rfl
theorem cellsPairsR : Tryd.prog.cellsOf 41 = 1 := by kernel_rfl
theorem cellsIntsR : Tryd.prog.cellsOf 22 = 1 := by kernel_rfl
theorem cellsEventR : Tryd.prog.cellsOf 52 = 13 := by kernel_rfl
theorem bytesIntR : Tryd.prog.bytesOf 3 = 8 := by kernel_rfl
theorem bytesPairR : Tryd.prog.bytesOf 67 = 16 := by kernel_rfl
theorem bytesPairsR : Tryd.prog.bytesOf 41 = 24 := by kernel_rfl
theorem bytesEventR : Tryd.prog.bytesOf 52 = 136 := by kernel_rfl
theorem choose_list {α : Type} {P : Nat → α → Prop} : ∀ n : Nat, (∀ i, i < n → ∃ x, P i x) → ∃ l : List α, l.length = n ∧ ∀ i x, l[i]? = some x → P i x
  | 0, _ => ⟨[], rfl, fun i x h => by simp at h⟩
  | n + 1, h => by
    obtain ⟨l, hl, hp⟩ := choose_list n fun i hi => h i (by omega)
    obtain ⟨x, hx⟩ := h n (by omega)
    refine ⟨l ++ [x], by simp [hl], fun i y hy => ?_⟩
    by_cases e : i < n
    · rw [List.getElem?_append_left (by omega)] at hy
      exact hp i y hy
    · have hi : i = n := by
        have := (List.getElem?_eq_some_iff.1 hy).1
        simp at this
        omega
      subst hi
      rw [List.getElem?_append_right (by omega)] at hy
      simp [hl] at hy
      rw [← hy]
      exact hx
section
variable {H : Type}
/-- Nothing in it is too great. -/
def SmallD (t : TypeId) (d : DataW H) : Prop := ∀ n, n ∈ d.weights Tryd.prog t → n ≤ reachBytes
theorem mem_all {t : TypeId} {d : DataW H} {n : Nat} (hn : n ∈ d.weights Tryd.prog t) : ∀ l : List (DataW H), d ∈ l → n ∈ DataW.weightsAll Tryd.prog t l
  | [], h => by cases h
  | x :: l, h => by
    rw [DataW.weightsAll]
    rcases List.mem_cons.1 h with rfl | h
    · exact List.mem_append_left _ hn
    · exact List.mem_append_right _ (mem_all hn l h)
theorem small_slice {t e : TypeId} {xs sp : List (DataW H)} (hu : Tryd.prog.underlying t = some (.slice e)) (h : SmallD t (.slice xs sp)) : xs.length * Tryd.prog.bytesOf e ≤ reachBytes ∧ ∀ d, d ∈ xs → SmallD e d := by
  refine ⟨Nat.le_trans (Nat.mul_le_mul_right _ (Nat.le_add_right _ _)) (h ((xs.length + sp.length) * Tryd.prog.bytesOf e) (by rw [DataW.weights, hu]; exact List.mem_cons_self)), fun d hd n hn => h n ?_⟩
  rw [DataW.weights, hu]
  exact List.mem_cons_of_mem _ (List.mem_append_left _ (mem_all hn xs hd))
theorem small_agg {t u : TypeId} {fs : Array Field} {ps : List (DataW H)} {j : Nat} {d : DataW H} (hu : Tryd.prog.underlying t = some (.struct fs)) (h : SmallD t (.agg ps)) (ht : (fs.toList.map (·.type))[j]? = some u) (hd : ps[j]? = some d) : SmallD u d := fun n hn => h n (by
  rw [DataW.weights, hu]
  exact DataW.weights_mem_each ht hd n hn)
theorem reach_le {n k : Nat} (h : n * k ≤ reachBytes) (hk : 1 ≤ k) : n ≤ 140737488355328 := by
  have := reachBytes_lt
  have h2 : n * 1 ≤ n * k := Nat.mul_le_mul_left _ hk
  have : (2 : Nat) ^ 47 = 140737488355328 := by decide
  omega
variable {enc : TypeId × Value → H} {W : World} {fuel : Nat} {v : Value} {x : DataW H × List MemPlace}
structure PU (w : World) (v : Value) (l : List (Int × Int)) : Prop where
  len : l.length ≤ 140737488355328
  ex : ∃ a c, v = .slice a l.length c ∧ (l ≠ [] → ∃ b o, a = some ⟨b, o, none⟩ ∧ ∀ i (h : i < l.length), w.cell? ⟨b, o + i * 2, none⟩ = some (.int .i64 l[i].1) ∧ w.cell? ⟨b, o + i * 2 + 1, none⟩ = some (.int .i64 l[i].2))
theorem PU.to {w : World} {l : List (Int × Int)} (h : PU w v l) (hl : l.length ≤ 1000000) : PW w v l := ⟨hl, h.ex⟩
set_option maxRecDepth 100000 in
theorem leaf_pairs (h : DataW.trod enc Tryd.prog W 0 (fun _ => true) true fuel 41 [v] = some x) (hs : SmallD 41 x.1) : ∃ l, PU W v l := by
  rcases open_slice_pairs Tryd.underlying41 Tryd.underlying67 cellsPairR rfl rfl cellsIntR cellsIntR h with ⟨hcs, -⟩ | ⟨a, len, cap, m, n, V0, V1, D0, D1, P0, P1, hcs, _, hl, _, hm, hx, hel⟩
  · simp at hcs
    subst hcs
    exact ⟨[], by simp, none, 0, rfl, fun h => absurd rfl h⟩
  · simp at hcs
    subst hcs hx
    simp only [if_true] at hm
    obtain ⟨hb, -⟩ := small_slice Tryd.underlying41 hs
    rw [bytesPairR, List.length_map, List.length_range] at hb
    obtain ⟨b, off, spot⟩ := a
    obtain ⟨l, hll, hlp⟩ := choose_list (α := Int × Int) (P := fun i p => W.cell? ((⟨b, off, spot⟩ : Addr).add (i * 2)) = some (.int .i64 p.1) ∧ W.cell? ((⟨b, off, spot⟩ : Addr).add (i * 2 + 1)) = some (.int .i64 p.2)) len fun i hi => by
      obtain ⟨h0, h1, t0, t1⟩ := hel i (by omega)
      obtain ⟨z0, e0, _⟩ := DataW.trod_int Tryd.underlying3 t0
      obtain ⟨z1, e1, _⟩ := DataW.trod_int Tryd.underlying3 t1
      simp at e0 e1
      rw [e0] at h0
      rw [e1] at h1
      exact ⟨(z0, z1), h0, h1⟩
    refine ⟨l, by rw [hll]; exact reach_le hb (by omega), some ⟨b, off, spot⟩, cap, by rw [hll], fun hne => ?_⟩
    have hpos : 0 < l.length := by
      rcases Nat.eq_zero_or_pos l.length with e | e
      · exact absurd (List.length_eq_zero_iff.1 e) hne
      · exact e
    have hspot : spot = none := by simpa [Addr.add] using World.cell?_spot (hlp 0 _ (List.getElem?_eq_getElem hpos)).1
    subst hspot
    refine ⟨b, off, rfl, fun i hi => ?_⟩
    obtain ⟨h0, h1⟩ := hlp i _ (List.getElem?_eq_getElem hi)
    exact ⟨by simpa [add_plain] using h0, by simpa [add_plain, Nat.add_assoc] using h1⟩
set_option maxRecDepth 100000 in
theorem leaf_ints (h : DataW.trod enc Tryd.prog W 0 (fun _ => true) true fuel 22 [v] = some x) (hs : SmallD 22 x.1) : ∃ l : List Int, IV W v l ∧ l.length ≤ 140737488355328 := by
  rcases open_ints Tryd.underlying22 Tryd.underlying3 cellsIntR h with ⟨hcs, hx⟩ | ⟨a, len0, cap0, zs, hcs, _, hl, hm, hz, hx, hcell, hwz⟩
  · simp at hcs
    subst hcs
    exact ⟨[], ⟨none, 0, rfl, fun _ => rfl, fun h => absurd rfl h⟩, by simp⟩
  · simp at hcs
    subst hcs hx
    simp only [if_true] at hz
    obtain ⟨hb, -⟩ := small_slice Tryd.underlying22 hs
    have hlen : (zs.take len0).length = len0 := by rw [List.length_take, Nat.min_eq_left (by omega)]
    have hb2 : len0 * 8 ≤ reachBytes := by
      simpa [lits, bytesIntR, hlen, Nat.min_eq_left (show len0 ≤ zs.length by omega)] using hb
    refine ⟨zs.take len0, ⟨some a, cap0, by rw [hlen], (fun h => by cases h), fun hne => ?_⟩, by rw [hlen]; exact reach_le hb2 (by omega)⟩
    have hpos : 0 < len0 := by
      rcases Nat.eq_zero_or_pos len0 with e | e
      · subst e; simp at hne
      · exact e
    obtain ⟨b, off, spot⟩ := a
    have hspot : spot = none := by simpa [Addr.add] using World.cell?_spot (hcell 0 (by omega))
    subst hspot
    refine ⟨b, off, rfl, fun j hj => ?_⟩
    have hj' : j < zs.length := by rw [List.length_take] at hj; omega
    have := hcell j hj'
    rw [show (⟨b, off, none⟩ : Addr).add j = ⟨b, off + j, none⟩ by unfold Addr.add; split <;> simp_all] at this
    rw [this, List.getElem_take]
    simp [hj']
end
end Go.Proofs.YtbielnehggcaoaaDoor
/-
  The views of starts and of events, whole. (By the verifier; no statement.)
-/
namespace Go.Proofs.YtbielnehggcaoaaDoor
open Go.ChangeShapes Go.WideShapes Go.ChangeAt Go.WideMaps Go.WideElems Go.RowKit Go.Deep
/-- An event in memory, of any size. -/
structure EvU (w : World) (b o : Nat) (e : Ev) : Prop where
  c0 : w.cell? ⟨b, o, none⟩ = some (.int .i64 e.wk)
  c1 : w.cell? ⟨b, o + 1, none⟩ = some (.int .i64 e.b)
  c2 : w.cell? ⟨b, o + 2, none⟩ = some (.int .i64 e.e)
  c3 : w.cell? ⟨b, o + 3, none⟩ = some (.int .i64 e.k)
  c4 : w.cell? ⟨b, o + 4, none⟩ = some (.int .i64 e.p)
  c5 : w.cell? ⟨b, o + 5, none⟩ = some (.int .i64 e.key)
  c6 : w.cell? ⟨b, o + 6, none⟩ = some (.int .i64 e.num)
  c7 : w.cell? ⟨b, o + 7, none⟩ = some (.bool e.had)
  c8 : w.cell? ⟨b, o + 8, none⟩ = some (.int .i64 e.val)
  c9 : w.cell? ⟨b, o + 9, none⟩ = some (.bool e.has)
  c10 : w.cell? ⟨b, o + 10, none⟩ = some (.int .i64 e.new)
  c11 : ∃ v, w.cell? ⟨b, o + 11, none⟩ = some v ∧ IV w v e.ns ∧ e.ns.length ≤ 140737488355328
  c12 : ∃ v, w.cell? ⟨b, o + 12, none⟩ = some v ∧ PU w v e.ps
theorem EvU.to {w : World} {b o : Nat} {e : Ev} (h : EvU w b o e) (hp : e.ps.length ≤ 1000000) : EvAt w b o e := by
  obtain ⟨v, h1, h2, -⟩ := h.c11
  obtain ⟨u, h3, h4⟩ := h.c12
  exact ⟨cell_lt h.c0, h.c0, h.c1, h.c2, h.c3, h.c4, h.c5, h.c6, h.c7, h.c8, h.c9, h.c10, ⟨v, h1, h2⟩, ⟨u, h3, h4.to hp⟩⟩
section
variable {H : Type} {enc : TypeId × Value → H} {W : World} {base : Nat} {v : Value} {d : DataW H} {p : List MemPlace}
set_option maxRecDepth 100000 in
theorem view_starts (hok : Value.okWide Tryd.prog W .any base 38 v) (h : DataW.Trod enc Tryd.prog W 0 (fun _ => true) true 38 v d p) (hs : SmallD 38 d) :
    ∃ sa S sc, v = .slice sa (S : List (List (Int × Int))).length sc ∧ S.length ≤ 140737488355328 ∧ ∀ i l, S[i]? = some l → ∃ (b o : Nat) (u : Value), sa = some ⟨b, o, none⟩ ∧ W.cell? ⟨b, o + i, none⟩ = some u ∧ PU W u l := by
  obtain ⟨a0, len, cap, rfl⟩ := okWide_slice Tryd.underlying38 hok
  obtain ⟨fuel, hf⟩ := h
  rcases open_slice Tryd.underlying38 hf with ⟨hcs, _⟩ | ⟨a, len', cap', m, n, Dx, Pl, hcs, _, hl, _, hm, hx, hel⟩
  · simp [Value.cells] at hcs
    obtain ⟨rfl, rfl, rfl⟩ := hcs
    exact ⟨none, [], 0, rfl, by simp, fun i l hl => by simp at hl⟩
  · simp [Value.cells] at hcs
    obtain ⟨rfl, rfl, rfl⟩ := hcs
    simp only [Prod.mk.injEq] at hx
    obtain ⟨rfl, -⟩ := hx
    simp only [if_true] at hm
    obtain ⟨hb, hsm⟩ := small_slice Tryd.underlying38 hs
    rw [bytesPairsR, List.length_map, List.length_range] at hb
    obtain ⟨b, off, spot⟩ := a
    obtain ⟨S, hSl, hSp⟩ := choose_list (α := List (Int × Int)) (P := fun i l => ∃ u, W.cell? ((⟨b, off, spot⟩ : Addr).add i) = some u ∧ PU W u l) len fun i hi => by
      obtain ⟨cs', h1, h2⟩ := hel i (by omega)
      rw [cellsPairsR] at h1
      obtain ⟨_, hlen, hcell⟩ := World.cells?_some h1
      match cs', hlen with
      | [u], _ =>
        obtain ⟨l, hpu⟩ := leaf_pairs h2 (hsm _ (List.mem_map.2 ⟨i, List.mem_range.2 hi, rfl⟩))
        have t0 := hcell 0 (by simp)
        rw [add_add] at t0
        exact ⟨l, u, by simpa using t0, hpu⟩
    refine ⟨some ⟨b, off, spot⟩, S, cap, by rw [hSl], by rw [hSl]; exact reach_le hb (by omega), fun i l hl => ?_⟩
    have hpos : 0 < S.length := by
      have := (List.getElem?_eq_some_iff.1 hl).1
      omega
    have hspot : spot = none := by
      obtain ⟨u, hu, -⟩ := hSp 0 _ (List.getElem?_eq_getElem hpos)
      simpa [Addr.add] using World.cell?_spot hu
    subst hspot
    obtain ⟨u, hu, hpu⟩ := hSp i l hl
    exact ⟨b, off, u, rfl, by simpa [add_plain] using hu, hpu⟩
set_option maxRecDepth 100000 in
set_option maxHeartbeats 1600000 in
theorem view_events (hok : Value.okWide Tryd.prog W .any base 39 v) (h : DataW.Trod enc Tryd.prog W 0 (fun _ => true) true 39 v d p) (hs : SmallD 39 d) :
    ∃ ea D ec, v = .slice ea (D : List Ev).length ec ∧ D.length ≤ ec ∧ D.length ≤ 140737488355328 ∧ ∀ i e, D[i]? = some e → ∃ b o : Nat, ea = some ⟨b, o, none⟩ ∧ EvU W b (o + i * 13) e := by
  obtain ⟨a0, len, cap, rfl⟩ := okWide_slice Tryd.underlying39 hok
  obtain ⟨fuel, hf⟩ := h
  rcases open_slice Tryd.underlying39 hf with ⟨hcs, _⟩ | ⟨a, len', cap', m, n, Dx, Pl, hcs, _, hl, _, hm, hx, hel⟩
  · simp [Value.cells] at hcs
    obtain ⟨rfl, rfl, rfl⟩ := hcs
    exact ⟨none, [], 0, rfl, by simp, by simp, fun i e he => by simp at he⟩
  · simp [Value.cells] at hcs
    obtain ⟨rfl, rfl, rfl⟩ := hcs
    simp only [Prod.mk.injEq] at hx
    obtain ⟨rfl, -⟩ := hx
    simp only [if_true] at hm
    obtain ⟨hb, hsm⟩ := small_slice Tryd.underlying39 hs
    rw [bytesEventR, List.length_map, List.length_range] at hb
    obtain ⟨D, hDl, hDp⟩ := choose_list (α := Ev) (P := fun i e => ∃ u11 u12 : Value, (∀ j, j < 13 → W.cell? (a.add (i * 13 + j)) = [Value.int .i64 e.wk, .int .i64 e.b, .int .i64 e.e, .int .i64 e.k, .int .i64 e.p, .int .i64 e.key, .int .i64 e.num, .bool e.had, .int .i64 e.val, .bool e.has, .int .i64 e.new, u11, u12][j]?) ∧ (IV W u11 e.ns ∧ e.ns.length ≤ 140737488355328) ∧ PU W u12 e.ps) len fun i hi => by
      obtain ⟨cs', h1, h2⟩ := hel i (by omega)
      rw [cellsEventR] at h1
      obtain ⟨_, hlen, hcell⟩ := World.cells?_some h1
      have hsi := hsm _ (List.mem_map.2 ⟨i, List.mem_range.2 hi, rfl⟩)
      obtain ⟨xs, k, _, hx2, _, hxl, hfs⟩ := DataW.trod_struct Tryd.underlying52 h2
      match xs, hxl, cs', hlen with
      | [y0, y1, y2, y3, y4, y5, y6, y7, y8, y9, y10, y11, y12], _, [v0, v1, v2, v3, v4, v5, v6, v7, v8, v9, v10, v11, v12], _ =>
        have g0 := hfs 0 _ rfl
        have g1 := hfs 1 _ rfl
        have g2 := hfs 2 _ rfl
        have g3 := hfs 3 _ rfl
        have g4 := hfs 4 _ rfl
        have g5 := hfs 5 _ rfl
        have g6 := hfs 6 _ rfl
        have g7 := hfs 7 _ rfl
        have g8 := hfs 8 _ rfl
        have g9 := hfs 9 _ rfl
        have g10 := hfs 10 _ rfl
        have g11 := hfs 11 _ rfl
        have g12 := hfs 12 _ rfl
        simp [cellsIntR, cellsBoolR, cellsIntsR, cellsPairsR] at g0 g1 g2 g3 g4 g5 g6 g7 g8 g9 g10 g11 g12
        simp only [Prod.mk.injEq] at hx2
        rw [hx2.1] at hsi
        obtain ⟨z0, e0, _⟩ := DataW.trod_int Tryd.underlying3 g0
        obtain ⟨z1, e1, _⟩ := DataW.trod_int Tryd.underlying3 g1
        obtain ⟨z2, e2, _⟩ := DataW.trod_int Tryd.underlying3 g2
        obtain ⟨z3, e3, _⟩ := DataW.trod_int Tryd.underlying3 g3
        obtain ⟨z4, e4, _⟩ := DataW.trod_int Tryd.underlying3 g4
        obtain ⟨z5, e5, _⟩ := DataW.trod_int Tryd.underlying3 g5
        obtain ⟨z6, e6, _⟩ := DataW.trod_int Tryd.underlying3 g6
        obtain ⟨z7, e7, _⟩ := DataW.trod_bool Tryd.underlying4 g7
        obtain ⟨z8, e8, _⟩ := DataW.trod_int Tryd.underlying3 g8
        obtain ⟨z9, e9, _⟩ := DataW.trod_bool Tryd.underlying4 g9
        obtain ⟨z10, e10, _⟩ := DataW.trod_int Tryd.underlying3 g10
        obtain ⟨ns, hns, hnl⟩ := leaf_ints g11 (small_agg (j := 11) Tryd.underlying52 hsi rfl rfl)
        obtain ⟨ps, hps⟩ := leaf_pairs g12 (small_agg (j := 12) Tryd.underlying52 hsi rfl rfl)
        simp at e0 e1 e2 e3 e4 e5 e6 e7 e8 e9 e10
        subst e0 e1 e2 e3 e4 e5 e6 e7 e8 e9 e10
        refine ⟨⟨z0, z1, z2, z3, z4, z5, z6, z7, z8, z9, z10, ns, ps⟩, v11, v12, fun j hj => ?_, ⟨hns, hnl⟩, hps⟩
        have t0 := hcell j (by simpa using hj)
        rw [add_add] at t0
        exact t0.trans (by simp)
    refine ⟨some a, D, cap, by rw [hDl], by omega, by rw [hDl]; exact reach_le hb (by omega), fun i e he => ?_⟩
    have hpos : 0 < D.length := by
      have := (List.getElem?_eq_some_iff.1 he).1
      omega
    obtain ⟨b, off, spot⟩ := a
    have hspot : spot = none := by
      obtain ⟨u1, u2, hu, -⟩ := hDp 0 _ (List.getElem?_eq_getElem hpos)
      simpa [Addr.add] using World.cell?_spot ((hu 0 (by omega)).trans rfl)
    subst hspot
    obtain ⟨u1, u2, hu, hns, hps⟩ := hDp i e he
    have q : ∀ j, j < 13 → W.cell? ⟨b, off + i * 13 + j, none⟩ = [Value.int .i64 e.wk, .int .i64 e.b, .int .i64 e.e, .int .i64 e.k, .int .i64 e.p, .int .i64 e.key, .int .i64 e.num, .bool e.had, .int .i64 e.val, .bool e.has, .int .i64 e.new, u1, u2][j]? := fun j hj => by
      have := hu j hj
      simpa [add_plain, Nat.add_assoc] using this
    exact ⟨b, off, rfl, q 0 (by omega), q 1 (by omega), q 2 (by omega), q 3 (by omega), q 4 (by omega), q 5 (by omega), q 6 (by omega), q 7 (by omega), q 8 (by omega), q 9 (by omega), q 10 (by omega), ⟨u1, q 11 (by omega), hns⟩, ⟨u2, q 12 (by omega), hps⟩⟩
end
end Go.Proofs.YtbielnehggcaoaaDoor

/-
  The views of starts and of deeds. (By the verifier; no statement.)
-/
import Derived.Test.YtfhoflcecbdncaaDoorJ05
import Derived.Test.YtfhoflcecbdncaaDoorJ25
import Derived.Carry
namespace Go.Proofs.YtfhoflcecbdncaaDoor
open Go.ChangeShapes Go.WideShapes Go.ChangeAt Go.WideMaps Go.WideElems Go.RowKit Go.Deep
theorem cellsIntR : Tryd.prog.cellsOf 3 = 1 := by kernel_rfl
theorem cellsBoolR : Tryd.prog.cellsOf 4 = 1 := by kernel_rfl
theorem cellsDeedR : Tryd.prog.cellsOf 27 = 8 := by kernel_rfl
set_option maxRecDepth 100000 in
theorem block_of_slice {W : World} {base : Nat} {t e : TypeId} {a : Addr} {l c : Nat} (ht : Tryd.prog.underlying t = some (.slice e)) (hok : Value.okWide Tryd.prog W .any base t (.slice (some a) l c)) : a.block < W.heap.size := by
  simp only [Value.okWide, ht, Cell.okWide, Cell.ok] at hok
  obtain ⟨-, -, -, -, row, cells, hs, -⟩ := hok
  apply Classical.byContradiction
  intro hn
  have hnone : W.heap[a.block]? = none := Array.getElem?_eq_none (by omega)
  simp [World.shape?, hnone] at hs
section
variable {H : Type} {enc : TypeId × Value → H} {W : World} {base : Nat} {v : Value} {d : DataW H} {p : List MemPlace}
set_option maxRecDepth 100000 in
theorem view_ints (hok : Value.okWide Tryd.prog W .any base 22 v) (h : DataW.Trod enc Tryd.prog W 0 (fun _ => true) true 22 v d p) : ∃ fa fc F, v = .slice fa (F : List Int).length fc ∧ IV W v F := by
  obtain ⟨a0, len0, cap0, rfl⟩ := okWide_slice Tryd.underlying22 hok
  obtain ⟨fuel, hf⟩ := h
  rcases open_ints Tryd.underlying22 Tryd.underlying3 cellsIntR hf with ⟨hcs, hx⟩ | ⟨a, len, cap, zs, hcs, _, hl, hm, hz, hx, hcell, hwz⟩
  · simp [Value.cells] at hcs
    obtain ⟨rfl, rfl, rfl⟩ := hcs
    exact ⟨none, 0, [], rfl, ⟨none, 0, rfl, fun _ => rfl, fun h => absurd rfl h⟩⟩
  · simp [Value.cells] at hcs
    obtain ⟨rfl, rfl, rfl⟩ := hcs
    simp only [if_true] at hz
    have hlen : (zs.take len0).length = len0 := by rw [List.length_take, Nat.min_eq_left (by omega)]
    refine ⟨some a, cap0, zs.take len0, by rw [hlen], ⟨some a, cap0, by rw [hlen], (fun h => by cases h), fun hne => ?_⟩⟩
    have hpos : 0 < len0 := by
      rcases Nat.eq_zero_or_pos len0 with e | e
      · subst e; simp at hne
      · exact e
    obtain ⟨b, off, spot⟩ := a
    have hspot : spot = none := by simpa [Addr.add] using World.cell?_spot (hcell 0 (by omega))
    subst hspot
    refine ⟨b, off, rfl, fun j hj => ?_⟩
    have hj' : j < zs.length := by rw [List.length_take] at hj; omega
    have := hcell j hj'
    rw [show (⟨b, off, none⟩ : Addr).add j = ⟨b, off + j, none⟩ by unfold Addr.add; split <;> simp_all] at this
    rw [this, List.getElem_take]
    simp [hj']
set_option maxRecDepth 100000 in
theorem view_deeds (hok : Value.okWide Tryd.prog W .any base 23 v) (h : DataW.Trod enc Tryd.prog W 0 (fun _ => true) true 23 v d p) : ∃ la D lc, v = .slice la (D : List Dd).length lc ∧ DsAt W la D ∧ ∀ b o, la = some ⟨b, o, none⟩ → b < W.heap.size := by
  obtain ⟨a0, len, cap, rfl⟩ := okWide_slice Tryd.underlying23 hok
  obtain ⟨fuel, hf⟩ := h
  rcases open_slice Tryd.underlying23 hf with ⟨hcs, _⟩ | ⟨a, len', cap', m, n, Dx, Pl, hcs, _, hl, _, hm, _, hel⟩
  · simp [Value.cells] at hcs
    obtain ⟨rfl, rfl, rfl⟩ := hcs
    exact ⟨none, [], 0, rfl, ⟨fun i d hd => by simp at hd⟩, fun b o e => by cases e⟩
  · simp [Value.cells] at hcs
    obtain ⟨rfl, rfl, rfl⟩ := hcs
    simp only [if_true] at hm
    have hblk := block_of_slice Tryd.underlying23 hok
    have each : ∀ i, i < len → ∃ d : Dd, ∀ j, j < 8 → W.cell? (a.add (i * 8 + j)) = [Value.int .i64 d.b, .int .i64 d.e, .int .i64 d.k, .int .i64 d.a, .int .i64 d.x, .int .i64 d.c, .int .i64 d.n, .bool d.ok][j]? := by
      intro i hi
      obtain ⟨cs', h1, h2⟩ := hel i (by omega)
      rw [cellsDeedR] at h1
      obtain ⟨_, hlen, hcell⟩ := World.cells?_some h1
      obtain ⟨xs, k, _, _, _, hxl, hfs⟩ := DataW.trod_struct Tryd.underlying27 h2
      match xs, hxl, cs', hlen with
      | [y0, y1, y2, y3, y4, y5, y6, y7], _, [v0, v1, v2, v3, v4, v5, v6, v7], _ =>
        have g0 := hfs 0 _ rfl
        have g1 := hfs 1 _ rfl
        have g2 := hfs 2 _ rfl
        have g3 := hfs 3 _ rfl
        have g4 := hfs 4 _ rfl
        have g5 := hfs 5 _ rfl
        have g6 := hfs 6 _ rfl
        have g7 := hfs 7 _ rfl
        simp [cellsIntR, cellsBoolR] at g0 g1 g2 g3 g4 g5 g6 g7
        obtain ⟨z0, e0, _⟩ := DataW.trod_int Tryd.underlying3 g0
        obtain ⟨z1, e1, _⟩ := DataW.trod_int Tryd.underlying3 g1
        obtain ⟨z2, e2, _⟩ := DataW.trod_int Tryd.underlying3 g2
        obtain ⟨z3, e3, _⟩ := DataW.trod_int Tryd.underlying3 g3
        obtain ⟨z4, e4, _⟩ := DataW.trod_int Tryd.underlying3 g4
        obtain ⟨z5, e5, _⟩ := DataW.trod_int Tryd.underlying3 g5
        obtain ⟨z6, e6, _⟩ := DataW.trod_int Tryd.underlying3 g6
        obtain ⟨z7, e7, _⟩ := DataW.trod_bool Tryd.underlying4 g7
        simp at e0 e1 e2 e3 e4 e5 e6 e7
        subst e0 e1 e2 e3 e4 e5 e6 e7
        refine ⟨⟨z0, z1, z2, z3, z4, z5, z6, z7⟩, fun j hj => ?_⟩
        have t0 := hcell j (by simpa using hj)
        rw [add_add] at t0
        exact t0.trans (by simp)
    let f : Nat → Dd := fun i => if h : i < len then (each i h).choose else Dd.zero
    have hf' : ∀ i, i < len → ∀ j, j < 8 → W.cell? (a.add (i * 8 + j)) = [Value.int .i64 (f i).b, .int .i64 (f i).e, .int .i64 (f i).k, .int .i64 (f i).a, .int .i64 (f i).x, .int .i64 (f i).c, .int .i64 (f i).n, .bool (f i).ok][j]? := fun i hi => by
      have e : f i = (each i hi).choose := dif_pos hi
      rw [e]
      exact (each i hi).choose_spec
    refine ⟨some a, (List.range len).map f, cap, by simp, ⟨fun i d hd => ?_⟩, fun b o e => by cases e; exact hblk⟩
    have hi : i < len := by
      have := (List.getElem?_eq_some_iff.1 hd).1
      simpa using this
    have hd' : d = f i := by
      simp [hi] at hd
      exact hd.symm
    subst hd'
    obtain ⟨b, off, spot⟩ := a
    have hspot : spot = none := by simpa [Addr.add] using World.cell?_spot ((hf' 0 (by omega) 0 (by omega)).trans rfl)
    subst hspot
    have q' : ∀ j, j < 8 → W.cell? ⟨b, off + i * 8 + j, none⟩ = [Value.int .i64 (f i).b, .int .i64 (f i).e, .int .i64 (f i).k, .int .i64 (f i).a, .int .i64 (f i).x, .int .i64 (f i).c, .int .i64 (f i).n, .bool (f i).ok][j]? := fun j hj => by
      have := hf' i hi j hj
      simpa [add_plain, Nat.add_assoc] using this
    exact ⟨b, off, rfl, hblk, q' 0 (by omega), q' 1 (by omega), q' 2 (by omega), q' 3 (by omega), q' 4 (by omega), q' 5 (by omega), q' 6 (by omega), q' 7 (by omega)⟩
end
end Go.Proofs.YtfhoflcecbdncaaDoor

/-
  The views of starts and of deeds. (By the verifier; no statement.)
-/
import Derived.Test.YtbielnehggcaoaaDoorJ05
import Derived.Test.YtbielnehggcaoaaDoorJ25
import Derived.Carry
import Derived.Test.YtbielnehggcaoaaDoorJ21
import Derived.Test.YtbielnehggcaoaaDoorJ22
namespace Go.Proofs.YtbielnehggcaoaaDoor
open Go.ChangeShapes Go.WideShapes Go.ChangeAt Go.WideMaps Go.WideElems Go.RowKit Go.Deep
theorem cellsIntR : Tryd.prog.cellsOf 3 = 1 := by kernel_rfl
theorem cellsBoolR : Tryd.prog.cellsOf 4 = 1 := by kernel_rfl
theorem cellsDeedR : Tryd.prog.cellsOf 27 = 8 := by kernel_rfl
set_option maxRecDepth 100000 in
theorem block_of_slice {W : World} {base : Nat} {t e : TypeId} {a : Addr} {l c : Nat} (ht : Tryd.prog.underlying t = some (.slice e)) (hok : Value.okWide Tryd.prog W .any base t (.slice (some a) l c)) : a.block < W.heap.size := by
  simp only [Value.okWide, ht, Cell.okWide, Cell.ok] at hok
  obtain ⟨-, -, -, -, row, cells, hs, -⟩ := hok
  apply Classical.byContradiction
  intro hn
  have hnone : W.heap[a.block]? = none := Array.getElem?_eq_none (by omega)
  simp [World.shape?, hnone] at hs
section
variable {H : Type} {enc : TypeId × Value → H} {W : World} {base : Nat} {v : Value} {d : DataW H} {p : List MemPlace}
set_option maxRecDepth 100000 in
theorem view_ints (hok : Value.okWide Tryd.prog W .any base 22 v) (h : DataW.Trod enc Tryd.prog W 0 (fun _ => true) true 22 v d p) : ∃ fa fc F, v = .slice fa (F : List Int).length fc ∧ IV W v F := by
  obtain ⟨a0, len0, cap0, rfl⟩ := okWide_slice Tryd.underlying22 hok
  obtain ⟨fuel, hf⟩ := h
  rcases open_ints Tryd.underlying22 Tryd.underlying3 cellsIntR hf with ⟨hcs, hx⟩ | ⟨a, len, cap, zs, hcs, _, hl, hm, hz, hx, hcell, hwz⟩
  · simp [Value.cells] at hcs
    obtain ⟨rfl, rfl, rfl⟩ := hcs
    exact ⟨none, 0, [], rfl, ⟨none, 0, rfl, fun _ => rfl, fun h => absurd rfl h⟩⟩
  · simp [Value.cells] at hcs
    obtain ⟨rfl, rfl, rfl⟩ := hcs
    simp only [if_true] at hz
    have hlen : (zs.take len0).length = len0 := by rw [List.length_take, Nat.min_eq_left (by omega)]
    refine ⟨some a, cap0, zs.take len0, by rw [hlen], ⟨some a, cap0, by rw [hlen], (fun h => by cases h), fun hne => ?_⟩⟩
    have hpos : 0 < len0 := by
      rcases Nat.eq_zero_or_pos len0 with e | e
      · subst e; simp at hne
      · exact e
    obtain ⟨b, off, spot⟩ := a
    have hspot : spot = none := by simpa [Addr.add] using World.cell?_spot (hcell 0 (by omega))
    subst hspot
    refine ⟨b, off, rfl, fun j hj => ?_⟩
    have hj' : j < zs.length := by rw [List.length_take] at hj; omega
    have := hcell j hj'
    rw [show (⟨b, off, none⟩ : Addr).add j = ⟨b, off + j, none⟩ by unfold Addr.add; split <;> simp_all] at this
    rw [this, List.getElem_take]
    simp [hj']
set_option maxRecDepth 100000 in
theorem view_deeds (hok : Value.okWide Tryd.prog W .any base 23 v) (h : DataW.Trod enc Tryd.prog W 0 (fun _ => true) true 23 v d p) : ∃ la D lc, v = .slice la (D : List Dd).length lc ∧ DsAt W la D ∧ ∀ b o, la = some ⟨b, o, none⟩ → b < W.heap.size := by
  obtain ⟨a0, len, cap, rfl⟩ := okWide_slice Tryd.underlying23 hok
  obtain ⟨fuel, hf⟩ := h
  rcases open_slice Tryd.underlying23 hf with ⟨hcs, _⟩ | ⟨a, len', cap', m, n, Dx, Pl, hcs, _, hl, _, hm, _, hel⟩
  · simp [Value.cells] at hcs
    obtain ⟨rfl, rfl, rfl⟩ := hcs
    exact ⟨none, [], 0, rfl, ⟨fun i d hd => by simp at hd⟩, fun b o e => by cases e⟩
  · simp [Value.cells] at hcs
    obtain ⟨rfl, rfl, rfl⟩ := hcs
    simp only [if_true] at hm
    have hblk := block_of_slice Tryd.underlying23 hok
    have each : ∀ i, i < len → ∃ d : Dd, ∀ j, j < 8 → W.cell? (a.add (i * 8 + j)) = [Value.int .i64 d.b, .int .i64 d.e, .int .i64 d.k, .int .i64 d.a, .int .i64 d.x, .int .i64 d.c, .int .i64 d.n, .bool d.ok][j]? := by
      intro i hi
      obtain ⟨cs', h1, h2⟩ := hel i (by omega)
      rw [cellsDeedR] at h1
      obtain ⟨_, hlen, hcell⟩ := World.cells?_some h1
      obtain ⟨xs, k, _, _, _, hxl, hfs⟩ := DataW.trod_struct Tryd.underlying27 h2
      match xs, hxl, cs', hlen with
      | [y0, y1, y2, y3, y4, y5, y6, y7], _, [v0, v1, v2, v3, v4, v5, v6, v7], _ =>
        have g0 := hfs 0 _ rfl
        have g1 := hfs 1 _ rfl
        have g2 := hfs 2 _ rfl
        have g3 := hfs 3 _ rfl
        have g4 := hfs 4 _ rfl
        have g5 := hfs 5 _ rfl
        have g6 := hfs 6 _ rfl
        have g7 := hfs 7 _ rfl
        simp [cellsIntR, cellsBoolR] at g0 g1 g2 g3 g4 g5 g6 g7
        obtain ⟨z0, e0, _⟩ := DataW.trod_int Tryd.underlying3 g0
        obtain ⟨z1, e1, _⟩ := DataW.trod_int Tryd.underlying3 g1
        obtain ⟨z2, e2, _⟩ := DataW.trod_int Tryd.underlying3 g2
        obtain ⟨z3, e3, _⟩ := DataW.trod_int Tryd.underlying3 g3
        obtain ⟨z4, e4, _⟩ := DataW.trod_int Tryd.underlying3 g4
        obtain ⟨z5, e5, _⟩ := DataW.trod_int Tryd.underlying3 g5
        obtain ⟨z6, e6, _⟩ := DataW.trod_int Tryd.underlying3 g6
        obtain ⟨z7, e7, _⟩ := DataW.trod_bool Tryd.underlying4 g7
        simp at e0 e1 e2 e3 e4 e5 e6 e7
        subst e0 e1 e2 e3 e4 e5 e6 e7
        refine ⟨⟨z0, z1, z2, z3, z4, z5, z6, z7⟩, fun j hj => ?_⟩
        have t0 := hcell j (by simpa using hj)
        rw [add_add] at t0
        exact t0.trans (by simp)
    let f : Nat → Dd := fun i => if h : i < len then (each i h).choose else Dd.zero
    have hf' : ∀ i, i < len → ∀ j, j < 8 → W.cell? (a.add (i * 8 + j)) = [Value.int .i64 (f i).b, .int .i64 (f i).e, .int .i64 (f i).k, .int .i64 (f i).a, .int .i64 (f i).x, .int .i64 (f i).c, .int .i64 (f i).n, .bool (f i).ok][j]? := fun i hi => by
      have e : f i = (each i hi).choose := dif_pos hi
      rw [e]
      exact (each i hi).choose_spec
    refine ⟨some a, (List.range len).map f, cap, by simp, ⟨fun i d hd => ?_⟩, fun b o e => by cases e; exact hblk⟩
    have hi : i < len := by
      have := (List.getElem?_eq_some_iff.1 hd).1
      simpa using this
    have hd' : d = f i := by
      simp [hi] at hd
      exact hd.symm
    subst hd'
    obtain ⟨b, off, spot⟩ := a
    have hspot : spot = none := by simpa [Addr.add] using World.cell?_spot ((hf' 0 (by omega) 0 (by omega)).trans rfl)
    subst hspot
    have q' : ∀ j, j < 8 → W.cell? ⟨b, off + i * 8 + j, none⟩ = [Value.int .i64 (f i).b, .int .i64 (f i).e, .int .i64 (f i).k, .int .i64 (f i).a, .int .i64 (f i).x, .int .i64 (f i).c, .int .i64 (f i).n, .bool (f i).ok][j]? := fun j hj => by
      have := hf' i hi j hj
      simpa [add_plain, Nat.add_assoc] using this
    exact ⟨b, off, rfl, hblk, q' 0 (by omega), q' 1 (by omega), q' 2 (by omega), q' 3 (by omega), q' 4 (by omega), q' 5 (by omega), q' 6 (by omega), q' 7 (by omega)⟩
end
end Go.Proofs.YtbielnehggcaoaaDoor
/-
  A history without its last events, none of which publishes. (By the verifier; no statement, no memory.)
-/
namespace Go.Proofs.YtbielnehggcaoaaDoor
open Go.RowKit
def keepB (n : Nat) (b : Bm) : Bool := decide (b.1 < (n : Int)) && decide (b.2.1 < (n : Int))
theorem range_keep {n L : Nat} (h : n ≤ L) (p : Nat → Bool) : (List.range L).filter (fun i => p i && decide (i < n)) = (List.range n).filter p := by
  obtain ⟨k, rfl⟩ : ∃ k, L = n + k := ⟨L - n, by omega⟩
  rw [List.range_add, List.filter_append]
  have h2 : ((List.range k).map (n + ·)).filter (fun i => p i && decide (i < n)) = [] := by
    rw [List.filter_eq_nil_iff]
    intro a ha
    obtain ⟨b, _, rfl⟩ := List.mem_map.1 ha
    simp
  rw [h2, List.append_nil]
  refine List.filter_congr fun i hi => ?_
  rw [decide_eq_true (List.mem_range.1 hi), Bool.and_true]
section
variable {m : Int} {D : List Ev} {n : Nat}
theorem eAt_take {i : Nat} (h : i < n) : eAt (D.take n) i = eAt D i := by
  unfold eAt
  rw [List.getD_eq_getElem?_getD, List.getD_eq_getElem?_getD, List.getElem?_take_of_lt h]
theorem endL_take (m : Int) (D : List Ev) (n : Nat) : endL m (D.take n) n = endL m D n := by
  unfold endL
  exact List.filter_congr fun i hi => by rw [eAt_take (List.mem_range.1 hi)]
theorem endL_keep (h : n ≤ D.length) : (endL m D D.length).filter (fun i => decide (i < n)) = endL m D n := by
  unfold endL
  rw [List.filter_filter]
  rw [← range_keep h]
  exact List.filter_congr fun i _ => by rw [Bool.and_comm]
theorem pubL_take (h : n ≤ D.length) (hP : ∀ i, n ≤ i → i < D.length → (eAt D i).pub = false) (p u : Int) : pubL m D D.length p u = pubL m (D.take n) n p u := by
  have h1 : pubL m D D.length p u = ((endL m D D.length).filter (fun i => decide (i < n))).filter fun i => (eAt D i).pub && decide ((eAt D i).p = p) && decide ((eAt D i).num = u) := by
    unfold pubL
    rw [List.filter_filter]
    refine List.filter_congr fun i hi => ?_
    by_cases hn : i < n
    · rw [decide_eq_true hn, Bool.and_true]
    · have hl : i < D.length := List.mem_range.1 (List.mem_filter.1 hi).1
      rw [hP i (by omega) hl]
      simp
  rw [h1, endL_keep h]
  unfold pubL
  rw [endL_take]
  refine List.filter_congr fun i hi => ?_
  rw [eAt_take (List.mem_range.1 (List.mem_filter.1 hi).1)]
theorem busyB_take (h : n ≤ D.length) (hP : ∀ i, n ≤ i → i < D.length → (eAt D i).pub = false) (p : Int) : busyB m D D.length p = busyB m (D.take n) n p := by
  unfold busyB
  rw [Bool.eq_iff_iff, List.any_eq_true, List.any_eq_true]
  constructor
  · rintro ⟨i, hi, hb⟩
    have hl := List.mem_range.1 hi
    by_cases hn : i < n
    · exact ⟨i, List.mem_range.2 hn, by rw [eAt_take hn]; exact hb⟩
    · rw [hP i (by omega) hl] at hb
      simp at hb
  · rintro ⟨i, hi, hb⟩
    have hn := List.mem_range.1 hi
    rw [eAt_take hn] at hb
    exact ⟨i, List.mem_range.2 (by omega), hb⟩
theorem wrongL_keep (h : n ≤ D.length) : (wrongL m D D.length).filter (keepB n) = wrongL m (D.take n) n := by
  unfold wrongL
  rw [List.filter_map, List.filter_filter]
  have : (List.range D.length).filter (fun a => (keepB n ∘ fun i : Nat => ((i : Int), (-1 : Int), (1 : Int))) a && !(eAt D a).good m) = (List.range n).filter fun i => !(eAt (D.take n) i).good m := by
    rw [← range_keep h]
    refine List.filter_congr fun i _ => ?_
    simp only [Function.comp, keepB]
    by_cases hn : i < n
    · rw [eAt_take hn, decide_eq_true (show (i : Int) < n by omega), decide_eq_true (show (-1 : Int) < n by omega), decide_eq_true hn]
      simp
    · rw [decide_eq_false (show ¬ (i : Int) < n by omega), decide_eq_false hn]
      simp
  rw [this]
theorem heldB_take (p u : Int) (f : Hold) {i : Nat} (h : i < n) : heldB (D.take n) p u f i = heldB D p u f i := by
  unfold heldB
  rw [eAt_take h]
theorem heldL_keep (h : n ≤ D.length) (p u : Int) (f : Hold) : (heldL D (endL m D D.length) p u f).filter (keepB n) = heldL (D.take n) (endL m (D.take n) n) p u f := by
  unfold heldL
  rw [List.filter_map, List.filter_filter]
  congr 1
  rw [endL_take, ← endL_keep h, List.filter_filter]
  refine List.filter_congr fun i _ => ?_
  simp only [Function.comp, keepB]
  by_cases hn : i < n
  · rw [heldB_take p u f hn, decide_eq_true (show (i : Int) < n by omega), decide_eq_true (show (-1 : Int) < n by omega), decide_eq_true hn]
    simp
  · rw [decide_eq_false (show ¬ (i : Int) < n by omega), decide_eq_false hn]
    simp
theorem times_take (h : n ≤ D.length) (hP : ∀ i, n ≤ i → i < D.length → (eAt D i).pub = false) (p u : Int) : timesN m D D.length p u = timesN m (D.take n) n p u := by
  unfold timesN
  rw [pubL_take h hP]
theorem place_take (h : n ≤ D.length) (hP : ∀ i, n ≤ i → i < D.length → (eAt D i).pub = false) (p u : Int) : placeN m D D.length p u = placeN m (D.take n) n p u := by
  unfold placeN
  rw [pubL_take h hP]
theorem tell_keep (h : n ≤ D.length) (hP : ∀ i, n ≤ i → i < D.length → (eAt D i).pub = false) (p : Int) : ∀ (g' g u : Nat) (f : Hold), g' + u = n + 1 → D.length + 1 ≤ g + u → 1 ≤ u → (∀ j : Nat, 1 ≤ j → j < u → timesN m D D.length p ((j : Int) + 1) = 1) →
    (tellL m D p g u f).1.filter (keepB n) = (tellL m (D.take n) p g' u f).1 ∧ (tellL m D p g u f).2 = (tellL m (D.take n) p g' u f).2
  | 0, g, u, f, h1, h2, h3, h4 => by
    have hlen : (D.take n).length = n := by rw [List.length_take]; omega
    have hno : ¬ timesN m D D.length p ((u : Int) + 1) = 1 := fun ht => by
      have := chain_bound (m := m) (D := D.take n) (n := n) (p := p) (k := u) (fun j j1 j2 => by
        rw [← times_take h hP]
        by_cases e : j < u
        · exact h4 j j1 e
        · rw [show j = u by omega]; exact ht)
      omega
    have e1 : tellL m D p g u f = (heldL D (endL m D D.length) p u f, u) := by
      cases g with
      | zero => rfl
      | succ g => unfold tellL; rw [if_neg hno]
    rw [e1]
    unfold tellL
    rw [hlen]
    exact ⟨heldL_keep h p u f, rfl⟩
  | g' + 1, 0, u, f, h1, h2, h3, h4 => by omega
  | g' + 1, g + 1, u, f, h1, h2, h3, h4 => by
    have hlen : (D.take n).length = n := by rw [List.length_take]; omega
    unfold tellL
    rw [hlen, ← times_take h hP, ← place_take h hP]
    by_cases ht : timesN m D D.length p ((u : Int) + 1) = 1
    · rw [if_pos ht, if_pos ht]
      have hlt : placeN m D D.length p ((u : Int) + 1) < n := by
        rw [place_take h hP]
        exact place_lt (by rw [← times_take h hP, ht]; decide)
      rw [eAt_take hlt]
      obtain ⟨i1, i2⟩ := tell_keep h hP p g' g (u + 1) (f.chg (eAt D (placeN m D D.length p ((u : Int) + 1)))) (by omega) (by omega) (by omega) (fun j j1 j2 => by
        by_cases e : j < u
        · exact h4 j j1 e
        · rw [show j = u by omega]; exact ht)
      refine ⟨?_, i2⟩
      rw [List.filter_append, heldL_keep h, i1]
    · rw [if_neg ht, if_neg ht]
      exact ⟨heldL_keep h p u f, rfl⟩
theorem part_keep (S : List (List (Int × Int))) (h : n ≤ D.length) (hP : ∀ i, n ≤ i → i < D.length → (eAt D i).pub = false) (p : Nat) : (partT S D p).1.filter (keepB n) = (partT S (D.take n) p).1 ∧ (partT S D p).2 = (partT S (D.take n) p).2 := by
  have hlen : (D.take n).length = n := by rw [List.length_take]; omega
  unfold partT
  rw [hlen]
  exact tell_keep h hP p n D.length 1 _ rfl (by omega) (by omega) (fun j j1 j2 => by omega)
theorem last_take (S : List (List (Int × Int))) (h : n ≤ D.length) (hP : ∀ i, n ≤ i → i < D.length → (eAt D i).pub = false) : lastF S D = lastF S (D.take n) := by
  funext p
  unfold lastF
  rw [(part_keep S h hP p.toNat).2]
theorem mem_cmp {i j : Nat} {x : Bm} (hx : x ∈ cmpL D i j) : x.1 = i ∧ x.2.1 = j := by
  unfold cmpL at hx
  simp only [List.mem_append] at hx
  rcases hx with hx | hx | hx | hx <;> (split at hx <;> simp at hx <;> rw [hx] <;> exact ⟨rfl, rfl⟩)
theorem cmp_take {i j : Nat} (hi : i < n) (hj : j < n) : cmpL (D.take n) i j = cmpL D i j := by
  unfold cmpL
  rw [eAt_take hi, eAt_take hj]
theorem cmp_keep {i j : Nat} (hi : i < n) (hj : j < n) : (cmpL D i j).filter (keepB n) = cmpL D i j := by
  rw [List.filter_eq_self]
  intro x hx
  obtain ⟨h1, h2⟩ := mem_cmp hx
  unfold keepB
  rw [h1, h2, decide_eq_true (by omega), decide_eq_true (by omega)]
  rfl
theorem cmp_drop {i j : Nat} (hj : ¬ j < n) : (cmpL D i j).filter (keepB n) = [] := by
  rw [List.filter_eq_nil_iff]
  intro x hx
  obtain ⟨h1, h2⟩ := mem_cmp hx
  unfold keepB
  rw [h2, decide_eq_false (show ¬ (j : Int) < n by omega)]
  simp
theorem flat_keep {α β : Type} (q : α → Bool) (F : α → List β) : ∀ l : List α, (∀ i, i ∈ l → q i = false → F i = []) → l.flatMap F = (l.filter q).flatMap F
  | [], _ => rfl
  | a :: l, h => by
    have ih := flat_keep q F l fun i hi => h i (List.mem_cons_of_mem _ hi)
    rw [List.flatMap_cons, ih]
    cases hq : q a with
    | true => rw [List.filter_cons_of_pos hq, List.flatMap_cons]
    | false => rw [List.filter_cons_of_neg (by simp [hq]), h a List.mem_cons_self hq, List.nil_append]
theorem flat_congr {α β : Type} {F G : α → List β} : ∀ l : List α, (∀ i, i ∈ l → F i = G i) → l.flatMap F = l.flatMap G
  | [], _ => rfl
  | a :: l, h => by rw [List.flatMap_cons, List.flatMap_cons, h a List.mem_cons_self, flat_congr l fun i hi => h i (List.mem_cons_of_mem _ hi)]
theorem each_keep (h : n ≤ D.length) (hP : ∀ i, n ≤ i → i < D.length → (eAt D i).pub = false) (last : Int → Int) {i : Nat} (hi : i < n) : (eachL m D last i).filter (keepB n) = eachL m (D.take n) last i := by
  have hlen : (D.take n).length = n := by rw [List.length_take]; omega
  have hu : untoldB m (D.take n) last i = untoldB m D last i := by
    unfold untoldB
    rw [eAt_take hi, hlen, ← busyB_take h hP]
  unfold eachL
  rw [List.filter_append, List.filter_flatMap, hlen, hu]
  congr 1
  · cases untoldB m D last i with
    | true =>
      simp only [if_true]
      rw [List.filter_eq_self]
      intro x hx
      rw [List.mem_singleton.1 hx]
      unfold keepB
      rw [decide_eq_true (show (i : Int) < n by omega), decide_eq_true (show (-1 : Int) < n by omega)]
      rfl
    | false => rfl
  · rw [flat_keep (fun j => decide (j < n)) _ _ (fun j _ hj => cmp_drop (by simpa using hj)), endL_keep h, endL_take]
    refine flat_congr _ fun j hj => ?_
    have hj' : j < n := List.mem_range.1 (List.mem_filter.1 hj).1
    rw [cmp_keep hi hj', cmp_take hi hj']
theorem each_drop (last : Int → Int) {i : Nat} (hi : ¬ i < n) : (eachL m D last i).filter (keepB n) = [] := by
  rw [List.filter_eq_nil_iff]
  intro x hx
  have h1 : x.1 = i := by
    unfold eachL at hx
    rcases List.mem_append.1 hx with hx | hx
    · split at hx
      · rw [List.mem_singleton.1 hx]
      · cases hx
    · obtain ⟨j, _, hx⟩ := List.mem_flatMap.1 hx
      exact (mem_cmp hx).1
  unfold keepB
  rw [h1, decide_eq_false (show ¬ (i : Int) < n by omega)]
  simp
/-- What is left of the blames. -/
theorem allBm_keep (S : List (List (Int × Int))) (h : n ≤ D.length) (hP : ∀ i, n ≤ i → i < D.length → (eAt D i).pub = false) : (allBm S D).filter (keepB n) = allBm S (D.take n) := by
  have hlen : (D.take n).length = n := by rw [List.length_take]; omega
  unfold allBm
  rw [List.filter_append, List.filter_append, List.filter_flatMap, List.filter_flatMap, hlen, wrongL_keep h]
  congr 1
  congr 1
  · exact flat_congr _ fun p _ => (part_keep S h hP p).1
  · rw [flat_keep (fun j => decide (j < n)) _ _ (fun j _ hj => each_drop _ (by simpa using hj)), endL_keep h, endL_take]
    refine flat_congr _ fun i hi => ?_
    rw [each_keep h hP _ (List.mem_range.1 (List.mem_filter.1 hi).1), last_take S h hP]
end
end Go.Proofs.YtbielnehggcaoaaDoor
/-
  Two rows of blames in their order are one; histories stay. (By the verifier; no statement.)
-/
namespace Go.Proofs.YtbielnehggcaoaaDoor
open Go.RowKit
theorem ltBm_tri {x y : Bm} (h1 : ¬ ltBm y x) (h2 : ¬ ltBm x y) : x = y := by
  obtain ⟨a, b, c⟩ := x
  obtain ⟨d, e, f⟩ := y
  unfold ltBm at h1 h2
  simp only [Prod.mk.injEq] at *
  omega
theorem sorted_one : ∀ {l1 l2 : List Bm}, l1.Perm l2 → l1.Pairwise (fun x y => ¬ ltBm y x) → l2.Pairwise (fun x y => ¬ ltBm y x) → l1 = l2
  | [], l2, h, _, _ => (List.nil_perm.1 h).symm
  | a :: l1, [], h, _, _ => absurd (List.perm_nil.1 h) (by simp)
  | a :: l1, b :: l2, h, h1, h2 => by
    have hab : a = b := by
      have ha : a ∈ b :: l2 := h.mem_iff.1 List.mem_cons_self
      have hb : b ∈ a :: l1 := h.mem_iff.2 List.mem_cons_self
      rcases List.mem_cons.1 ha with e | ha
      · exact e
      rcases List.mem_cons.1 hb with e | hb
      · exact e.symm
      exact ltBm_tri ((List.pairwise_cons.1 h1).1 b hb) ((List.pairwise_cons.1 h2).1 a ha)
    subst hab
    rw [sorted_one (List.perm_cons a |>.1 h) (List.pairwise_cons.1 h1).2 (List.pairwise_cons.1 h2).2]
theorem EsAt.still {w w' : World} {ev : Value} {D : List Ev} (h : EsAt w ev D) (ht : Turned [] w w') : EsAt w' ev D := by
  obtain ⟨a, c, e, hc⟩ := h.ex
  have hb : Below w.heap.size w w' := ht.below (Below.refl _ _) (by simp) (Nat.le_refl _)
  refine ⟨h.len, a, c, e, fun i d hd => ?_⟩
  obtain ⟨b, o, ea, hE⟩ := hc i d hd
  exact ⟨b, o, ea, hE.below hb rfl⟩
theorem PW.still {w w' : World} {v : Value} {l : List (Int × Int)} (h : PW w v l) (ht : Turned [] w w') : PW w' v l := by
  obtain ⟨a, c, e, hc⟩ := h.ex
  refine ⟨h.len, a, c, e, fun hne => ?_⟩
  obtain ⟨b, o, ea, hk⟩ := hc hne
  exact ⟨b, o, ea, fun i hi => ⟨ht.cell (hk i hi).1 (by simp), ht.cell (hk i hi).2 (by simp)⟩⟩
theorem SsAt.still {w w' : World} {sv : Value} {S : List (List (Int × Int))} (h : SsAt w sv S) (ht : Turned [] w w') : SsAt w' sv S := by
  obtain ⟨a, c, e, hc⟩ := h.ex
  refine ⟨a, c, e, fun i l hl => ?_⟩
  obtain ⟨b, o, v, ea, h1, h2⟩ := hc i l hl
  exact ⟨b, o, v, ea, ht.cell h1 (by simp), h2.still ht⟩
theorem EsAt.take {w : World} {a : Option Addr} {c : Nat} {D : List Ev} (h : EsAt w (.slice a D.length c) D) {n : Nat} (hn : n ≤ D.length) : EsAt w (.slice a n c) (D.take n) := by
  obtain ⟨a', c', e, hc⟩ := h.ex
  cases e
  have hl : (D.take n).length = n := by rw [List.length_take]; omega
  refine ⟨by rw [hl]; have := h.len; omega, a, c, by rw [hl], fun i d hd => hc i d ?_⟩
  have hi : i < n := by have := (List.getElem?_eq_some_iff.1 hd).1; omega
  rw [List.getElem?_take_of_lt hi] at hd
  exact hd
set_option maxRecDepth 100000 in
set_option maxHeartbeats 1600000 in
/-- A history that is too great, or without parts. -/
theorem cVersMany {w : World} {sa ea : Option Addr} {sl sc el ec : Nat} (h : manyB sl el = true) : Calls Tryd.prog 22 #[.slice sa sl sc, .slice ea el ec] w fun r w' => r = .returned (.tuple #[.slice none 0 0, .int .i64 201]) ∧ w' = w := by
  unfold manyB at h
  simp only [Bool.or_eq_true, decide_eq_true_eq] at h
  by_cases g1 : 1024 < el
  · have d1 : decide ((1024 : Int) < (el : Int)) = true := decide_eq_true (by omega)
    clear h g1
    go_enter Tryd.func22, Tryd.ntmps22
    go_wp2
    go_ret2
    exact ⟨rfl, rfl⟩
  have d1 : decide ((1024 : Int) < (el : Int)) = false := decide_eq_false (by omega)
  by_cases g2 : sl = 0
  · subst g2
    clear h g1
    go_enter Tryd.func22, Tryd.ntmps22
    go_wp2
    go_ret2
    exact ⟨rfl, rfl⟩
  · have d2 : ((sl : Int) == 0) = false := by simpa using g2
    have d3 : decide ((64 : Int) < (sl : Int)) = true := decide_eq_true (by omega)
    clear h g1 g2
    go_enter Tryd.func22, Tryd.ntmps22
    go_wp2
    go_ret2
    exact ⟨rfl, rfl⟩
end Go.Proofs.YtbielnehggcaoaaDoor
/-
  JudgeLess by contract, over light's. (By the verifier; no statement.)
-/
namespace Go.Proofs.YtbielnehggcaoaaDoor
open Go.RowKit
/-- What a light history gives. -/
structure LsOk (w : World) (sv : Value) (ea : Option Addr) (el ec : Nat) (S : List (List (Int × Int))) (D : List Ev) : Prop where
  dl : D.length = el
  cap : el ≤ ec
  small : el ≤ 3000
  ss : S.length ≤ 64 → SsAt w sv S
  kinds : ∀ i, i < el → ∃ b o : Nat, ea = some ⟨b, o, none⟩ ∧ b < w.heap.size ∧ w.cell? ⟨b, o + i * 13 + 3, none⟩ = some (.int .i64 (eAt D i).k)
  es : ∀ n, n ≤ 1024 → n ≤ el → EsAt w (.slice ea n ec) (D.take n)
theorem pub_no {e : Ev} (h2 : e.k ≠ 2) (h5 : e.k ≠ 5) : e.pub = false := by
  unfold Ev.pub
  rw [decide_eq_false h2, decide_eq_false h5]
  rfl
structure LX (y : World) (n : Nat) (R : List Bm) (lv i : Value) (x : World) : Prop where
  ex : ∃ k : Nat, k ≤ R.length ∧ i = .int .i64 (k : Int) ∧ BR y.heap.size x lv ((R.take k).filter (keepB n)) ∧ Turned [] y x
theorem take_keep {n k : Nat} {R : List Bm} (h : k < R.length) : (R.take (k + 1)).filter (keepB n) = (R.take k).filter (keepB n) ++ (if keepB n R[k] then [R[k]] else []) := by
  rw [List.take_add_one, List.getElem?_eq_getElem h, Option.toList_some, List.filter_append]
  congr 1
  cases hk : keepB n R[k] <;> simp [hk]
theorem filter_len {n k : Nat} {R : List Bm} : ((R.take k).filter (keepB n)).length ≤ R.length :=
  Nat.le_trans (List.length_filter_le _ _) (by rw [List.length_take]; exact Nat.min_le_right _ _)
theorem less_same {n : Nat} {S : List (List (Int × Int))} {D : List Ev} {R R2 : List Bm} (h : n ≤ D.length) (hP : ∀ i, n ≤ i → i < D.length → (eAt D i).pub = false) (h1 : R.Perm (allBm S D) ∧ R.Pairwise (fun x y => ¬ ltBm y x)) (h2 : R2.Perm (allBm S (D.take n)) ∧ R2.Pairwise (fun x y => ¬ ltBm y x)) : R2 = R.filter (keepB n) := by
  refine sorted_one ?_ h2.2 (h1.2.sublist List.filter_sublist)
  rw [← allBm_keep S h hP] at h2
  exact h2.1.trans (h1.1.filter (keepB n)).symm
theorem cell_lt {w : World} {b o : Nat} {v : Value} (h : w.cell? ⟨b, o, none⟩ = some v) : b < w.heap.size := by
  apply Classical.byContradiction
  intro hn
  rw [World.cell?] at h
  have : w.heap[b]? = none := Array.getElem?_eq_none (by omega)
  simp [this] at h
theorem allBm_len {S : List (List (Int × Int))} {D : List Ev} (hD : D.length ≤ 1024) (h64 : S.length ≤ 64) : (allBm S D).length ≤ 1000000000 := by
  have h := sE_len (S := S) hD h64 (endL S.length D D.length).length
  have e : (sE S D (endL S.length D D.length).length).bl = (wrongL S.length D D.length ++ (List.range S.length).flatMap (fun q => (partT S D q).1)) ++ ((endL S.length D D.length).take (endL S.length D D.length).length).flatMap (eachL S.length D (lastF S D)) := rfl
  rw [e, List.take_length, List.append_assoc] at h
  unfold allBm
  omega
theorem many_no {m n : Nat} (h : manyB m n = false) : n ≤ 1024 ∧ m ≤ 64 := by
  unfold manyB at h
  simp only [Bool.or_eq_false_iff, decide_eq_false_iff_not] at h
  omega
theorem keep_no1 {n : Nat} {x : Bm} (h : ¬ x.1 < (n : Int)) : keepB n x = false := by
  unfold keepB
  rw [decide_eq_false h]
  rfl
theorem keep_no2 {n : Nat} {x : Bm} (h : ¬ x.2.1 < (n : Int)) : keepB n x = false := by
  unfold keepB
  rw [decide_eq_false h, Bool.and_false]
theorem keep_yes {n : Nat} {x : Bm} (h : x.1 < (n : Int)) (h2 : x.2.1 < (n : Int)) : keepB n x = true := by
  unfold keepB
  rw [decide_eq_true h, decide_eq_true h2]
  rfl
theorem many_less {m k n : Nat} (h : manyB m k = false) (hn : n ≤ k) : manyB m n = false := by
  unfold manyB at *
  simp only [Bool.or_eq_false_iff, decide_eq_false_iff_not] at *
  omega
set_option maxRecDepth 100000 in
set_option maxHeartbeats 12800000 in
theorem cJudgeLess {w : World} {sv : Value} {ea : Option Addr} {el ec : Nat} {nv : Int} {S : List (List (Int × Int))} {D : List Ev} (hsv : ∃ sa sc, sv = .slice sa S.length sc) (hl : ∀ x, Turned [] w x → Calls Tryd.prog 18 #[sv, .slice ea el ec] x fun r y => ∃ q, r = .returned (.bool q) ∧ (q = true → LsOk w sv ea el ec S D) ∧ Turned [] x y) (hT : Tab w) :
    Calls Tryd.prog 6 #[sv, .slice ea el ec, .int .i64 nv] w fun r w' => r = .returned (.bool true) ∧ Turned [] w w' := by
  have HT : Hid (Tab w) := hT
  have HL : Hid _ := hl
  obtain ⟨sa, sc, rfl⟩ := hsv
  clear hT hl
  go_enter Tryd.func6, Tryd.ntmps6
  go_wp2_with (fail)
  refine (cKnown HT.out).mono ?_
  rintro r x1 ⟨rfl, t1⟩
  have H1 : Hid (Turned [] w x1) := t1
  clear t1
  go_wp2_with (fail)
  refine (HL.out x1 H1.out).mono ?_
  rintro r x2 ⟨q, rfl, hq, t2⟩
  have H2 : Hid (Turned [] w x2) := H1.out.trans t2
  clear t2 H1 HL
  cases q with
  | false =>
    go_wp2
    go_ret
    exact ⟨rfl, H2.out⟩
  | true =>
    have HO : Hid (LsOk w (.slice sa S.length sc) ea el ec S D) := hq rfl
    clear hq
    by_cases g1 : nv < 0
    · have d1 : decide (nv < 0) = true := decide_eq_true g1
      go_wp2
      go_ret
      exact ⟨rfl, H2.out⟩
    have d1 : decide (nv < 0) = false := decide_eq_false g1
    by_cases g2 : (el : Int) < nv
    · have d2 : decide ((el : Int) < nv) = true := decide_eq_true g2
      go_wp2
      go_ret
      exact ⟨rfl, H2.out⟩
    have d2 : decide ((el : Int) < nv) = false := decide_eq_false g2
    obtain ⟨n, rfl⟩ : ∃ n : Nat, nv = n := ⟨nv.toNat, by omega⟩
    have hn : n ≤ el := by omega
    have hsm : el ≤ 3000 := HO.out.small
    have hcap : n ≤ ec := Nat.le_trans hn HO.out.cap
    clear g1 g2
    go_wp2
    go_loopw [7] (fun i wx => ∃ j : Nat, n ≤ j ∧ j ≤ el ∧ i = .int .i64 j ∧ Hid (∀ i, n ≤ i → i < j → (eAt D i).pub = false) ∧ Hid (Turned [] w wx)) (fun i _ => el - (intOf i).toNat)
    case atStart => exact ⟨n, Nat.le_refl _, hn, rfl, fun i h1 h2 => by omega, H2⟩
    case round =>
      obtain ⟨j, hnj, hj, rfl, HP, HU⟩ := hrel
      by_cases hlt : j < el
      · obtain ⟨b, o, rfl, hb, hc⟩ := HO.out.kinds j hlt
        have kl := Nat.lt_of_lt_of_le hb HU.out.size
        have kc := HU.out.cell hc (by simp)
        clear hb hc
        generalize hk : (eAt D j).k = kk at kc
        have HK : Hid ((eAt D j).k = kk) := hk
        clear hk
        by_cases e2 : kk = 2
        · subst e2
          go_wp2
          go_ret
          exact ⟨rfl, HU.out⟩
        · have d3 : (kk == 2) = false := by simpa using e2
          by_cases e5 : kk = 5
          · subst e5
            go_wp2
            go_ret
            exact ⟨rfl, HU.out⟩
          · have d4 : (kk == 5) = false := by simpa using e5
            have HP2 : Hid (∀ i, n ≤ i → i < j + 1 → (eAt D i).pub = false) := fun i h1 h2 => by
              by_cases e : i < j
              · exact HP.out i h1 e
              · rw [show i = j by omega]
                exact pub_no (by rw [HK.out]; exact e2) (by rw [HK.out]; exact e5)
            clear e2 e5
            go_wp2
            go_roundw
            case rel => exact ⟨j + 1, by omega, by omega, by go_num, HP2, HU⟩
            case measure => simp [intOf]; omega
      · obtain rfl : j = el := by omega
        clear hlt
        by_cases g : manyB S.length j = true
        · go_wp2_with (fail)
          refine (cVersMany g).mono ?_
          rintro r y1 ⟨rfl, hy⟩
          rw [hy]
          clear hy y1
          by_cases g' : manyB S.length n = true
          · go_wp2_with (fail)
            refine (cVersMany g').mono ?_
            rintro r y1 ⟨rfl, hy⟩
            rw [hy]
            clear hy y1
            go_wp2
            go_ret
            exact ⟨rfl, HU.out⟩
          · have g64 : n ≤ 1024 ∧ S.length ≤ 64 := many_no (by simpa using g')
            go_wp2_with (fail)
            refine (cVersions ((HO.out.es n g64.1 hn).still HU.out) ((HO.out.ss g64.2).still HU.out) (by omega)).mono ?_
            intro r y2 hv
            have HU2 : Hid (Turned [] w y2) := HU.out.trans hv.tu
            obtain ⟨va, vb, rfl⟩ : ∃ va vb, r = .returned (.tuple #[va, .int .i64 vb]) := by
              rcases hv.ans with ⟨_, h⟩ | ⟨_, v, _, h, _⟩
              · exact ⟨_, _, h⟩
              · exact ⟨_, _, h⟩
            clear hv
            go_wp2
            go_ret
            exact ⟨rfl, HU2.out⟩
        · have gm : manyB S.length j = false := by simpa using g
          have g64 : j ≤ 1024 ∧ S.length ≤ 64 := many_no gm
          have HSs : Hid (SsAt w (.slice sa S.length sc) S) := HO.out.ss g64.2
          clear g
          have hDe : D.take j = D := List.take_of_length_le (by rw [HO.out.dl]; exact Nat.le_refl _)
          have HE : Hid (EsAt w (.slice ea j ec) D) := by
            have h := HO.out.es j (by omega) (Nat.le_refl _)
            rw [hDe] at h
            exact h
          have HDl : Hid (D.length = j) := HO.out.dl
          clear hDe
          go_wp2_with (fail)
          refine (cVersions (HE.out.still HU.out) (HSs.out.still HU.out) (by omega)).mono ?_
          intro r y1 hv1
          have HU1 : Hid (Turned [] w y1) := HU.out.trans hv1.tu
          rcases hv1.ans with ⟨m1, rfl⟩ | ⟨m1, v1, R, rfl, pR, sR, bR⟩
          · clear hv1 m1
            go_wp2_with (fail)
            refine (cVersions ((HO.out.es n (by omega) hn).still HU1.out) (HSs.out.still HU1.out) (by omega)).mono ?_
            intro r y2 hv
            have HU2 : Hid (Turned [] w y2) := HU1.out.trans hv.tu
            obtain ⟨va, vb, rfl⟩ : ∃ va vb, r = .returned (.tuple #[va, .int .i64 vb]) := by
              rcases hv.ans with ⟨_, h⟩ | ⟨_, v, _, h, _⟩
              · exact ⟨_, _, h⟩
              · exact ⟨_, _, h⟩
            clear hv
            go_wp2
            go_ret
            exact ⟨rfl, HU2.out⟩
          · have HR : Hid (R.Perm (allBm S D) ∧ R.Pairwise (fun x y => ¬ ltBm y x)) := ⟨pR, sR⟩
            have HB1 : Hid (BW y1 v1 R) := bR.view
            have HMn : Hid (D.length ≤ 1024 ∧ S.length ≤ 64) := many_no m1
            have HM : Hid (manyB S.length (D.take n).length = false) := by
              refine many_less m1 ?_
              rw [List.length_take]
              omega
            clear hv1 m1 pR sR bR
            go_wp2_with (fail)
            refine (cVersions ((HO.out.es n (by omega) hn).still HU1.out) (HSs.out.still HU1.out) (by omega)).mono ?_
            intro r y2 hv
            have HU2 : Hid (Turned [] w y2) := HU1.out.trans hv.tu
            rcases hv.ans with ⟨m2, -⟩ | ⟨-, v2, R2, rfl, p2, s2, b2⟩
            · rw [HM.out] at m2
              cases m2
            have HEq : Hid (R2 = R.filter (keepB n)) := less_same (by rw [HDl.out]; exact hn) (fun i h1 h2 => HP.out i h1 (by rw [HDl.out] at h2; exact h2)) HR.out ⟨p2, s2⟩
            have hRl : R.length ≤ 1000000000 := by
              rw [HR.out.1.length_eq]
              exact allBm_len HMn.out.1 HMn.out.2
            have HB2 : Hid (BW y2 v1 R) := HB1.out.still hv.tu
            have HB3 : Hid (BW y2 v2 R2) := b2.view
            clear hv p2 s2 b2 HB1 HR HM HP HE HO HU HU1 H2
            obtain ⟨a1, c1, rfl, hc1⟩ := HB2.out.ex
            have HC : Hid _ := hc1
            obtain ⟨a2, c2, rfl, -⟩ := HB3.out.ex
            clear hc1 HB2
            go_wp2
            go_loopw [12, 13] (fun lv i wx => LX y2 n R lv i wx) (fun _ i _ => R.length - (intOf i).toNat)
            case atStart => exact ⟨0, Nat.zero_le _, rfl, BR.nil _ _, Turned.refl _ _⟩
            case round =>
              obtain ⟨k, hk, rfl, hB, hU⟩ := hrel.ex
              have HL : Hid _ := hB
              have HV : Hid _ := hU
              clear hrel hB hU
              by_cases hkl : k < R.length
              · obtain ⟨b, o, rfl, q0, q1, q2⟩ := HC.out k hkl
                have k0 := HV.out.cell q0 (by simp)
                have k1 := HV.out.cell q1 (by simp)
                have k2 := HV.out.cell q2 (by simp)
                have kl := cell_lt k0
                clear q0 q1 q2
                generalize hx : R[k] = x at k0 k1 k2
                obtain ⟨z1, z2, z3⟩ := x
                have HX : Hid (R[k] = (z1, z2, z3)) := hx
                clear hx
                by_cases e1 : z1 < (n : Int)
                · have d3 : decide (z1 < (n : Int)) = true := decide_eq_true e1
                  by_cases e2 : z2 < (n : Int)
                  · have d4 : decide (z2 < (n : Int)) = true := decide_eq_true e2
                    have HKp : Hid ((R.take (k + 1)).filter (keepB n) = (R.take k).filter (keepB n) ++ [(z1, z2, z3)]) := by rw [Hid, take_keep hkl, HX.out, keep_yes e1 e2]; rfl
                    clear e1 e2
                    go_wp2_with (at_builtin; refine wpList_apBm (B := y2.heap.size) (v := u12) (R := (R.take k).filter (keepB n)) (r := (z1, z2, z3)) (g := wr.heap.size) rfl _ _ rfl rfl (HL.out.still ((Turned.refl [] _).alloc _)) rfl (blk_new _ _) (Nat.le_trans filter_len hRl) (by have := HV.out.size; simp; omega) ?_; intro v3 w3 hr3 ht3 ho3; have HR3 : Hid _ := hr3; have HT3 : Hid (Turned [] y2 w3) := (HV.out.alloc _).inner ht3 (fun z hz => .inr (HL.out.fresh (by simpa using hz)).1); clear hr3 ht3 ho3)
                    go_roundw
                    case rel => exact ⟨k + 1, by omega, by go_num, by rw [HKp.out]; exact HR3.out, HT3.out⟩
                    case measure => simp [intOf]; omega
                  · have d4 : decide (z2 < (n : Int)) = false := decide_eq_false e2
                    have HKp : Hid ((R.take (k + 1)).filter (keepB n) = (R.take k).filter (keepB n)) := by rw [Hid, take_keep hkl, HX.out, keep_no2 e2]; exact List.append_nil _
                    clear e1 e2
                    go_wp2
                    go_roundw
                    case rel => exact ⟨k + 1, by omega, by go_num, by rw [HKp.out]; exact HL.out, HV.out⟩
                    case measure => simp [intOf]; omega
                · have d3 : decide (z1 < (n : Int)) = false := decide_eq_false e1
                  have HKp : Hid ((R.take (k + 1)).filter (keepB n) = (R.take k).filter (keepB n)) := by rw [Hid, take_keep hkl, HX.out, keep_no1 e1]; exact List.append_nil _
                  clear e1
                  go_wp2
                  go_roundw
                  case rel => exact ⟨k + 1, by omega, by go_num, by rw [HKp.out]; exact HL.out, HV.out⟩
                  case measure => simp [intOf]; omega
              · obtain rfl : k = R.length := by omega
                have HLw : Hid (BW wr u12 (R.filter (keepB n))) := by
                  have h := HL.out.view
                  rw [List.take_length] at h
                  exact h
                have HB4 : Hid (BW wr _ R2) := HB3.out.still HV.out
                have hR2 : R2.length ≤ 1000000000 := by
                  rw [HEq.out]
                  exact Nat.le_trans (List.length_filter_le _ _) hRl
                go_wp2_with (fail)
                refine (cSameB HB4.out HLw.out hR2).mono ?_
                rintro r z ⟨rfl, nq, rfl⟩
                rw [decide_eq_true HEq.out]
                go_wp2
                go_ret
                exact ⟨rfl, (HU2.out.trans HV.out).drewN _⟩
end Go.Proofs.YtbielnehggcaoaaDoor
/-
  light by contract. (By the verifier; no statement.)
-/
namespace Go.Proofs.YtbielnehggcaoaaDoor
open Go.RowKit
/-- The lengths of a history, as it lies in memory. -/
structure LtAt (w : World) (sa : Option Addr) (sl : Nat) (ea : Option Addr) (el : Nat) (ls ns ps : Nat → Nat) : Prop where
  len : sl ≤ 140737488355328 ∧ el ≤ 140737488355328
  s : ∀ i, i < sl → ∃ (b o : Nat) (a : Option Addr) (c : Nat), sa = some ⟨b, o, none⟩ ∧ b < w.heap.size ∧ w.cell? ⟨b, o + i, none⟩ = some (.slice a (ls i) c) ∧ ls i ≤ 140737488355328
  e : ∀ i, i < el → ∃ (b o : Nat) (a : Option Addr) (c : Nat) (a' : Option Addr) (c' : Nat), ea = some ⟨b, o, none⟩ ∧ b < w.heap.size ∧ w.cell? ⟨b, o + i * 13 + 11, none⟩ = some (.slice a (ns i) c) ∧ w.cell? ⟨b, o + i * 13 + 12, none⟩ = some (.slice a' (ps i) c') ∧ ns i ≤ 140737488355328 ∧ ps i ≤ 140737488355328
structure LA (w : World) (sl el : Nat) (ls : Nat → Nat) (nv i : Value) (x : World) : Prop where
  ex : ∃ c k : Nat, nv = .int .i64 (c : Int) ∧ i = .int .i64 (k : Int) ∧ el + sl ≤ c ∧ c ≤ 140737488355328 * (k + 2) ∧ (∀ i, i < k → ls i ≤ c) ∧ k ≤ sl ∧ k ≤ 1000 ∧ Turned [] w x
structure LB (w : World) (sl el : Nat) (ls ns ps : Nat → Nat) (nv i : Value) (x : World) : Prop where
  ex : ∃ c k : Nat, nv = .int .i64 (c : Int) ∧ i = .int .i64 (k : Int) ∧ el + sl ≤ c ∧ c ≤ 140737488355328 * (1002 + 2 * k) ∧ (∀ i, i < 1000 → i < sl → ls i ≤ c) ∧ (∀ i, i < k → ns i ≤ c ∧ ps i ≤ c) ∧ k ≤ el ∧ k ≤ 2000 ∧ Turned [] w x
set_option maxRecDepth 100000 in
set_option maxHeartbeats 6400000 in
theorem cLight {w : World} {sa ea : Option Addr} {sl sc el ec : Nat} {ls ns ps : Nat → Nat} (h : LtAt w sa sl ea el ls ns ps) : Calls Tryd.prog 18 #[.slice sa sl sc, .slice ea el ec] w fun r w' => ∃ q, r = .returned (.bool q) ∧ (q = true → el + sl ≤ 3000 ∧ (∀ i, i < 1000 → i < sl → ls i ≤ 3000) ∧ ∀ i, i < 2000 → i < el → ns i ≤ 3000 ∧ ps i ≤ 3000) ∧ Turned [] w w' := by
  have HH : Hid _ := h
  have hl1 := h.len.1
  have hl2 := h.len.2
  clear h
  go_enter Tryd.func18, Tryd.ntmps18
  go_wp2
  go_loopw [5, 6] (fun nv i wx => LA w sl el ls nv i wx) (fun _ i _ => sl - (intOf i).toNat)
  case atStart => exact ⟨el + sl, 0, by go_num, rfl, Nat.le_refl _, by omega, fun i hi => by omega, Nat.zero_le _, by omega, Turned.refl _ _⟩
  case round =>
    obtain ⟨c, k, rfl, rfl, hc1, hc2, hk1, hk2, hk3, hU⟩ := hrel.ex
    have HU : Hid _ := hU
    have HK : Hid _ := hk1
    clear hrel hU hk1
    by_cases g : k < sl ∧ k < 1000
    · obtain ⟨g1, g2⟩ := g
      obtain ⟨b, o, a, c3, rfl, hb, hc, hle⟩ := HH.out.s k g1
      have kb := Nat.lt_of_lt_of_le hb HU.out.size
      have kc := HU.out.cell hc (by simp)
      clear hb hc
      have d2 : decide ((k : Int) < 1000) = true := decide_eq_true (by omega)
      go_wp2
      go_roundw
      case rel => exact ⟨c + ls k, k + 1, by go_num, by go_num, by omega, by omega, fun i hi => by
        by_cases e : i < k
        · have := HK.out i e; omega
        · rw [show i = k by omega]; omega, by omega, by omega, HU.out⟩
      case measure => simp [intOf]; omega
    · have HS : Hid (∀ i, i < 1000 → i < sl → ls i ≤ c) := fun i h1 h2 => HK.out i (by omega)
      by_cases e : k < sl
      · have d2 : decide ((k : Int) < 1000) = false := decide_eq_false (by omega)
        clear HK
        go_wp2
        go_loopw [5, 7] (fun nv i wx => LB w sl el ls ns ps nv i wx) (fun _ i _ => el - (intOf i).toNat)
        case atStart => exact ⟨c, 0, rfl, rfl, hc1, by omega, HS.out, fun i hi => by omega, Nat.zero_le _, by omega, HU.out⟩
        case round =>
          obtain ⟨c', k', rfl, rfl, he1, he2, hs2, hn2, hk4, hk5, hU2⟩ := hrel.ex
          have HU2 : Hid _ := hU2
          have HS2 : Hid (∀ i, i < 1000 → i < sl → ls i ≤ c') := hs2
          have HN2 : Hid (∀ i, i < k' → ns i ≤ c' ∧ ps i ≤ c') := hn2
          clear hrel hU2 hs2 hn2 HS HU hc1 hc2
          by_cases g3 : k' < el
          · by_cases g4 : k' < 2000
            · obtain ⟨b, o, a, c3, a', c4, rfl, hb, hc, hc', hle, hle'⟩ := HH.out.e k' g3
              have kb := Nat.lt_of_lt_of_le hb HU2.out.size
              have kc := HU2.out.cell hc (by simp)
              have kc' := HU2.out.cell hc' (by simp)
              clear hb hc hc'
              have d2 : decide ((k' : Int) < 2000) = true := decide_eq_true (by omega)
              go_wp2
              go_quiet (fail)
              go_wp2
              go_roundw
              case rel => exact ⟨c' + ns k' + ps k', k' + 1, by go_num, by go_num, by omega, by omega, fun i h1 h2 => by have := HS2.out i h1 h2; omega, fun i hi => by
                by_cases e : i < k'
                · have := HN2.out i e; omega
                · rw [show i = k' by omega]; omega, by omega, by omega, HU2.out.drewN _⟩
              case measure => simp [intOf]; omega
            · have d2 : decide ((k' : Int) < 2000) = false := decide_eq_false (by omega)
              have HA : Hid (∀ i, i < 2000 → i < el → ns i ≤ c' ∧ ps i ≤ c') := fun i h1 h2 => HN2.out i (by omega)
              go_wp2
              go_ret
              exact ⟨_, rfl, fun hq => by
                have h3 := of_decide_eq_true hq
                exact ⟨by omega, fun i h1 h2 => by have := HS2.out i h1 h2; omega, fun i h1 h2 => by have := HA.out i h1 h2; omega⟩, HU2.out⟩
          · have HA : Hid (∀ i, i < 2000 → i < el → ns i ≤ c' ∧ ps i ≤ c') := fun i h1 h2 => HN2.out i (by omega)
            go_wp2
            go_ret
            exact ⟨_, rfl, fun hq => by
              have h3 := of_decide_eq_true hq
              exact ⟨by omega, fun i h1 h2 => by have := HS2.out i h1 h2; omega, fun i h1 h2 => by have := HA.out i h1 h2; omega⟩, HU2.out⟩
      · clear HK
        go_wp2
        go_loopw [5, 7] (fun nv i wx => LB w sl el ls ns ps nv i wx) (fun _ i _ => el - (intOf i).toNat)
        case atStart => exact ⟨c, 0, rfl, rfl, hc1, by omega, HS.out, fun i hi => by omega, Nat.zero_le _, by omega, HU.out⟩
        case round =>
          obtain ⟨c', k', rfl, rfl, he1, he2, hs2, hn2, hk4, hk5, hU2⟩ := hrel.ex
          have HU2 : Hid _ := hU2
          have HS2 : Hid (∀ i, i < 1000 → i < sl → ls i ≤ c') := hs2
          have HN2 : Hid (∀ i, i < k' → ns i ≤ c' ∧ ps i ≤ c') := hn2
          clear hrel hU2 hs2 hn2 HS HU hc1 hc2
          by_cases g3 : k' < el
          · by_cases g4 : k' < 2000
            · obtain ⟨b, o, a, c3, a', c4, rfl, hb, hc, hc', hle, hle'⟩ := HH.out.e k' g3
              have kb := Nat.lt_of_lt_of_le hb HU2.out.size
              have kc := HU2.out.cell hc (by simp)
              have kc' := HU2.out.cell hc' (by simp)
              clear hb hc hc'
              have d2 : decide ((k' : Int) < 2000) = true := decide_eq_true (by omega)
              go_wp2
              go_quiet (fail)
              go_wp2
              go_roundw
              case rel => exact ⟨c' + ns k' + ps k', k' + 1, by go_num, by go_num, by omega, by omega, fun i h1 h2 => by have := HS2.out i h1 h2; omega, fun i hi => by
                by_cases e : i < k'
                · have := HN2.out i e; omega
                · rw [show i = k' by omega]; omega, by omega, by omega, HU2.out.drewN _⟩
              case measure => simp [intOf]; omega
            · have d2 : decide ((k' : Int) < 2000) = false := decide_eq_false (by omega)
              have HA : Hid (∀ i, i < 2000 → i < el → ns i ≤ c' ∧ ps i ≤ c') := fun i h1 h2 => HN2.out i (by omega)
              go_wp2
              go_ret
              exact ⟨_, rfl, fun hq => by
                have h3 := of_decide_eq_true hq
                exact ⟨by omega, fun i h1 h2 => by have := HS2.out i h1 h2; omega, fun i h1 h2 => by have := HA.out i h1 h2; omega⟩, HU2.out⟩
          · have HA : Hid (∀ i, i < 2000 → i < el → ns i ≤ c' ∧ ps i ≤ c') := fun i h1 h2 => HN2.out i (by omega)
            go_wp2
            go_ret
            exact ⟨_, rfl, fun hq => by
              have h3 := of_decide_eq_true hq
              exact ⟨by omega, fun i h1 h2 => by have := HS2.out i h1 h2; omega, fun i h1 h2 => by have := HA.out i h1 h2; omega⟩, HU2.out⟩
end Go.Proofs.YtbielnehggcaoaaDoor

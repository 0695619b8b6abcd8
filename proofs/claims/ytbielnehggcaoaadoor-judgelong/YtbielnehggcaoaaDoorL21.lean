/-
  A history without its last events, none of which publishes. (By the verifier; no statement, no memory.)
-/
import Derived.Test.YtbielnehggcaoaaDoorL20
import Derived.Test.YtbielnehggcaoaaDoorL15
import Derived.Test.YtbielnehggcaoaaDoorL07
namespace Go.Proofs.YtbielnehggcaoaaDoor
open Go.RowKit
def keepB (n : Nat) (b : Bm) : Bool := decide (b.1 < (n : Int)) && decide (b.2.1 < (n : Int))
theorem range_keep {n L : Nat} (h : n ≤ L) (p : Nat → Bool) : (List.range L).filter (fun i => p i && decide (i < n)) = (List.range n).filter p := by
  obtain ⟨k, rfl⟩ : ∃ k, L = n + k := ⟨L - n, by omega⟩
  rw [List.range_add, List.filter_append]
  have h2 : ((List.range k).map (n + ·)).filter (fun i => p i && decide (i < n)) = [] := by
    rw [List.filter_eq_nil_iff]
    intro a ha
    obtain ⟨b, _, rfl⟩ := List.mem_map.1 ha
    simp
  rw [h2, List.append_nil]
  refine List.filter_congr fun i hi => ?_
  rw [decide_eq_true (List.mem_range.1 hi), Bool.and_true]
section
variable {m : Int} {D : List Ev} {n : Nat}
theorem eAt_take {i : Nat} (h : i < n) : eAt (D.take n) i = eAt D i := by
  unfold eAt
  rw [List.getD_eq_getElem?_getD, List.getD_eq_getElem?_getD, List.getElem?_take_of_lt h]
theorem endL_take (m : Int) (D : List Ev) (n : Nat) : endL m (D.take n) n = endL m D n := by
  unfold endL
  exact List.filter_congr fun i hi => by rw [eAt_take (List.mem_range.1 hi)]
theorem endL_keep (h : n ≤ D.length) : (endL m D D.length).filter (fun i => decide (i < n)) = endL m D n := by
  unfold endL
  rw [List.filter_filter]
  rw [← range_keep h]
  exact List.filter_congr fun i _ => by rw [Bool.and_comm]
theorem pubL_take (h : n ≤ D.length) (hP : ∀ i, n ≤ i → i < D.length → (eAt D i).pub = false) (p u : Int) : pubL m D D.length p u = pubL m (D.take n) n p u := by
  have h1 : pubL m D D.length p u = ((endL m D D.length).filter (fun i => decide (i < n))).filter fun i => (eAt D i).pub && decide ((eAt D i).p = p) && decide ((eAt D i).num = u) := by
    unfold pubL
    rw [List.filter_filter]
    refine List.filter_congr fun i hi => ?_
    by_cases hn : i < n
    · rw [decide_eq_true hn, Bool.and_true]
    · have hl : i < D.length := List.mem_range.1 (List.mem_filter.1 hi).1
      rw [hP i (by omega) hl]
      simp
  rw [h1, endL_keep h]
  unfold pubL
  rw [endL_take]
  refine List.filter_congr fun i hi => ?_
  rw [eAt_take (List.mem_range.1 (List.mem_filter.1 hi).1)]
theorem busyB_take (h : n ≤ D.length) (hP : ∀ i, n ≤ i → i < D.length → (eAt D i).pub = false) (p : Int) : busyB m D D.length p = busyB m (D.take n) n p := by
  unfold busyB
  rw [Bool.eq_iff_iff, List.any_eq_true, List.any_eq_true]
  constructor
  · rintro ⟨i, hi, hb⟩
    have hl := List.mem_range.1 hi
    by_cases hn : i < n
    · exact ⟨i, List.mem_range.2 hn, by rw [eAt_take hn]; exact hb⟩
    · rw [hP i (by omega) hl] at hb
      simp at hb
  · rintro ⟨i, hi, hb⟩
    have hn := List.mem_range.1 hi
    rw [eAt_take hn] at hb
    exact ⟨i, List.mem_range.2 (by omega), hb⟩
theorem wrongL_keep (h : n ≤ D.length) : (wrongL m D D.length).filter (keepB n) = wrongL m (D.take n) n := by
  unfold wrongL
  rw [List.filter_map, List.filter_filter]
  have : (List.range D.length).filter (fun a => (keepB n ∘ fun i : Nat => ((i : Int), (-1 : Int), (1 : Int))) a && !(eAt D a).good m) = (List.range n).filter fun i => !(eAt (D.take n) i).good m := by
    rw [← range_keep h]
    refine List.filter_congr fun i _ => ?_
    simp only [Function.comp, keepB]
    by_cases hn : i < n
    · rw [eAt_take hn, decide_eq_true (show (i : Int) < n by omega), decide_eq_true (show (-1 : Int) < n by omega), decide_eq_true hn]
      simp
    · rw [decide_eq_false (show ¬ (i : Int) < n by omega), decide_eq_false hn]
      simp
  rw [this]
theorem heldB_take (p u : Int) (f : Hold) {i : Nat} (h : i < n) : heldB (D.take n) p u f i = heldB D p u f i := by
  unfold heldB
  rw [eAt_take h]
theorem heldL_keep (h : n ≤ D.length) (p u : Int) (f : Hold) : (heldL D (endL m D D.length) p u f).filter (keepB n) = heldL (D.take n) (endL m (D.take n) n) p u f := by
  unfold heldL
  rw [List.filter_map, List.filter_filter]
  congr 1
  rw [endL_take, ← endL_keep h, List.filter_filter]
  refine List.filter_congr fun i _ => ?_
  simp only [Function.comp, keepB]
  by_cases hn : i < n
  · rw [heldB_take p u f hn, decide_eq_true (show (i : Int) < n by omega), decide_eq_true (show (-1 : Int) < n by omega), decide_eq_true hn]
    simp
  · rw [decide_eq_false (show ¬ (i : Int) < n by omega), decide_eq_false hn]
    simp
theorem times_take (h : n ≤ D.length) (hP : ∀ i, n ≤ i → i < D.length → (eAt D i).pub = false) (p u : Int) : timesN m D D.length p u = timesN m (D.take n) n p u := by
  unfold timesN
  rw [pubL_take h hP]
theorem place_take (h : n ≤ D.length) (hP : ∀ i, n ≤ i → i < D.length → (eAt D i).pub = false) (p u : Int) : placeN m D D.length p u = placeN m (D.take n) n p u := by
  unfold placeN
  rw [pubL_take h hP]
theorem tell_keep (h : n ≤ D.length) (hP : ∀ i, n ≤ i → i < D.length → (eAt D i).pub = false) (p : Int) : ∀ (g' g u : Nat) (f : Hold), g' + u = n + 1 → D.length + 1 ≤ g + u → 1 ≤ u → (∀ j : Nat, 1 ≤ j → j < u → timesN m D D.length p ((j : Int) + 1) = 1) →
    (tellL m D p g u f).1.filter (keepB n) = (tellL m (D.take n) p g' u f).1 ∧ (tellL m D p g u f).2 = (tellL m (D.take n) p g' u f).2
  | 0, g, u, f, h1, h2, h3, h4 => by
    have hlen : (D.take n).length = n := by rw [List.length_take]; omega
    have hno : ¬ timesN m D D.length p ((u : Int) + 1) = 1 := fun ht => by
      have := chain_bound (m := m) (D := D.take n) (n := n) (p := p) (k := u) (fun j j1 j2 => by
        rw [← times_take h hP]
        by_cases e : j < u
        · exact h4 j j1 e
        · rw [show j = u by omega]; exact ht)
      omega
    have e1 : tellL m D p g u f = (heldL D (endL m D D.length) p u f, u) := by
      cases g with
      | zero => rfl
      | succ g => unfold tellL; rw [if_neg hno]
    rw [e1]
    unfold tellL
    rw [hlen]
    exact ⟨heldL_keep h p u f, rfl⟩
  | g' + 1, 0, u, f, h1, h2, h3, h4 => by omega
  | g' + 1, g + 1, u, f, h1, h2, h3, h4 => by
    have hlen : (D.take n).length = n := by rw [List.length_take]; omega
    unfold tellL
    rw [hlen, ← times_take h hP, ← place_take h hP]
    by_cases ht : timesN m D D.length p ((u : Int) + 1) = 1
    · rw [if_pos ht, if_pos ht]
      have hlt : placeN m D D.length p ((u : Int) + 1) < n := by
        rw [place_take h hP]
        exact place_lt (by rw [← times_take h hP, ht]; decide)
      rw [eAt_take hlt]
      obtain ⟨i1, i2⟩ := tell_keep h hP p g' g (u + 1) (f.chg (eAt D (placeN m D D.length p ((u : Int) + 1)))) (by omega) (by omega) (by omega) (fun j j1 j2 => by
        by_cases e : j < u
        · exact h4 j j1 e
        · rw [show j = u by omega]; exact ht)
      refine ⟨?_, i2⟩
      rw [List.filter_append, heldL_keep h, i1]
    · rw [if_neg ht, if_neg ht]
      exact ⟨heldL_keep h p u f, rfl⟩
theorem part_keep (S : List (List (Int × Int))) (h : n ≤ D.length) (hP : ∀ i, n ≤ i → i < D.length → (eAt D i).pub = false) (p : Nat) : (partT S D p).1.filter (keepB n) = (partT S (D.take n) p).1 ∧ (partT S D p).2 = (partT S (D.take n) p).2 := by
  have hlen : (D.take n).length = n := by rw [List.length_take]; omega
  unfold partT
  rw [hlen]
  exact tell_keep h hP p n D.length 1 _ rfl (by omega) (by omega) (fun j j1 j2 => by omega)
theorem last_take (S : List (List (Int × Int))) (h : n ≤ D.length) (hP : ∀ i, n ≤ i → i < D.length → (eAt D i).pub = false) : lastF S D = lastF S (D.take n) := by
  funext p
  unfold lastF
  rw [(part_keep S h hP p.toNat).2]
theorem mem_cmp {i j : Nat} {x : Bm} (hx : x ∈ cmpL D i j) : x.1 = i ∧ x.2.1 = j := by
  unfold cmpL at hx
  simp only [List.mem_append] at hx
  rcases hx with hx | hx | hx | hx <;> (split at hx <;> simp at hx <;> rw [hx] <;> exact ⟨rfl, rfl⟩)
theorem cmp_take {i j : Nat} (hi : i < n) (hj : j < n) : cmpL (D.take n) i j = cmpL D i j := by
  unfold cmpL
  rw [eAt_take hi, eAt_take hj]
theorem cmp_keep {i j : Nat} (hi : i < n) (hj : j < n) : (cmpL D i j).filter (keepB n) = cmpL D i j := by
  rw [List.filter_eq_self]
  intro x hx
  obtain ⟨h1, h2⟩ := mem_cmp hx
  unfold keepB
  rw [h1, h2, decide_eq_true (by omega), decide_eq_true (by omega)]
  rfl
theorem cmp_drop {i j : Nat} (hj : ¬ j < n) : (cmpL D i j).filter (keepB n) = [] := by
  rw [List.filter_eq_nil_iff]
  intro x hx
  obtain ⟨h1, h2⟩ := mem_cmp hx
  unfold keepB
  rw [h2, decide_eq_false (show ¬ (j : Int) < n by omega)]
  simp
theorem flat_keep {α β : Type} (q : α → Bool) (F : α → List β) : ∀ l : List α, (∀ i, i ∈ l → q i = false → F i = []) → l.flatMap F = (l.filter q).flatMap F
  | [], _ => rfl
  | a :: l, h => by
    have ih := flat_keep q F l fun i hi => h i (List.mem_cons_of_mem _ hi)
    rw [List.flatMap_cons, ih]
    cases hq : q a with
    | true => rw [List.filter_cons_of_pos hq, List.flatMap_cons]
    | false => rw [List.filter_cons_of_neg (by simp [hq]), h a List.mem_cons_self hq, List.nil_append]
theorem flat_congr {α β : Type} {F G : α → List β} : ∀ l : List α, (∀ i, i ∈ l → F i = G i) → l.flatMap F = l.flatMap G
  | [], _ => rfl
  | a :: l, h => by rw [List.flatMap_cons, List.flatMap_cons, h a List.mem_cons_self, flat_congr l fun i hi => h i (List.mem_cons_of_mem _ hi)]
theorem each_keep (h : n ≤ D.length) (hP : ∀ i, n ≤ i → i < D.length → (eAt D i).pub = false) (last : Int → Int) {i : Nat} (hi : i < n) : (eachL m D last i).filter (keepB n) = eachL m (D.take n) last i := by
  have hlen : (D.take n).length = n := by rw [List.length_take]; omega
  have hu : untoldB m (D.take n) last i = untoldB m D last i := by
    unfold untoldB
    rw [eAt_take hi, hlen, ← busyB_take h hP]
  unfold eachL
  rw [List.filter_append, List.filter_flatMap, hlen, hu]
  congr 1
  · cases untoldB m D last i with
    | true =>
      simp only [if_true]
      rw [List.filter_eq_self]
      intro x hx
      rw [List.mem_singleton.1 hx]
      unfold keepB
      rw [decide_eq_true (show (i : Int) < n by omega), decide_eq_true (show (-1 : Int) < n by omega)]
      rfl
    | false => rfl
  · rw [flat_keep (fun j => decide (j < n)) _ _ (fun j _ hj => cmp_drop (by simpa using hj)), endL_keep h, endL_take]
    refine flat_congr _ fun j hj => ?_
    have hj' : j < n := List.mem_range.1 (List.mem_filter.1 hj).1
    rw [cmp_keep hi hj', cmp_take hi hj']
theorem each_drop (last : Int → Int) {i : Nat} (hi : ¬ i < n) : (eachL m D last i).filter (keepB n) = [] := by
  rw [List.filter_eq_nil_iff]
  intro x hx
  have h1 : x.1 = i := by
    unfold eachL at hx
    rcases List.mem_append.1 hx with hx | hx
    · split at hx
      · rw [List.mem_singleton.1 hx]
      · cases hx
    · obtain ⟨j, _, hx⟩ := List.mem_flatMap.1 hx
      exact (mem_cmp hx).1
  unfold keepB
  rw [h1, decide_eq_false (show ¬ (i : Int) < n by omega)]
  simp
/-- What is left of the blames. -/
theorem allBm_keep (S : List (List (Int × Int))) (h : n ≤ D.length) (hP : ∀ i, n ≤ i → i < D.length → (eAt D i).pub = false) : (allBm S D).filter (keepB n) = allBm S (D.take n) := by
  have hlen : (D.take n).length = n := by rw [List.length_take]; omega
  unfold allBm
  rw [List.filter_append, List.filter_append, List.filter_flatMap, List.filter_flatMap, hlen, wrongL_keep h]
  congr 1
  congr 1
  · exact flat_congr _ fun p _ => (part_keep S h hP p).1
  · rw [flat_keep (fun j => decide (j < n)) _ _ (fun j _ hj => each_drop _ (by simpa using hj)), endL_keep h, endL_take]
    refine flat_congr _ fun i hi => ?_
    rw [each_keep h hP _ (List.mem_range.1 (List.mem_filter.1 hi).1), last_take S h hP]
end
end Go.Proofs.YtbielnehggcaoaaDoor
/-
  Order by contract. (By the verifier; no statement.)
-/
namespace Go.Proofs.YtbielnehggcaoaaDoor
open Go.RowKit
/-- What the cells hold at first. -/
def v0F (F : List Int) : Int → Int := fun c => F.getD c.toNat 0
theorem outN_le (n : Nat) (S : Pl) : outN n S ≤ n := by
  unfold outN
  have := List.length_filter_le (fun j => !S j) (List.range n)
  rwa [List.length_range] at this
theorem held_of {B : Nat} {x : World} {v : Value} {F : List Int} (h : IR B x v F) (hne : F ≠ []) : ∃ g c hc, v = .slice (some ⟨g, 0, none⟩) F.length c ∧ B ≤ g ∧ x.heap[g]? = some (.cells hc 3 (0, 0)) ∧ ∀ i : Nat, i < F.length → hc[i]? = some (.int .i64 (v0F F i)) := by
  rcases h.own.2 with ⟨_, h0⟩ | ⟨g, c, cs, hv, hb, hh, _, _, _, ht⟩
  · exact absurd (List.length_eq_zero_iff.1 h0) hne
  · refine ⟨g, c, cs, hv, hb, hh, fun i hi => ?_⟩
    have h1 : (cs.toList.take (F.length * 1))[i]? = (F.map (fun z : Int => Value.int .i64 z))[i]? := by rw [ht]
    rw [Nat.mul_one, List.getElem?_take_of_lt hi, List.getElem?_map, List.getElem?_eq_getElem hi] at h1
    rw [← Array.getElem?_toList, h1]
    simp [v0F, hi]
theorem order_start {D : List Dd} {E : Nat} {A O : Nat → Nat} {cap g : Nat} {ad : Option Addr} {cv : Nat → Nat → Int → Bool} {F : List Int} {w x1 x2 x3 : World} {hc : Array Value} (hw1 : Turned [] w x1) (hS : SB x2 (x1.heap.size + 1) x1.heap.size ad D.length cap E A O) (hK : KM x2 x1.heap.size []) (hT2 : Turned [] x1 x2) (hT3 : Turned [] x2 x3) (hD : DsAt w ad D) (hTab : Tab w) (hz : 0 < w.heap.size) (hb : ∀ b o, ad = some ⟨b, o, none⟩ → b < w.heap.size) (hg : x2.heap.size ≤ g) (hh : x3.heap[g]? = some (.cells hc 3 (0, 0))) (hcs : ∀ i : Nat, i < F.length → hc[i]? = some (.int .i64 (v0F F i))) :
    Apart (x1.heap.size + 1) x1.heap.size g ad x3 ∧ LO D E A O (x1.heap.size + 1) x1.heap.size cap ad cv g F.length (v0F F) x3 [] 0 (v0F F) (.slice none 0 0) x3 := by
  have s1 := hw1.size
  have s3 := hT3.size
  have s4 := lt_of_heap hh
  have s5 : x1.heap.size + 1 < x2.heap.size := by
    obtain ⟨cs, h0, _⟩ := hS.ex
    exact lt_of_heap h0
  have T3 := (hw1.trans hT2).trans hT3
  refine ⟨⟨by omega, by omega, by omega, by omega, by omega, by omega, by omega, fun b o e => by have := hb b o e; omega⟩, ?_⟩
  exact ⟨Turned.refl _ _, (hS.keep hT3 (by simp)).sr (hK.keep hT3 (by simp)) (hTab.keep T3 (by simp)) (hD.still T3) (by omega) (by omega) (fun b o e => by have := hb b o e; omega), ⟨[], hK.keep hT3 (by simp), fun k hk => by cases hk⟩, World.ownsRow_nil _ _ _ _, ⟨hc, hh, hcs⟩, LS.start _, by have := outN_le D.length (bitsP 0); simpa using this⟩
theorem LeP.form {D : List Dd} {v0 : Int → Int} {tb kb : Nat} {w w' : World} {r : Ending} (h : LeP D v0 tb kb w r w') : ∃ v ok, r = .returned (.tuple #[v, .bool ok]) ∧ Turned [tb, kb] w w' ∧ ((ok = true ∧ ∃ os, Least D (bitsP 0) v0 os ∧ w'.ownsRow w.heap.size 3 1 v os.length (os.map fun i : Nat => Value.int .i64 (i : Int))) ∨ (v = .slice none 0 0 ∧ ok = false ∧ ¬ Can D (bitsP 0) v0)) := by
  rcases h.ans with ⟨os, v, rfl, h1, h2⟩ | ⟨rfl, h1⟩
  · exact ⟨v, true, rfl, h.tu, .inl ⟨rfl, os, h1, h2⟩⟩
  · exact ⟨_, false, rfl, h.tu, .inr ⟨rfl, rfl, h1⟩⟩
theorem chk_ok {m : Nat} {D : List Dd} (h : chkD m D = 0) : m ≠ 0 ∧ m ≤ 256 ∧ D.length ≤ 64 ∧ ∀ i, i < D.length → (dAt D i).right m := by
  unfold chkD at h
  split at h
  · cases h
  rename_i h1
  split at h
  · rename_i h2
    refine ⟨by omega, by omega, by omega, fun i hi => ?_⟩
    have hm : dAt D i ∈ D := by
      unfold dAt
      rw [List.getD_eq_getElem?_getD, List.getElem?_eq_getElem hi]
      exact List.getElem_mem hi
    have := List.all_eq_true.1 h2 _ hm
    simp only [rightB, timeB, Bool.and_eq_true, Bool.or_eq_true, decide_eq_true_eq] at this
    unfold Dd.right
    omega
  · cases h
/-- What Order answers. -/
structure OrP (D : List Dd) (F : List Int) (w : World) (r : Ending) (w' : World) : Prop where
  tu : Turned [] w w'
  ans : (chkD F.length D ≠ 0 ∧ r = .returned (.tuple #[.slice none 0 0, .bool false, .int .i64 (chkD F.length D)])) ∨ (chkD F.length D = 0 ∧ ((∃ os v, r = .returned (.tuple #[v, .bool true, .int .i64 0]) ∧ Least D (bitsP 0) (v0F F) os ∧ w'.ownsRow w.heap.size 3 1 v os.length (os.map fun i : Nat => Value.int .i64 (i : Int))) ∨ (r = .returned (.tuple #[.slice none 0 0, .bool false, .int .i64 0]) ∧ ¬ Can D (bitsP 0) (v0F F))))
theorem ownsRow_lower {B B' e n : Nat} {v : Value} {xs : List Value} {x : World} (h : x.ownsRow B e 1 v n xs) (hb : B' ≤ B) : x.ownsRow B' e 1 v n xs := by
  refine ⟨h.1, ?_⟩
  rcases h.2 with h0 | ⟨g, c, cs, rfl, hb2, hg, h3⟩
  · exact .inl h0
  · exact .inr ⟨g, c, cs, rfl, by omega, hg, h3⟩
set_option maxRecDepth 100000 in
set_option maxHeartbeats 1600000 in
theorem cOrder {D : List Dd} {F : List Int} {fv : Value} {ad : Option Addr} {cap : Nat} {w : World} (hF : IV w fv F) (hD : DsAt w ad D) (hn : D.length ≤ 1000) (hTab : Tab w) (hz : 0 < w.heap.size) (hb : ∀ b o, ad = some ⟨b, o, none⟩ → b < w.heap.size) :
    Calls Tryd.prog 11 #[fv, .slice ad D.length cap] w fun r w' => OrP D F w r w' := by
  have PC := cCheck (m := F.length) (cap := cap) hD hn
  have HFv : Hid (IV w fv F) := hF
  have HD : Hid (DsAt w ad D) := hD
  have HW : Hid (Tab w ∧ 0 < w.heap.size ∧ ∀ b o, ad = some ⟨b, o, none⟩ → b < w.heap.size) := ⟨hTab, hz, hb⟩
  obtain ⟨fa, fc, rfl, -, -⟩ := hF.ex
  clear hF hD hTab hz hb
  obtain ⟨cd, hcd⟩ : ∃ cd, cd = chkD F.length D := ⟨_, rfl⟩
  have HC : Hid (cd = chkD F.length D) := hcd
  rw [← hcd] at PC
  clear hcd
  by_cases h0 : cd = 0
  · subst h0
    obtain ⟨c1, c2, c3, c4⟩ := chk_ok HC.out.symm
    have HR : Hid (∀ i, i < D.length → (dAt D i).right F.length) := c4
    have hne : F ≠ [] := fun e => c1 (by rw [e]; rfl)
    have PN : ∀ x, Turned [] w x → Calls Tryd.prog 30 #[.slice ad D.length cap] x fun r w' => r = .returned (.pointer (some ⟨x.heap.size + 1, 0, none⟩)) ∧ NewP D ad cap x w' := fun x hx => cNewS (HD.out.still hx) c3 (fun i hi => by have := HR.out i hi; unfold Dd.right at this; omega)
    have PL : ∀ x, Turned [] w x → Calls Tryd.prog 32 #[.slice fa F.length fc] x fun e w' => ∃ v', e = .returned v' ∧ IR x.heap.size w' v' F ∧ Turned [] x w' := fun x hx => cClone (HFv.out.still hx) hne (by omega)
    clear c4
    go_enter Tryd.func11, Tryd.ntmps11
    go_wp2_with (first
      | (go_at_call 29; refine PC.mono ?_; rintro r x1 ⟨rfl, hT1⟩; have HT1 : Hid _ := hT1; clear hT1)
      | (go_at_call 30; refine (PN _ HT1.out).mono ?_; rintro r x2 ⟨rfl, hN⟩; obtain ⟨E, A, O, hS, hK, hM, hT2⟩ := hN.ex; have HS : Hid _ := hS; have HK : Hid _ := hK; have HM : Hid _ := hM; have HT2 : Hid _ := hT2; clear hN hS hK hM hT2)
      | (go_at_call 32; refine (PL _ (HT1.out.trans HT2.out)).mono ?_; rintro r x3 ⟨v', rfl, hI, hT3⟩; obtain ⟨g, kc, hc, rfl, hg, hh, hcs⟩ := held_of hI hne; have HT3 : Hid _ := hT3; have HX : Hid _ := order_start (cv := fun ce m v => @decide (CCan D ce (bitsP m) v) (Classical.propDecidable _)) HT1.out HS.out HK.out HT2.out HT3.out HD.out HW.out.1 HW.out.2.1 HW.out.2.2 hg hh hcs; have HG : Hid (x2.heap.size ≤ g) := hg; clear hI hT3 hg hh hcs hc)
      | (go_at_call 31; refine (cLeast HM.out (fun ce m v => by simp) (fun i hi => by have := HR.out i hi; unfold Dd.right at this; omega) c2 HX.out.1 HX.out.2).mono ?_; rintro r x4 hL; obtain ⟨v, ok, rfl, hT4, hA⟩ := hL.form; have HT4 : Hid _ := hT4; have HA : Hid _ := hA; clear hL hT4 hA))
    go_ret3
    have hg := HG.out
    have s1 := HT1.out.size
    have s2 := HT2.out.size
    have s3 := HT3.out.size
    refine ⟨((HT1.out.trans HT2.out).trans HT3.out).inner HT4.out (fun q hq => ?_), .inr ⟨HC.out.symm, ?_⟩⟩
    · rcases List.mem_cons.1 hq with rfl | hq
      · exact .inr s1
      · rw [List.mem_singleton.1 hq]
        exact .inr (by omega)
    · rcases HA.out with ⟨rfl, os, h1, h2⟩ | ⟨rfl, rfl, h1⟩
      · exact .inl ⟨os, v, rfl, h1, ownsRow_lower h2 (by omega)⟩
      · exact .inr ⟨rfl, h1⟩
  · have h1 : (cd == 0) = false := by simpa using h0
    have h2 : (cd != 0) = true := by simpa using h0
    go_enter Tryd.func11, Tryd.ntmps11
    go_wp2_with (go_at_call 29; refine PC.mono ?_; rintro r x1 ⟨rfl, hT1⟩; have HT1 : Hid _ := hT1; clear hT1)
    go_ret3
    exact ⟨HT1.out, .inl ⟨by rw [← HC.out]; exact h0, by rw [← HC.out]; rfl⟩⟩
end Go.Proofs.YtbielnehggcaoaaDoor
/-
  The least order by a plain search; the chapter's examples. (By the verifier; no statement, no memory.)
-/
namespace Go.Proofs.YtbielnehggcaoaaDoor
open Go.RowKit
/-- The first order, depth first, by rising places. -/
def dfs (D : List Dd) : Nat → Pl → (Int → Int) → Option (List Nat)
  | 0, S, _ => if allIn D S then some [] else none
  | n + 1, S, v => if allIn D S then some [] else (List.range D.length).findSome? fun i => if may D S i && (dAt D i).fits (v (dAt D i).a) then (dfs D n (S.upd i) (stepV D v i)).map (i :: ·) else none
variable {D : List Dd}
theorem findSome_range {α : Type} (f : Nat → Option α) : ∀ n, ((List.range n).findSome? f = none ∧ ∀ i, i < n → f i = none) ∨ ∃ i x, i < n ∧ f i = some x ∧ (∀ j, j < i → f j = none) ∧ (List.range n).findSome? f = some x
  | 0 => .inl ⟨rfl, fun i h => absurd h (Nat.not_lt_zero i)⟩
  | n + 1 => by
    rw [List.range_succ, List.findSome?_append]
    rcases findSome_range f n with ⟨h1, h2⟩ | ⟨i, x, h1, h2, h3, h4⟩
    · rw [h1]
      cases hf : f n with
      | none =>
        refine .inl ⟨by simp [hf], fun i hi => ?_⟩
        by_cases e : i = n
        · rw [e]; exact hf
        · exact h2 i (by omega)
      | some x => exact .inr ⟨n, x, by omega, hf, fun j hj => h2 j hj, by simp [hf]⟩
    · exact .inr ⟨i, x, by omega, h2, h3, by rw [h4]; rfl⟩
theorem Can.step {S : Pl} {v : Int → Int} {i : Nat} (hi : i < D.length) (hm : may D S i = true) (hf : (dAt D i).fits (v (dAt D i).a) = true) (h : Can D (S.upd i) (stepV D v i)) : Can D S v := by
  obtain ⟨os, ho⟩ := h
  exact ⟨i :: os, .cons hi hm hf ho⟩
theorem Can.next {S : Pl} {v : Int → Int} (h : Can D S v) (ha : allIn D S = false) : ∃ i, i < D.length ∧ may D S i = true ∧ (dAt D i).fits (v (dAt D i).a) = true ∧ Can D (S.upd i) (stepV D v i) := by
  obtain ⟨os, ho⟩ := h
  cases ho with
  | nil hh => rw [ha] at hh; cases hh
  | @cons _ _ i os hi hm hf hh => exact ⟨i, hi, hm, hf, os, hh⟩
/-- The search's condition, where there is an order: the next state has one. -/
theorem cond_can (hr : ∀ i, i < D.length → (dAt D i).e = 0 ∨ (dAt D i).b ≤ (dAt D i).e) {S : Pl} {v : Int → Int} (hc : Can D S v) {i : Nat} : Cond D S v i ↔ may D S i = true ∧ (dAt D i).fits (v (dAt D i).a) = true ∧ Can D (S.upd i) (stepV D v i) := by
  constructor
  · intro h
    exact ⟨h.1, h.2.1, Can.of_cells hr _ (Nat.le_refl _) (h.keeps fun c => hc.cells c)⟩
  · rintro ⟨h1, h2, h3⟩
    refine ⟨h1, h2, ?_⟩
    have := h3.cells (dAt D i).a
    simpa [stepV, updV] using this
theorem dfs_least (hr : ∀ i, i < D.length → (dAt D i).e = 0 ∨ (dAt D i).b ≤ (dAt D i).e) : ∀ (n : Nat) (S : Pl) (v : Int → Int), outN D.length S ≤ n → (∃ os, dfs D n S v = some os ∧ Least D S v os) ∨ (dfs D n S v = none ∧ ¬ Can D S v)
  | 0, S, v, hn => by
    unfold dfs
    by_cases ha : allIn D S = true
    · rw [if_pos ha]
      exact .inl ⟨[], rfl, .nil ha⟩
    · rw [if_neg ha]
      refine .inr ⟨rfl, fun hc => ?_⟩
      obtain ⟨i, hi, hm, _⟩ := hc.next (by simpa using ha)
      have := outN_upd hi (may_iff.1 hm).1
      omega
  | n + 1, S, v, hn => by
    unfold dfs
    by_cases ha : allIn D S = true
    · rw [if_pos ha]
      exact .inl ⟨[], rfl, .nil ha⟩
    · rw [if_neg ha]
      have ha2 : allIn D S = false := by simpa using ha
      have ih : ∀ i, i < D.length → may D S i = true → (∃ os, dfs D n (S.upd i) (stepV D v i) = some os ∧ Least D (S.upd i) (stepV D v i) os) ∨ (dfs D n (S.upd i) (stepV D v i) = none ∧ ¬ Can D (S.upd i) (stepV D v i)) := fun i hi hm => by
        have := outN_upd hi (may_iff.1 hm).1
        exact dfs_least hr n _ _ (by omega)
      have hnone : ∀ i, i < D.length → (if may D S i && (dAt D i).fits (v (dAt D i).a) then (dfs D n (S.upd i) (stepV D v i)).map (i :: ·) else none) = none → ¬ (may D S i = true ∧ (dAt D i).fits (v (dAt D i).a) = true ∧ Can D (S.upd i) (stepV D v i)) := fun i hi he ⟨h1, h2, h3⟩ => by
        rw [h1, h2] at he
        rcases ih i hi h1 with ⟨os, g1, _⟩ | ⟨_, g2⟩
        · rw [g1] at he; cases he
        · exact g2 h3
      rcases findSome_range (fun i => if may D S i && (dAt D i).fits (v (dAt D i).a) then (dfs D n (S.upd i) (stepV D v i)).map (i :: ·) else none) D.length with ⟨h1, h2⟩ | ⟨i, x, h1, h2, h3, h4⟩
      · refine .inr ⟨h1, fun hc => ?_⟩
        obtain ⟨i, hi, hm, hf, h3⟩ := hc.next ha2
        exact hnone i hi (h2 i hi) ⟨hm, hf, h3⟩
      · cases hb : may D S i && (dAt D i).fits (v (dAt D i).a) with
        | false => rw [hb] at h2; cases h2
        | true =>
          rw [hb] at h2
          simp only [if_true] at h2
          obtain ⟨hm, hf⟩ := (Bool.and_eq_true _ _).mp hb
          rcases ih i h1 hm with ⟨os, g1, g2⟩ | ⟨g1, _⟩
          · rw [g1] at h2
            have hx : x = i :: os := by simpa using h2.symm
            have hcan : Can D S v := Can.step h1 hm hf ⟨os, g2.goes⟩
            refine .inl ⟨i :: os, by rw [h4, hx], .cons ha2 h1 ((cond_can hr hcan).2 ⟨hm, hf, os, g2.goes⟩) (fun j hj hcj => ?_) g2⟩
            exact hnone j (by omega) (h3 j hj) ((cond_can hr hcan).1 hcj)
          · rw [g1] at h2; cases h2
theorem Least.uniq {S : Pl} {v : Int → Int} {os os' : List Nat} (h : Least D S v os) (h' : Least D S v os') : os = os' := by
  induction h generalizing os' with
  | nil h =>
    cases h' with
    | nil _ => rfl
    | cons ha _ _ _ _ => rw [h] at ha; cases ha
  | @cons S v i os ha hi hc hl _ ih =>
    cases h' with
    | nil h => rw [h] at ha; cases ha
    | @cons _ _ i' os' _ hi' hc' hl' h' =>
      have : i = i' := by
        rcases Nat.lt_trichotomy i i' with g | g | g
        · exact absurd hc (hl' i g)
        · exact g
        · exact absurd hc' (hl i' g)
      subst this
      rw [ih h']
/-- What Order answers where the deeds can be, by the plain search. -/
theorem OrP.dfs {F : List Int} {w w' : World} {r : Ending} (h : OrP D F w r w') (h0 : chkD F.length D = 0) : (∃ os v, dfs D D.length (bitsP 0) (v0F F) = some os ∧ r = .returned (.tuple #[v, .bool true, .int .i64 0]) ∧ w'.ownsRow w.heap.size 3 1 v os.length (os.map fun i : Nat => Value.int .i64 (i : Int))) ∨ (dfs D D.length (bitsP 0) (v0F F) = none ∧ r = .returned (.tuple #[.slice none 0 0, .bool false, .int .i64 0])) := by
  have hr : ∀ i, i < D.length → (dAt D i).e = 0 ∨ (dAt D i).b ≤ (dAt D i).e := fun i hi => ((chk_ok h0).2.2.2 i hi).2.2.2.2.2
  have hd := dfs_least hr D.length (bitsP 0) (v0F F) (outN_le _ _)
  rcases h.ans with ⟨h1, _⟩ | ⟨_, ⟨os, v, h1, h2, h3⟩ | ⟨h1, h2⟩⟩
  · exact absurd h0 h1
  · rcases hd with ⟨os', g1, g2⟩ | ⟨_, g2⟩
    · rw [h2.uniq g2] at h3
      exact .inl ⟨os', v, g1, h1, h3⟩
    · exact absurd ⟨os, h2.goes⟩ g2
  · rcases hd with ⟨os', _, g2⟩ | ⟨g1, _⟩
    · exact absurd ⟨os', g2.goes⟩ h2
    · exact .inr ⟨g1, h1⟩
end Go.Proofs.YtbielnehggcaoaaDoor
/-
  Lists of numbers, of blames, held against each other; by contract. (By the verifier; no statement.)
-/
namespace Go.Proofs.YtbielnehggcaoaaDoor
open Go.RowKit
/-- The slice v reads as the blames R. -/
structure BW (w : World) (v : Value) (R : List Bm) : Prop where
  ex : ∃ a c, v = .slice a R.length c ∧ ∀ i (h : i < R.length), ∃ b o, a = some ⟨b, o, none⟩ ∧ w.cell? ⟨b, o + i * 3, none⟩ = some (.int .i64 R[i].1) ∧ w.cell? ⟨b, o + i * 3 + 1, none⟩ = some (.int .i64 R[i].2.1) ∧ w.cell? ⟨b, o + i * 3 + 2, none⟩ = some (.int .i64 R[i].2.2)
theorem BR.view {B : Nat} {w : World} {v : Value} {R : List Bm} (h : BR B w v R) : BW w v R := by
  rcases h.form with ⟨rfl, rfl⟩ | ⟨g, c, rfl⟩
  · exact ⟨none, 0, rfl, fun i hi => by simp at hi⟩
  · refine ⟨_, c, rfl, fun i hi => ⟨g, 0, rfl, ?_⟩⟩
    have f : ∀ j, j < 3 → w.cell? ⟨g, 0 + i * 3 + j, none⟩ = (rowB R[i])[j]? := fun j hj => by
      rw [show 0 + i * 3 + j = i * 3 + j by omega, h.own.cellAt _ (by omega)]
      exact rowsB_at R hi hj
    exact ⟨f 0 (by omega), f 1 (by omega), f 2 (by omega)⟩
theorem BW.still {w w' : World} {v : Value} {R : List Bm} (h : BW w v R) (ht : Turned [] w w') : BW w' v R := by
  obtain ⟨a, c, rfl, hc⟩ := h.ex
  refine ⟨a, c, rfl, fun i hi => ?_⟩
  obtain ⟨b, o, e, h0, h1, h2⟩ := hc i hi
  exact ⟨b, o, e, ht.cell h0 (by simp), ht.cell h1 (by simp), ht.cell h2 (by simp)⟩
theorem neqBm (a b c a' b' c' : Int) (w : World) : (binOp .neq 55 (.agg #[.int .i64 a, .int .i64 b, .int .i64 c]) (.agg #[.int .i64 a', .int .i64 b', .int .i64 c'])).run Tryd.prog w = .ok (.bool (!decide (a = a' ∧ b = b' ∧ c = c'))) w := by
  by_cases h1 : a = a'
  · subst h1
    by_cases h2 : b = b'
    · subst h2
      by_cases h3 : c = c'
      · subst h3
        go_simp
      · have d : (c == c') = false := by simpa using h3
        go_simp
    · have d : (b == b') = false := by simpa using h2
      go_simp
  · have d : (a == a') = false := by simpa using h1
    go_simp
theorem take_eqI {xs ys : List Int} {k : Nat} (hx : k < xs.length) (hy : k < ys.length) (h : xs.take k = ys.take k) (he : xs[k] = ys[k]) : xs.take (k + 1) = ys.take (k + 1) := by
  rw [List.take_add_one, List.take_add_one, List.getElem?_eq_getElem hx, List.getElem?_eq_getElem hy, h, he]
set_option maxRecDepth 100000 in
set_option maxHeartbeats 1600000 in
theorem cSameI {w : World} {u v : Value} {xs ys : List Int} (hu : IV w u xs) (hv : IV w v ys) (hn : xs.length ≤ 1000000) : Calls Tryd.prog 14 #[u, v] w fun r w' => r = .returned (.bool (decide (xs = ys))) ∧ ∃ n, w' = w.drewN n := by
  have HU : Hid (IV w u xs) := hu
  have HV : Hid (IV w v ys) := hv
  obtain ⟨a, c, rfl, -, -⟩ := hu.ex
  obtain ⟨a', c', rfl, -, -⟩ := hv.ex
  clear hu hv
  by_cases g : xs.length = ys.length
  · have d0 : ((xs.length : Int) != (ys.length : Int)) = false := by simp [g]
    have HX : Hid (∀ k, k < xs.length → ∃ b o b' o', a = some ⟨b, o, none⟩ ∧ a' = some ⟨b', o', none⟩ ∧ b < w.heap.size ∧ b' < w.heap.size ∧ w.cell? ⟨b, o + k, none⟩ = some (.int .i64 (xs.getD k 0)) ∧ w.cell? ⟨b', o' + k, none⟩ = some (.int .i64 (ys.getD k 0))) := fun k hk => by
      obtain ⟨b, o, c2, e, hb, h1⟩ := HU.out.get hk
      obtain ⟨b', o', c3, e', hb', h1'⟩ := HV.out.get (i := k) (by omega)
      simp only [Value.slice.injEq] at e e'
      exact ⟨b, o, b', o', e.1, e'.1, hb, hb', h1, h1'⟩
    have HY : Hid (∀ k, k < xs.length → (xs.getD k 0 ≠ ys.getD k 0 → decide (xs = ys) = false) ∧ (xs.getD k 0 = ys.getD k 0 → xs.take k = ys.take k → xs.take (k + 1) = ys.take (k + 1))) := fun k hk => by
      have hk' : k < ys.length := by omega
      have e1 : xs.getD k 0 = xs[k] := by simp [hk]
      have e2 : ys.getD k 0 = ys[k] := by simp [hk']
      rw [e1, e2]
      exact ⟨fun h => decide_eq_false fun e => h (by simp [e]), fun h1 h2 => take_eqI hk hk' h2 h1⟩
    have HZ : Hid (xs.take xs.length = ys.take xs.length → decide (xs = ys) = true) := fun h => decide_eq_true (by
      rw [List.take_length] at h
      rw [h, g, List.take_length])
    rw [← g]
    rw [← g] at d0
    generalize xs.length = n at *
    clear HU HV g
    generalize decide (xs = ys) = bb at *
    go_enter Tryd.func14, Tryd.ntmps14
    go_wp2
    go_loopw [5] (fun i wx => ∃ k : Nat, k ≤ n ∧ i = .int .i64 k ∧ Hid (xs.take k = ys.take k) ∧ Hid (∃ q, wx = w.drewN q)) (fun i _ => n - (intOf i).toNat)
    case atStart => exact ⟨0, Nat.zero_le _, rfl, by simp [Hid], ⟨0, rfl⟩⟩
    case round =>
      obtain ⟨k, hk, rfl, HA, HW⟩ := hrel
      obtain ⟨q, hq⟩ := HW.out
      have HQ : Hid (wr = w.drewN q) := hq
      by_cases hlt : k < n
      · obtain ⟨b, o, b', o', rfl, rfl, hb, hb', h1, h2⟩ := HX.out k hlt
        have k1 : wr.cell? ⟨b, o + k, none⟩ = some (.int .i64 (xs.getD k 0)) := by rw [hq]; exact h1
        have k2 : wr.cell? ⟨b', o' + k, none⟩ = some (.int .i64 (ys.getD k 0)) := by rw [hq]; exact h2
        have kb : b < wr.heap.size := by rw [hq]; exact hb
        have kb' : b' < wr.heap.size := by rw [hq]; exact hb'
        obtain ⟨y1, y2⟩ := HY.out k hlt
        have Y1 : Hid _ := y1
        have Y2 : Hid _ := y2
        clear h1 h2 hb hb' hq y1 y2 HX HY
        generalize xs.getD k 0 = x1 at *
        generalize ys.getD k 0 = x2 at *
        by_cases ge : x1 = x2
        · have d1 : (x1 != x2) = false := by simpa using ge
          go_wp2
          go_quiet (fail)
          go_wp2
          go_roundw
          case rel => exact ⟨k + 1, by omega, by go_num, Y2.out ge HA.out, ⟨_, by rw [HQ.out, World.drewN_drewN]⟩⟩
          case measure => simp [intOf]; omega
        · have d1 : (x1 != x2) = true := by simpa using ge
          go_wp2
          go_quiet (fail)
          go_wp2
          go_ret
          exact ⟨by rw [Y1.out ge]; rfl, _, by rw [HQ.out, World.drewN_drewN]⟩
      · have e : k = n := by omega
        subst e
        clear hq
        go_wp2
        go_ret
        exact ⟨by rw [HZ.out HA.out]; rfl, q, HQ.out⟩
  · have d0 : ((xs.length : Int) != (ys.length : Int)) = true := by
      simp only [bne_iff_ne, ne_eq]
      omega
    rw [decide_eq_false (fun e => g (by rw [e]))]
    go_enter Tryd.func14, Tryd.ntmps14
    go_wp2
    go_ret
    exact ⟨rfl, 0, rfl⟩
end Go.Proofs.YtbielnehggcaoaaDoor
/-
  Lists of blames held against each other; by contract. (By the verifier; no statement.)
-/
namespace Go.Proofs.YtbielnehggcaoaaDoor
open Go.RowKit
theorem take_eqB {xs ys : List Bm} {k : Nat} (hx : k < xs.length) (hy : k < ys.length) (h : xs.take k = ys.take k) (he : xs[k] = ys[k]) : xs.take (k + 1) = ys.take (k + 1) := by
  rw [List.take_add_one, List.take_add_one, List.getElem?_eq_getElem hx, List.getElem?_eq_getElem hy, h, he]
set_option maxRecDepth 100000 in
set_option maxHeartbeats 1600000 in
theorem cSameB {w : World} {u v : Value} {xs ys : List Bm} (hu : BW w u xs) (hv : BW w v ys) (hn : xs.length ≤ 1000000000) : Calls Tryd.prog 23 #[u, v] w fun r w' => r = .returned (.bool (decide (xs = ys))) ∧ ∃ n, w' = w.drewN n := by
  have HU : Hid (BW w u xs) := hu
  have HV : Hid (BW w v ys) := hv
  obtain ⟨a, c, rfl, h1⟩ := hu.ex
  obtain ⟨a', c', rfl, h2⟩ := hv.ex
  clear hu hv
  by_cases g : xs.length = ys.length
  · have d0 : ((xs.length : Int) != (ys.length : Int)) = false := by simp [g]
    have HX : Hid (∀ k, k < xs.length → ∃ b o b' o', ∃ p q : Bm, a = some ⟨b, o, none⟩ ∧ a' = some ⟨b', o', none⟩ ∧ b < w.heap.size ∧ b' < w.heap.size ∧ w.cell? ⟨b, o + k * 3, none⟩ = some (.int .i64 p.1) ∧ w.cell? ⟨b, o + k * 3 + 1, none⟩ = some (.int .i64 p.2.1) ∧ w.cell? ⟨b, o + k * 3 + 2, none⟩ = some (.int .i64 p.2.2) ∧ w.cell? ⟨b', o' + k * 3, none⟩ = some (.int .i64 q.1) ∧ w.cell? ⟨b', o' + k * 3 + 1, none⟩ = some (.int .i64 q.2.1) ∧ w.cell? ⟨b', o' + k * 3 + 2, none⟩ = some (.int .i64 q.2.2) ∧ (p ≠ q → decide (xs = ys) = false) ∧ (p = q → xs.take k = ys.take k → xs.take (k + 1) = ys.take (k + 1))) := fun k hk => by
      have hk' : k < ys.length := by omega
      obtain ⟨b, o, e, f0, f1, f2⟩ := h1 k hk
      obtain ⟨b', o', e', g0, g1, g2⟩ := h2 k hk'
      exact ⟨b, o, b', o', xs[k], ys[k], e, e', World.block_lt_of_cell? _ _ f0, World.block_lt_of_cell? _ _ g0, f0, f1, f2, g0, g1, g2, fun h => decide_eq_false fun e => h (by simp [e]), fun h1 h2 => take_eqB hk hk' h2 h1⟩
    have HZ : Hid (xs.take xs.length = ys.take xs.length → decide (xs = ys) = true) := fun h => decide_eq_true (by
      rw [List.take_length] at h
      rw [h, g, List.take_length])
    rw [← g]
    rw [← g] at d0
    clear HU HV g h1 h2
    generalize xs.length = n at *
    generalize decide (xs = ys) = bb at *
    have hneq := neqBm
    go_enter Tryd.func23, Tryd.ntmps23
    go_wp2
    go_loopw [5] (fun i wx => ∃ k : Nat, k ≤ n ∧ i = .int .i64 k ∧ Hid (xs.take k = ys.take k) ∧ Hid (∃ q, wx = w.drewN q)) (fun i _ => n - (intOf i).toNat)
    case atStart => exact ⟨0, Nat.zero_le _, rfl, by simp [Hid], ⟨0, rfl⟩⟩
    case round =>
      obtain ⟨k, hk, rfl, HA, HW⟩ := hrel
      obtain ⟨q, hq⟩ := HW.out
      have HQ : Hid (wr = w.drewN q) := hq
      by_cases hlt : k < n
      · obtain ⟨b, o, b', o', ⟨p1, p2, p3⟩, ⟨s1, s2, s3⟩, rfl, rfl, hb, hb', f0, f1, f2, g0, g1, g2, y1, y2⟩ := HX.out k hlt
        dsimp only at f0 f1 f2 g0 g1 g2
        have k0 : wr.cell? ⟨b, o + k * 3, none⟩ = some (.int .i64 p1) := by rw [hq]; exact f0
        have k1 : wr.cell? ⟨b, o + k * 3 + 1, none⟩ = some (.int .i64 p2) := by rw [hq]; exact f1
        have k2 : wr.cell? ⟨b, o + k * 3 + 2, none⟩ = some (.int .i64 p3) := by rw [hq]; exact f2
        have l0 : wr.cell? ⟨b', o' + k * 3, none⟩ = some (.int .i64 s1) := by rw [hq]; exact g0
        have l1 : wr.cell? ⟨b', o' + k * 3 + 1, none⟩ = some (.int .i64 s2) := by rw [hq]; exact g1
        have l2 : wr.cell? ⟨b', o' + k * 3 + 2, none⟩ = some (.int .i64 s3) := by rw [hq]; exact g2
        have kb : b < wr.heap.size := by rw [hq]; exact hb
        have kb' : b' < wr.heap.size := by rw [hq]; exact hb'
        have Y1 : Hid _ := y1
        have Y2 : Hid _ := y2
        clear f0 f1 f2 g0 g1 g2 hb hb' hq y1 y2 HX
        by_cases ge : (p1, p2, p3) = ((s1, s2, s3) : Bm)
        · have ge2 := ge
          simp only [Prod.mk.injEq] at ge2
          obtain ⟨rfl, rfl, rfl⟩ := ge2
          have d1 : decide (p1 = p1 ∧ p2 = p2 ∧ p3 = p3) = true := decide_eq_true ⟨rfl, rfl, rfl⟩
          clear ge
          go_wp2
          go_quiet (fail)
          go_wp2
          go_roundw
          case rel => exact ⟨k + 1, by omega, by go_num, Y2.out trivial HA.out, ⟨_, by rw [HQ.out, World.drewN_drewN]⟩⟩
          case measure => simp [intOf]; omega
        · have d1 : decide (p1 = s1 ∧ p2 = s2 ∧ p3 = s3) = false := decide_eq_false fun ⟨h1, h2, h3⟩ => ge (by rw [h1, h2, h3])
          have Ge : Hid _ := ge
          clear ge
          go_wp2
          go_quiet (fail)
          go_wp2
          go_ret
          exact ⟨by rw [Y1.out Ge.out]; rfl, _, by rw [HQ.out, World.drewN_drewN]⟩
      · have e : k = n := by omega
        subst e
        clear hq
        go_wp2
        go_ret
        exact ⟨by rw [HZ.out HA.out]; rfl, q, HQ.out⟩
  · have d0 : ((xs.length : Int) != (ys.length : Int)) = true := by
      simp only [bne_iff_ne, ne_eq]
      omega
    rw [decide_eq_false (fun e => g (by rw [e]))]
    clear h1 h2
    go_enter Tryd.func23, Tryd.ntmps23
    go_wp2
    go_ret
    exact ⟨rfl, 0, rfl⟩
end Go.Proofs.YtbielnehggcaoaaDoor
/-
  The chapter's examples: Order at three histories, Versions at four. (By the verifier; no statement.)
-/
namespace Go.Proofs.YtbielnehggcaoaaDoor
open Go.RowKit
/-- Deeds that lie in a block of their own. -/
theorem ds_block {x : World} {g : Nat} {D : List Dd} {T : TypeId} (h : x.heap[g]? = some (.cells (D.flatMap dcs).toArray T (0, 0))) : DsAt x (some ⟨g, 0, none⟩) D := ⟨fun i d hd => by
  have hi := (List.getElem?_eq_some_iff.1 hd).1
  have hdl : ∀ l : List Dd, (l.flatMap dcs).length = l.length * 8 := fun l => by
    induction l with
    | nil => rfl
    | cons y l ih => rw [List.flatMap_cons, List.length_append, ih, List.length_cons]; simp only [List.length_cons, List.length_nil]; omega
  have f : ∀ j, j < 8 → x.cell? ⟨g, 0 + i * 8 + j, none⟩ = (dcs d)[j]? := fun j hj => by
    rw [cell_at h, List.getElem?_toArray, show 0 + i * 8 + j = i * 8 + j by omega]
    have e : D = D.take i ++ d :: D.drop (i + 1) := by
      obtain ⟨_, rfl⟩ := List.getElem?_eq_some_iff.1 hd
      rw [← List.drop_eq_getElem_cons hi, List.take_append_drop]
    have hl : ((D.take i).flatMap dcs).length = i * 8 := by rw [hdl, List.length_take, Nat.min_eq_left (by omega)]
    conv => lhs; rw [e]
    rw [List.flatMap_append, List.flatMap_cons, List.getElem?_append_right (by omega), hl, show i * 8 + j - i * 8 = j by omega, List.getElem?_append_left (by simp only [dcs, List.length_cons, List.length_nil]; omega)]
  exact ⟨g, 0, rfl, lt_of_heap h, f 0 (by omega), f 1 (by omega), f 2 (by omega), f 3 (by omega), f 4 (by omega), f 5 (by omega), f 6 (by omega), f 7 (by omega)⟩⟩
theorem iv_block {x : World} {g : Nat} {l : List Int} {T : TypeId} (h : x.heap[g]? = some (.cells (l.map (Value.int .i64 ·)).toArray T (0, 0))) (c : Nat) : IV x (.slice (some ⟨g, 0, none⟩) l.length c) l :=
  ⟨_, c, rfl, (fun e => by cases e), fun _ => ⟨g, 0, rfl, fun i hi => by
    rw [cell_at h, List.getElem?_toArray, List.getElem?_map, Nat.zero_add, List.getElem?_eq_getElem hi]
    rfl⟩⟩
/-- An order of three or two deeds, at one cell. -/
theorem kOrder {x : World} {g1 g2 c1 c2 : Nat} {F : List Int} {D : List Dd} {T1 T2 : TypeId} (h1 : x.heap[g1]? = some (.cells (F.map (Value.int .i64 ·)).toArray T1 (0, 0))) (h2 : x.heap[g2]? = some (.cells (D.flatMap dcs).toArray T2 (0, 0))) (hT : Tab x) (hn : D.length ≤ 1000) (h0 : chkD F.length D = 0) :
    Calls Tryd.prog 11 #[.slice (some ⟨g1, 0, none⟩) F.length c1, .slice (some ⟨g2, 0, none⟩) D.length c2] x fun r x' => Turned [] x x' ∧ ((∃ os v, dfs D D.length (bitsP 0) (v0F F) = some os ∧ r = .returned (.tuple #[v, .bool true, .int .i64 0]) ∧ IR x.heap.size x' v (ints os)) ∨ (dfs D D.length (bitsP 0) (v0F F) = none ∧ r = .returned (.tuple #[.slice none 0 0, .bool false, .int .i64 0]))) := by
  refine (cOrder (iv_block h1 c1) (ds_block h2) hn hT (Nat.lt_of_le_of_lt (Nat.zero_le _) (lt_of_heap h1)) fun b o e => ?_).mono ?_
  · cases e
    exact lt_of_heap h2
  · intro r x' hp
    refine ⟨hp.tu, ?_⟩
    rcases hp.dfs h0 with ⟨os, v, e1, e2, e3⟩ | ⟨e1, e2⟩
    · refine .inl ⟨os, v, e1, e2, ⟨?_⟩⟩
      rw [List.length_map, List.map_map]
      exact e3
    · exact .inr ⟨e1, e2⟩
def kD1 : List Dd := [⟨1, 4, 2, 0, 1, 0, 0, false⟩, ⟨2, 3, 1, 0, 0, 0, 0, false⟩]
def kD2 : List Dd := [⟨1, 4, 2, 0, 1, 0, 0, false⟩, ⟨2, 2, 1, 0, 0, 0, 1, false⟩, ⟨3, 3, 1, 0, 0, 0, 0, false⟩]
def kD3 : List Dd := [⟨1, 1, 3, 0, 2, 0, 2, false⟩, ⟨2, 0, 3, 0, 5, 0, 0, false⟩, ⟨3, 3, 1, 0, 0, 0, 2, false⟩]
theorem kd1 : dfs kD1 2 (bitsP 0) (v0F [0]) = some [1, 0] := by decide +kernel
theorem kd2 : dfs kD2 3 (bitsP 0) (v0F [0]) = none := by decide +kernel
theorem kd3 : dfs kD3 3 (bitsP 0) (v0F [0]) = some [0, 2] := by decide +kernel
theorem kc1 : chkD 1 kD1 = 0 := by decide +kernel
theorem kc2 : chkD 1 kD2 = 0 := by decide +kernel
theorem kc3 : chkD 1 kD3 = 0 := by decide +kernel
/-- An event without lists, as cells. -/
abbrev ecs (e : Ev) : List Value := [.int .i64 e.wk, .int .i64 e.b, .int .i64 e.e, .int .i64 e.k, .int .i64 e.p, .int .i64 e.key, .int .i64 e.num, .bool e.had, .int .i64 e.val, .bool e.has, .int .i64 e.new, .slice none 0 0, .slice none 0 0]
theorem es_block {x : World} {g c : Nat} {D : List Ev} {T : TypeId} (h : x.heap[g]? = some (.cells (D.flatMap ecs).toArray T (0, 0))) (hn : D.length ≤ 100000) (hl : ∀ e ∈ D, e.ns = [] ∧ e.ps = []) : EsAt x (.slice (some ⟨g, 0, none⟩) D.length c) D := ⟨hn, _, c, rfl, fun i d hd => by
  have hi := (List.getElem?_eq_some_iff.1 hd).1
  have hdl : ∀ l : List Ev, (l.flatMap ecs).length = l.length * 13 := fun l => by
    induction l with
    | nil => rfl
    | cons y l ih => rw [List.flatMap_cons, List.length_append, ih, List.length_cons]; simp only [List.length_cons, List.length_nil]; omega
  have f : ∀ j, j < 13 → x.cell? ⟨g, 0 + i * 13 + j, none⟩ = (ecs d)[j]? := fun j hj => by
    rw [cell_at h, List.getElem?_toArray, show 0 + i * 13 + j = i * 13 + j by omega]
    have e : D = D.take i ++ d :: D.drop (i + 1) := by
      obtain ⟨_, rfl⟩ := List.getElem?_eq_some_iff.1 hd
      rw [← List.drop_eq_getElem_cons hi, List.take_append_drop]
    have hl : ((D.take i).flatMap ecs).length = i * 13 := by rw [hdl, List.length_take, Nat.min_eq_left (by omega)]
    conv => lhs; rw [e]
    rw [List.flatMap_append, List.flatMap_cons, List.getElem?_append_right (by omega), hl, show i * 13 + j - i * 13 = j by omega, List.getElem?_append_left (by simp only [ecs, List.length_cons, List.length_nil]; omega)]
  obtain ⟨l1, l2⟩ := hl d (List.mem_of_getElem? hd)
  refine ⟨g, 0, rfl, ⟨lt_of_heap h, f 0 (by omega), f 1 (by omega), f 2 (by omega), f 3 (by omega), f 4 (by omega), f 5 (by omega), f 6 (by omega), f 7 (by omega), f 8 (by omega), f 9 (by omega), f 10 (by omega), ⟨_, f 11 (by omega), ?_⟩, ⟨_, f 12 (by omega), ?_⟩⟩⟩
  · rw [l1]
    exact ⟨none, 0, rfl, fun _ => rfl, fun h => absurd rfl h⟩
  · rw [l2]
    exact ⟨by simp, none, 0, rfl, fun h => absurd rfl h⟩⟩
def kS : List (List (Int × Int)) := [[(5, 50)]]
def kW : Ev := ⟨0, 1, 4, 2, 0, 5, 2, true, 50, true, 51, [], []⟩
def kR (b e n : Int) : Ev := ⟨0, b, e, 1, 0, 5, n, true, 50, false, 0, [], []⟩
theorem ks_block {x : World} {g p c : Nat} {T1 T2 : TypeId} (h : x.heap[g]? = some (.cells #[.slice (some ⟨p, 0, none⟩) 1 1] T1 (0, 0))) (hp : x.heap[p]? = some (.cells #[.int .i64 5, .int .i64 50] T2 (0, 0))) : SsAt x (.slice (some ⟨g, 0, none⟩) 1 c) kS := ⟨_, c, rfl, fun i l hl => by
  have hi : i = 0 := by
    have := (List.getElem?_eq_some_iff.1 hl).1
    simp only [kS, List.length_cons, List.length_nil] at this
    omega
  subst hi
  have e : l = [(5, 50)] := by simpa [kS] using hl.symm
  subst e
  refine ⟨g, 0, _, rfl, by rw [cell_at h]; rfl, by simp, _, 1, rfl, fun _ => ⟨p, 0, rfl, fun j hj => ?_⟩⟩
  have hj0 : j = 0 := by simpa using hj
  subst hj0
  exact ⟨by rw [cell_at hp]; rfl, by rw [cell_at hp]; rfl⟩⟩
theorem kv1 : allBm kS [kW, kR 2 3 1] = [] := by decide +kernel
theorem kv2 : allBm kS [kW, kR 5 6 1] = [(1, 0, 5)] := by decide +kernel
theorem kv3 : allBm kS [kW, kR 5 6 2] = [(1, -1, 4)] := by decide +kernel
theorem kv4 : allBm kS [kW, kR 5 6 3] = [(1, -1, 3)] := by decide +kernel
theorem kVers {x : World} {g p e c1 c2 : Nat} {T1 T2 T3 : TypeId} {y : Ev} {R0 : List Bm} (h : x.heap[g]? = some (.cells #[.slice (some ⟨p, 0, none⟩) 1 1] T1 (0, 0))) (hp : x.heap[p]? = some (.cells #[.int .i64 5, .int .i64 50] T2 (0, 0))) (he : x.heap[e]? = some (.cells ([kW, y].flatMap ecs).toArray T3 (0, 0))) (hy : y.ns = [] ∧ y.ps = []) (hR : allBm kS [kW, y] = R0) (h1 : R0.length ≤ 1) :
    Calls Tryd.prog 22 #[.slice (some ⟨g, 0, none⟩) 1 c1, .slice (some ⟨e, 0, none⟩) 2 c2] x fun r x' => Turned [] x x' ∧ ∃ v, r = .returned (.tuple #[v, .int .i64 0]) ∧ BR x.heap.size x' v R0 := by
  have hE : EsAt x (.slice (some ⟨e, 0, none⟩) [kW, y].length c2) [kW, y] := es_block he (by simp) fun z hz => by
    simp only [List.mem_cons, List.not_mem_nil, or_false] at hz
    rcases hz with rfl | rfl
    · exact ⟨rfl, rfl⟩
    · exact hy
  refine (cVersions hE (ks_block h hp) (by simp [kS])).mono ?_
  intro r x' hv
  refine ⟨hv.tu, ?_⟩
  rcases hv.ans with ⟨h2, _⟩ | ⟨_, v, R, h3, h4, _, h6⟩
  · exact absurd h2 (by simp [manyB, kS])
  · rw [hR] at h4
    refine ⟨v, h3, ?_⟩
    have : R = R0 := by
      match R0, h1, h4 with
      | [], _, h4 => exact List.perm_nil.1 h4
      | [a], _, h4 => exact List.perm_singleton.1 h4
    rw [← this]
    exact h6
end Go.Proofs.YtbielnehggcaoaaDoor
/- A piece of code by its path; the ends of blocks. -/
namespace Go.Proofs.YtbielnehggcaoaaDoor
open Go.RowKit
/-- A sub-code by its path: 0 left, 1 right. -/
def sub : List Nat → Code → Code
  | [], c => c
  | 0 :: p, .seq a _ => sub p a
  | _ :: p, .seq _ b => sub p b
  | 0 :: p, .cond _ a _ => sub p a
  | _ :: p, .cond _ _ b => sub p b
  | _ :: p, .block _ c => sub p c
  | _ :: p, .scope c => sub p c
  | _ :: p, .loop c => sub p c
  | _, _ => .skip
def atc (b : Option Code) (p : List Nat) : Code := sub p (b.getD .skip)
/-- The last piece of a block. -/
theorem wp_lastB {P : Program} {c : Code} {M : Act → World → Prop} {Q : Exit → Act → World → Prop} {id : Nat} {a : Act} {x : World} (h : c.wp P (Exit.then M (fun _ _ _ => False)) a x) : c.wp P (Exit.inBlock id (Exit.then M Q)) a x :=
  wp_mono h fun e _ _ h => by cases e <;> first | exact h | exact h.elim
/-- A piece that goes on, or leaves. -/
theorem wp_endB {P : Program} {c : Code} {Q : Exit → Act → World → Prop} {a : Act} {x : World} (h : c.wp P (Exit.then (Q .normal) Q) a x) : c.wp P Q a x :=
  wp_mono h (fun e a w h => by cases e <;> exact h)
end Go.Proofs.YtbielnehggcaoaaDoor
/- A frame, spelled out. -/
namespace Go.Proofs.YtbielnehggcaoaaDoor
open Go.RowKit
def lit147 (c : Nat → Value) : Array Value := #[c 0, c 1, c 2, c 3, c 4, c 5, c 6, c 7, c 8, c 9, c 10, c 11, c 12, c 13, c 14, c 15, c 16, c 17, c 18, c 19, c 20, c 21, c 22, c 23, c 24, c 25, c 26, c 27, c 28, c 29, c 30, c 31, c 32, c 33, c 34, c 35, c 36, c 37, c 38, c 39, c 40, c 41, c 42, c 43, c 44, c 45, c 46, c 47, c 48, c 49, c 50, c 51, c 52, c 53, c 54, c 55, c 56, c 57, c 58, c 59, c 60, c 61, c 62, c 63, c 64, c 65, c 66, c 67, c 68, c 69, c 70, c 71, c 72, c 73, c 74, c 75, c 76, c 77, c 78, c 79, c 80, c 81, c 82, c 83, c 84, c 85, c 86, c 87, c 88, c 89, c 90, c 91, c 92, c 93, c 94, c 95, c 96, c 97, c 98, c 99, c 100, c 101, c 102, c 103, c 104, c 105, c 106, c 107, c 108, c 109, c 110, c 111, c 112, c 113, c 114, c 115, c 116, c 117, c 118, c 119, c 120, c 121, c 122, c 123, c 124, c 125, c 126, c 127, c 128, c 129, c 130, c 131, c 132, c 133, c 134, c 135, c 136, c 137, c 138, c 139, c 140, c 141, c 142, c 143, c 144, c 145, c 146]
set_option maxRecDepth 100000 in
theorem lit147_eq (c : Nat → Value) : lit147 c = ((List.range 147).map c).toArray := by rfl
theorem expand147 {a : Act} (hs : a.tmps.size = 147) (hd : a.defers = []) : ∃ c : Nat → Value, a = ⟨lit147 c, []⟩ ∧ ∀ s, c s = a.eval (.tmp s) := by
  refine ⟨fun s => a.tmps.getD s undef, ?_, fun s => rfl⟩
  obtain ⟨t, d⟩ := a
  simp only at hs hd
  subst hd
  congr 1
  rw [lit147_eq]
  refine Array.ext (by simp [hs]) fun i h1 h2 => ?_
  simp [Array.getD, h1]
theorem expand147d {a : Act} {ds : List Deferred} (hs : a.tmps.size = 147) (hd : a.defers = ds) : ∃ c : Nat → Value, a = ⟨lit147 c, ds⟩ ∧ ∀ s, c s = a.eval (.tmp s) := by
  refine ⟨fun s => a.tmps.getD s undef, ?_, fun s => rfl⟩
  obtain ⟨t, d⟩ := a
  simp only at hs hd
  subst hd
  congr 1
  rw [lit147_eq]
  refine Array.ext (by simp [hs]) fun i h1 h2 => ?_
  simp [Array.getD, h1]
end Go.Proofs.YtbielnehggcaoaaDoor

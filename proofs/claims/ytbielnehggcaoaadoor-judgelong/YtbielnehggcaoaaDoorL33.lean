/-
  The story begun: its parts, one behind the other. (By the verifier; no statement.)
-/
import Derived.Test.YtbielnehggcaoaaDoorL32
namespace Go.Proofs.YtbielnehggcaoaaDoor
open Go.RowKit
def encM (q : Nat) : List Value := [.map (some q)]
theorem enM : En 1 encM := ⟨fun _ => rfl, fun r u hu => by rw [List.mem_singleton.1 hu]; rfl⟩
theorem elM : El 65 62 1 8 (.map none) := ⟨by kernel_rfl, by kernel_rfl, rfl, by decide, by decide⟩
def hd1 (i : Nat) : Hold := fun x => if x = (i : Int) then some 7 else none
/-- a maps, b numbers, c starts are made. -/
structure L1 (w x : World) (tb sb stb m a b c : Nat) : Prop where
  tu : Turned [] w x
  low : w.heap.size ≤ tb ∧ w.heap.size ≤ sb ∧ w.heap.size ≤ stb
  tn : ∃ t : Int, 0 ≤ t ∧ t < 2147483648 ∧ x.heap[tb]? = some (tObj t)
  st : ∃ nv uv Ms, x.heap[sb]? = some (.cells #[nv, uv, .slice none 0 0] 64 (0, 0)) ∧ OW 65 1 encM w.heap.size x nv Ms ∧ Ms.length = a ∧ Ms.Nodup ∧ (∀ i, i < a → HM x (Ms.getD i 0) (hd1 i)) ∧ (∀ g, g ∈ Ms → w.heap.size ≤ g) ∧ OW 3 1 (fun q : Int => [Value.int .i64 q]) w.heap.size x uv (List.replicate b 1)
  sr : ∃ cs, x.heap[stb]? = some (.cells cs 41 (0, 0)) ∧ cs.size = m ∧ (∀ i, i < m → ∃ v : Value, cs[i]? = some v ∧ v.oneCell' = true) ∧ ∀ i, i < c → ∃ g, cs[i]? = some (.slice (some ⟨g, 0, none⟩) 2 2) ∧ x.heap[g]? = some (.cells #[.int .i64 i, .int .i64 3, .int .i64 i, .int .i64 7] 67 (0, 0))
section
variable {w x y z : World} {tb sb stb m a b c g : Nat} {nv uv v2 : Value} {Ms : List Nat}
/-- A map more. -/
theorem L1.now (h : L1 w x tb sb stb m a b c) (hst : x.heap[sb]? = some (.cells #[nv, uv, .slice none 0 0] 64 (0, 0))) (hO : OW 65 1 encM w.heap.size x nv Ms) (hL : Ms.length = a) (hN : Ms.Nodup) (hM : ∀ i, i < a → HM x (Ms.getD i 0) (hd1 i)) (hB : ∀ g, g ∈ Ms → w.heap.size ≤ g) (hU : OW 3 1 (fun q : Int => [Value.int .i64 q]) w.heap.size x uv (List.replicate b 1)) (hy : Turned [] x y) (hg : x.heap.size ≤ g) (hMg : HM y g (hd1 a)) (hz : Turned nv.ownBlock.toList y z) (ho2 : OW 65 1 encM w.heap.size z v2 (Ms ++ [g])) : (sb < z.heap.size ∧ z.cell? ⟨sb, 0, none⟩ = some nv ∧ z.frozen? ⟨sb, 0, none⟩ = false) ∧ L1 w (z.setCell ⟨sb, 0, none⟩ v2) tb sb stb m (a + 1) b c := by
  obtain ⟨t, t0, t1, t2⟩ := h.tn
  obtain ⟨cs, d1, d2, d3, d4⟩ := h.sr
  have own : ∀ g, g ∈ nv.ownBlock.toList → w.heap.size ≤ g ∧ ∃ cs, y.heap[g]? = some (.cells cs 65 (0, 0)) := fun g hg => by
    simp only [Option.mem_toList] at hg
    obtain ⟨cs', e1⟩ := hO.type hg
    exact ⟨(hO.fresh hg).1, cs', hy.heap e1 (by simp)⟩
  have hb : ∀ {g : Nat} {cs : Array Value} {T : TypeId}, x.heap[g]? = some (.cells cs T (0, 0)) → T ≠ 65 → z.heap[g]? = some (.cells cs T (0, 0)) := fun hx hT => hz.heap (hy.heap hx (by simp)) fun hm2 => by
    obtain ⟨-, cs2, e2⟩ := own _ hm2
    rw [hy.heap hx (by simp)] at e2
    simp only [Option.some.injEq, Obj.cells.injEq] at e2
    exact hT e2.2.1
  have st := hb hst (by decide)
  have hs : Turned [sb] z (z.setCell ⟨sb, 0, none⟩ v2) := (Turned.refl [sb] z).set (.inl (by simp)) _ _
  have off : ∀ {g : Nat} {cs : Array Value} {T : TypeId}, z.heap[g]? = some (.cells cs T (0, 0)) → T ≠ 64 → (z.setCell ⟨sb, 0, none⟩ v2).heap[g]? = some (.cells cs T (0, 0)) := fun hx hT => hs.heap hx (by simpa using fun e => tyne hx st hT e)
  have mp : ∀ {g : Nat} {f : Hold}, HM y g f → HM (z.setCell ⟨sb, 0, none⟩ v2) g f := fun hf => (hf.keep hz fun hm2 => by
    obtain ⟨-, cs2, e2⟩ := own _ hm2
    exact tyneM e2 hf rfl).keep hs (by
      obtain ⟨es, ck, ps, e3, -⟩ := hf.ex
      simp only [List.mem_singleton]
      intro e
      subst e
      have := hy.heap hst (by simp)
      rw [this] at e3
      cases e3)
  refine ⟨⟨lt_of_heap st, by rw [cell_at st]; rfl, froz_at st 0⟩, ⟨((h.tu.trans hy).inner hz fun g hg => .inr (own g hg).1).inner hs fun g hg => .inr (by rw [List.mem_singleton.1 hg]; exact h.low.2.1), h.low, ⟨t, t0, t1, off (hb t2 (by decide)) (by decide)⟩, ⟨v2, uv, Ms ++ [g], by have := blk_set st 0 v2; simpa using this, ho2.keep hs fun q hq hm2 => by (obtain ⟨cs', e1⟩ := ho2.type hq; rw [List.mem_singleton.1 hm2] at e1; exact tyne e1 st (by decide) rfl), by rw [List.length_append, hL]; rfl, ?_, fun i hi => ?_, fun q hq => ?_, ?_⟩, ⟨cs, off (hb d1 (by decide)) (by decide), d2, d3, fun i hi => by obtain ⟨g2, e1, e2⟩ := d4 i hi; exact ⟨g2, e1, off (hb e2 (by decide)) (by decide)⟩⟩⟩⟩
  · rw [List.nodup_append]
    refine ⟨hN, by simp, fun q hq q2 hq2 => ?_⟩
    rw [List.mem_singleton.1 hq2]
    rintro rfl
    obtain ⟨i, hi, e⟩ := List.getElem_of_mem hq
    have hm := hM i (by omega)
    have : Ms.getD i 0 = q := by simp [hi, e]
    rw [this] at hm
    have := hm.lt
    omega
  · by_cases hlt : i < a
    · rw [List.getD_eq_getElem?_getD, List.getElem?_append_left (by omega), ← List.getD_eq_getElem?_getD]
      exact mp ((hM i hlt).keep hy (by simp))
    · obtain rfl : i = a := by omega
      rw [List.getD_eq_getElem?_getD, List.getElem?_append_right (by omega), hL, Nat.sub_self]
      exact mp hMg
  · rcases List.mem_append.1 hq with hq | hq
    · exact hB q hq
    · rw [List.mem_singleton.1 hq]
      exact Nat.le_trans h.tu.size hg
  · refine ((hU.still hy).keep hz fun q hq hm2 => ?_).keep hs fun q hq hm2 => ?_
    · obtain ⟨cs1, e1⟩ := (hU.still hy).type hq
      obtain ⟨-, cs2, e2⟩ := own _ hm2
      exact tyne e1 e2 (by decide) rfl
    · obtain ⟨cs1, e1⟩ := hU.type hq
      rw [List.mem_singleton.1 hm2] at e1
      exact tyne e1 hst (by decide) rfl
/-- A number more. -/
theorem L1.num (h : L1 w x tb sb stb m a b c) (hst : x.heap[sb]? = some (.cells #[nv, uv, .slice none 0 0] 64 (0, 0))) (hO : OW 65 1 encM w.heap.size x nv Ms) (hL : Ms.length = a) (hN : Ms.Nodup) (hM : ∀ i, i < a → HM x (Ms.getD i 0) (hd1 i)) (hB : ∀ g, g ∈ Ms → w.heap.size ≤ g) (hU : OW 3 1 (fun q : Int => [Value.int .i64 q]) w.heap.size x uv (List.replicate b 1)) (hy : Turned [] x y) (hz : Turned uv.ownBlock.toList y z) (ho2 : OW 3 1 (fun q : Int => [Value.int .i64 q]) w.heap.size z v2 (List.replicate b 1 ++ [1])) : (sb < z.heap.size ∧ z.cell? ⟨sb, 1, none⟩ = some uv ∧ z.frozen? ⟨sb, 1, none⟩ = false) ∧ L1 w (z.setCell ⟨sb, 1, none⟩ v2) tb sb stb m a (b + 1) c := by
  obtain ⟨t, t0, t1, t2⟩ := h.tn
  obtain ⟨cs, d1, d2, d3, d4⟩ := h.sr
  have own : ∀ g, g ∈ uv.ownBlock.toList → w.heap.size ≤ g ∧ ∃ cs, y.heap[g]? = some (.cells cs 3 (0, 0)) := fun g hg => by
    simp only [Option.mem_toList] at hg
    obtain ⟨cs', e1⟩ := hU.type hg
    exact ⟨(hU.fresh hg).1, cs', hy.heap e1 (by simp)⟩
  have hb : ∀ {g : Nat} {cs : Array Value} {T : TypeId}, x.heap[g]? = some (.cells cs T (0, 0)) → T ≠ 3 → z.heap[g]? = some (.cells cs T (0, 0)) := fun hx hT => hz.heap (hy.heap hx (by simp)) fun hm2 => by
    obtain ⟨-, cs2, e2⟩ := own _ hm2
    rw [hy.heap hx (by simp)] at e2
    simp only [Option.some.injEq, Obj.cells.injEq] at e2
    exact hT e2.2.1
  have st := hb hst (by decide)
  have hs : Turned [sb] z (z.setCell ⟨sb, 1, none⟩ v2) := (Turned.refl [sb] z).set (.inl (by simp)) _ _
  have off : ∀ {g : Nat} {cs : Array Value} {T : TypeId}, z.heap[g]? = some (.cells cs T (0, 0)) → T ≠ 64 → (z.setCell ⟨sb, 1, none⟩ v2).heap[g]? = some (.cells cs T (0, 0)) := fun hx hT => hs.heap hx (by simpa using fun e => tyne hx st hT e)
  have mp : ∀ {g : Nat} {f : Hold}, HM y g f → HM (z.setCell ⟨sb, 1, none⟩ v2) g f := fun hf => (hf.keep hz fun hm2 => by
    obtain ⟨-, cs2, e2⟩ := own _ hm2
    exact tyneM e2 hf rfl).keep hs (by
      obtain ⟨es, ck, ps, e3, -⟩ := hf.ex
      simp only [List.mem_singleton]
      intro e
      subst e
      have := hy.heap hst (by simp)
      rw [this] at e3
      cases e3)
  refine ⟨⟨lt_of_heap st, by rw [cell_at st]; rfl, froz_at st 1⟩, ⟨((h.tu.trans hy).inner hz fun g hg => .inr (own g hg).1).inner hs fun g hg => .inr (by rw [List.mem_singleton.1 hg]; exact h.low.2.1), h.low, ⟨t, t0, t1, off (hb t2 (by decide)) (by decide)⟩, ⟨nv, v2, Ms, by have := blk_set st 1 v2; simpa using this, ?_, hL, hN, fun i hi => mp ((hM i hi).keep hy (by simp)), hB, ?_⟩, ⟨cs, off (hb d1 (by decide)) (by decide), d2, d3, fun i hi => by obtain ⟨g2, e1, e2⟩ := d4 i hi; exact ⟨g2, e1, off (hb e2 (by decide)) (by decide)⟩⟩⟩⟩
  · refine ((hO.still hy).keep hz fun q hq hm2 => ?_).keep hs fun q hq hm2 => ?_
    · obtain ⟨cs1, e1⟩ := (hO.still hy).type hq
      obtain ⟨-, cs2, e2⟩ := own _ hm2
      exact tyne e1 e2 (by decide) rfl
    · obtain ⟨cs1, e1⟩ := hO.type hq
      rw [List.mem_singleton.1 hm2] at e1
      exact tyne e1 hst (by decide) rfl
  · rw [List.replicate_succ']
    exact ho2.keep hs fun q hq hm2 => by
      obtain ⟨cs', e1⟩ := ho2.type hq
      rw [List.mem_singleton.1 hm2] at e1
      exact tyne e1 st (by decide) rfl
/-- A start more: its pairs lie at g. -/
theorem L1.start (h : L1 w x tb sb stb m a b c) (hc : c < m) (hy : Turned [] x y) (hg : y.heap[g]? = some (.cells #[.int .i64 c, .int .i64 3, .int .i64 c, .int .i64 7] 67 (0, 0))) : (stb < y.heap.size ∧ (∃ v, y.cell? ⟨stb, c, none⟩ = some v) ∧ y.frozen? ⟨stb, c, none⟩ = false) ∧ L1 w (y.setCell ⟨stb, c, none⟩ (.slice (some ⟨g, 0, none⟩) 2 2)) tb sb stb m a b (c + 1) := by
  obtain ⟨t, t0, t1, t2⟩ := h.tn
  obtain ⟨nv, uv, Ms, hst, hO, hL, hN, hM, hB, hU⟩ := h.st
  obtain ⟨cs, d1, d2, d3, d4⟩ := h.sr
  have e1 := hy.heap d1 (by simp)
  have hs : Turned [stb] y (y.setCell ⟨stb, c, none⟩ (.slice (some ⟨g, 0, none⟩) 2 2)) := (Turned.refl [stb] y).set (.inl (by simp)) _ _
  have off : ∀ {g : Nat} {cs : Array Value} {T : TypeId}, y.heap[g]? = some (.cells cs T (0, 0)) → T ≠ 41 → (y.setCell ⟨stb, c, none⟩ (.slice (some ⟨_, 0, none⟩) 2 2)).heap[g]? = some (.cells cs T (0, 0)) := fun hx hT => hs.heap hx (by simpa using fun e => tyne hx e1 hT e)
  have hsz : c < cs.size := by omega
  have ow : ∀ {T : TypeId} {k : Nat} {α : Type} {enc : α → List Value} {v : Value} {R : List α}, OW T k enc w.heap.size x v R → T ≠ 41 → OW T k enc w.heap.size (y.setCell ⟨stb, c, none⟩ (.slice (some ⟨g, 0, none⟩) 2 2)) v R := fun h1 hT => (h1.still hy).keep hs fun q hq hm2 => by
    obtain ⟨cs1, e2⟩ := (h1.still hy).type hq
    rw [List.mem_singleton.1 hm2] at e2
    exact tyne e2 e1 hT rfl
  refine ⟨⟨lt_of_heap e1, ⟨_, by rw [cell_at e1]; exact Array.getElem?_eq_getElem hsz⟩, froz_at e1 c⟩, ⟨(h.tu.trans hy).inner hs fun q hq => .inr (by rw [List.mem_singleton.1 hq]; exact h.low.2.2), h.low, ⟨t, t0, t1, off (hy.heap t2 (by simp)) (by decide)⟩, ⟨nv, uv, Ms, off (hy.heap hst (by simp)) (by decide), ow hO (by decide), hL, hN, fun i hi => ((hM i hi).keep hy (by simp)).keep hs (by simpa using (tyneM e1 ((hM i hi).keep hy (by simp))).symm), hB, ow hU (by decide)⟩, ⟨_, blk_set e1 c _, by simp [d2], fun i hi => ?_, fun i hi => ?_⟩⟩⟩
  · rw [set_at hsz]
    by_cases e : c = i
    · rw [if_pos e]
      exact ⟨_, rfl, rfl⟩
    · rw [if_neg e]
      exact d3 i hi
  · rw [set_at hsz]
    by_cases e : c = i
    · subst e
      rw [if_pos rfl]
      exact ⟨g, rfl, off hg (by decide)⟩
    · rw [if_neg e]
      obtain ⟨g2, e2, e3⟩ := d4 i (by omega)
      exact ⟨g2, e2, off (hy.heap e3 (by simp)) (by decide)⟩
end
theorem L1.cellS {w x : World} {tb sb stb m a b c : Nat} (h : L1 w x tb sb stb m a b c) {i : Nat} (hi : i < m) : stb < x.heap.size ∧ (∃ v, x.cell? ⟨stb, i, none⟩ = some v) ∧ x.frozen? ⟨stb, i, none⟩ = false := by
  obtain ⟨cs, d1, d2, d3, d4⟩ := h.sr
  exact ⟨lt_of_heap d1, ⟨_, by rw [cell_at d1]; exact Array.getElem?_eq_getElem (by omega)⟩, froz_at d1 i⟩
/-- The starts of m parts. -/
def startS (m : Nat) : List (List (Int × Int)) := (List.range m).map fun p : Nat => [((p : Int), 3), ((p : Int), 7)]
theorem startS_len (m : Nat) : (startS m).length = m := by unfold startS; rw [List.length_map, List.length_range]
theorem startS_get {m p : Nat} (h : p < m) : (startS m).getD p [] = [((p : Int), 3), ((p : Int), 7)] := by unfold startS; simp [h]
theorem firstH_start {m p : Nat} (h : p < m) : firstH (startS m) p = hd1 p := by
  unfold firstH
  rw [show ((p : Nat) : Int).toNat = p by omega, startS_get h]
  funext x
  show (if x = (p : Int) then some 7 else if x = (p : Int) then some 3 else Option.none) = if x = (p : Int) then some 7 else Option.none
  split <;> rfl
/-- The starts, as they lie. -/
structure StA (x : World) (stb m : Nat) : Prop where
  ex : ∃ cs, x.heap[stb]? = some (.cells cs 41 (0, 0)) ∧ ∀ i, i < m → ∃ g, cs[i]? = some (.slice (some ⟨g, 0, none⟩) 2 2) ∧ x.heap[g]? = some (.cells #[.int .i64 i, .int .i64 3, .int .i64 i, .int .i64 7] 67 (0, 0))
theorem StA.ss {x : World} {stb m : Nat} (h : StA x stb m) : SsAt x (.slice (some ⟨stb, 0, none⟩) (startS m).length m) (startS m) := by
  obtain ⟨cs, d1, d2⟩ := h.ex
  refine ⟨_, _, rfl, fun i l hl => ?_⟩
  have hi : i < m := by
    have := (List.getElem?_eq_some_iff.1 hl).1
    rwa [startS_len] at this
  obtain ⟨g, e1, e2⟩ := d2 i hi
  have el : l = [((i : Int), 3), ((i : Int), 7)] := by
    rw [← startS_get hi]
    simp [List.getD, hl]
  subst el
  refine ⟨stb, 0, _, rfl, by rw [cell_at d1, Nat.zero_add]; exact e1, ⟨by simp, _, _, rfl, fun _ => ⟨g, 0, rfl, fun k hk => ?_⟩⟩⟩
  simp only [List.length_cons, List.length_nil] at hk
  rcases (by omega : k = 0 ∨ k = 1) with rfl | rfl
  · exact ⟨by rw [cell_at e2]; rfl, by rw [cell_at e2]; rfl⟩
  · exact ⟨by rw [cell_at e2]; rfl, by rw [cell_at e2]; rfl⟩
/-- All parts are begun. -/
theorem L1.begun {w x : World} {tb sb stb m : Nat} (h : L1 w x tb sb stb m m m m) (hm : 1 ≤ m) : ∃ nb nc ub uc Ms, MY tb sb ub nb uc nc m Ms x x (fun p => (nuL [] p : Int)) (fun p => hoL (firstH (startS m) p) [] p) (.slice none 0 0) [] ∧ StA x stb m ∧ ∀ g, g ∈ tb :: sb :: ub :: Ms → w.heap.size ≤ g := by
  obtain ⟨t, t0, t1, t2⟩ := h.tn
  obtain ⟨nv, uv, Ms, hst, hO, hL, hN, hM, hB, hU⟩ := h.st
  obtain ⟨cs, d1, d2, d3, d4⟩ := h.sr
  obtain ⟨nb, nc, rfl⟩ := hO.at_ (fun e => by rw [e] at hL; simp at hL; omega)
  obtain ⟨ub, uc, rfl⟩ := hU.at_ (fun e => by have := congrArg List.length e; rw [List.length_replicate] at this; simp at this; omega)
  rw [hL] at hst
  rw [List.length_replicate] at hst
  obtain ⟨ns, hns⟩ := hO.type (g := nb) rfl
  obtain ⟨us, hus⟩ := hU.type (g := ub) rfl
  refine ⟨nb, nc, ub, uc, Ms, ⟨Turned.refl _ _, ⟨lt_of_heap t2, lt_of_heap hst, lt_of_heap hus, lt_of_heap hns⟩, ⟨t, t0, t1, t2⟩, hst, ⟨us, hus, fun p hp => ?_⟩, ⟨ns, hns, fun p hp => ?_⟩, fun p hp => ?_, ⟨hL, hN⟩, ⟨[], OW.nil _ _ _ _ _, rfl, fun i hi => absurd hi (Nat.not_lt_zero _)⟩⟩, ⟨cs, d1, d4⟩, fun g hg => ?_⟩
  · have h1 := hU.own.cellAt p (by rw [List.length_replicate]; omega)
    rw [cell_at hus] at h1
    rw [h1, flat_single (Value.int .i64 ·)]
    simp [hp, nuL]
  · have h1 := hO.own.cellAt p (by rw [hL]; omega)
    rw [cell_at hns] at h1
    have h2 := rowO_at enM Ms (i := p) (j := 0) (by omega) (by decide)
    rw [Nat.mul_one, Nat.add_zero] at h2
    rw [h1, h2]
    have : p < Ms.length := by omega
    simp [encM, this]
  · have h1 := hM p hp
    rw [← firstH_start hp] at h1
    exact h1
  · simp only [List.mem_cons] at hg
    rcases hg with rfl | rfl | rfl | hg
    · exact h.low.1
    · exact h.low.2.1
    · exact (hU.fresh (g := g) rfl).1
    · exact hB g hg
/-- The starts are as they were. -/
theorem MY.starts {tb sb ub nb uc nc m m2 stb : Nat} {Ms : List Nat} {W1 x : World} {nu nu2 : Nat → Int} {ho ho2 : Nat → Hold} {lv lv2 : Value} {D D2 : List Ev} (h0 : MY tb sb ub nb uc nc m Ms W1 W1 nu ho lv D) (h : MY tb sb ub nb uc nc m Ms W1 x nu2 ho2 lv2 D2) (hs : StA W1 stb m2) : StA x stb m2 := by
  obtain ⟨t, t0, t1, t2⟩ := h0.tn
  obtain ⟨us, c1, c2⟩ := h0.nus
  obtain ⟨cs, d1, d2⟩ := hs.ex
  have off : ∀ {g : Nat} {cs : Array Value} {T : TypeId}, W1.heap[g]? = some (.cells cs T (0, 0)) → T = 41 ∨ T = 67 → x.heap[g]? = some (.cells cs T (0, 0)) := fun hg hT => h.tu.heap hg fun hm => by
    simp only [List.mem_cons] at hm
    rcases hm with e | e | e | hm
    · exact tyne hg t2 (by rcases hT with rfl | rfl <;> decide) e
    · exact tyne hg h0.st (by rcases hT with rfl | rfl <;> decide) e
    · exact tyne hg c1 (by rcases hT with rfl | rfl <;> decide) e
    · exact h0.off hg hm
  exact ⟨cs, off d1 (.inl rfl), fun i hi => by obtain ⟨g, e1, e2⟩ := d2 i hi; exact ⟨g, e1, off e2 (.inr rfl)⟩⟩
theorem SM.nil (m : Nat) : SM (startS m) [] := by
  refine ⟨⟨by simp, fun i hi => absurd hi (Nat.not_lt_zero _)⟩, fun i hi => absurd hi (Nat.not_lt_zero _), fun i hi => absurd hi (Nat.not_lt_zero _), fun i => rfl, fun p key v hv => ?_⟩
  have hv : firstH (startS m) p key = some v := hv
  by_cases hp : p.toNat < m
  · have h2 := firstH_start hp
    have e : firstH (startS m) p = firstH (startS m) (p.toNat : Int) := by unfold firstH; rw [show ((p.toNat : Nat) : Int).toNat = p.toNat by omega]
    rw [e, h2] at hv
    unfold hd1 at hv
    split at hv
    · cases hv; decide
    · cases hv
  · unfold firstH at hv
    rw [List.getD_eq_getElem?_getD, List.getElem?_eq_none (by rw [startS_len]; omega)] at hv
    cases hv
theorem elPsZ : El 41 38 1 24 (.slice none 0 0) := ⟨by kernel_rfl, by kernel_rfl, rfl, by decide, by decide⟩
theorem run_mkSt (n : Nat) (h : n ≤ 4) (w : World) :
    (Instr.makeSlice 38 (.int .i64 (n : Int)) (.int .i64 (n : Int))).run Tryd.prog w = .ok (.slice (some ⟨w.heap.size, 0, none⟩) n n) (w.alloc (.cells (madeCells #[.slice none 0 0] n) 41 (0, 0))) := by
  obtain ⟨i, hi, hzz⟩ := Option.map_eq_some_iff.1 elPsZ.info
  simp only [Prod.mk.injEq] at hzz
  obtain ⟨hz, hs, hb⟩ := hzz
  have hr := run_make (P := Tryd.prog) w 38 41 i _ (by kernel_rfl) hi hz .i64 .i64 (n : Int) (n : Int) (by omega) (by omega) (by rw [hb]; omega) (by omega)
  simp only [Int.toNat_natCast, hs, Nat.mul_one] at hr
  exact hr
theorem L1.zero {w : World} {q : Int} {m : Nat} (hq : 0 ≤ q ∧ q < 2147483648) : L1 w (((w.alloc (tObj q)).alloc (.cells #[.slice none 0 0, .slice none 0 0, .slice none 0 0] 64 (0, 0))).alloc (.cells (madeCells #[.slice none 0 0] m) 41 (0, 0))) w.heap.size (w.heap.size + 1) (w.heap.size + 2) m 0 0 0 := by
  have hsz : (madeCells #[Value.slice none 0 0] m).size = m := by unfold madeCells; simp
  have hc : ∀ i, i < m → (madeCells #[Value.slice none 0 0] m)[i]? = some (.slice none 0 0) := fun i hi => by
    unfold madeCells
    simp [hi, Nat.mod_one]
  refine ⟨(((Turned.refl [] w).alloc _).alloc _).alloc _, ⟨Nat.le_refl _, by omega, by omega⟩, ⟨q, hq.1, hq.2, blk30 _ _ _ _⟩, ⟨_, _, [], blk31 _ _ _ _, OW.nil _ _ _ _ _, rfl, List.nodup_nil, fun i hi => absurd hi (Nat.not_lt_zero _), fun g hg => (by cases hg), OW.nil _ _ _ _ _⟩, ⟨_, blk32 _ _ _ _, hsz, fun i hi => ⟨_, hc i hi, rfl⟩, fun i hi => absurd hi (Nat.not_lt_zero _)⟩⟩
end Go.Proofs.YtbielnehggcaoaaDoor

/-
  An event is taken up; by contract. (By the verifier; no statement.)
-/
import Derived.Test.YtbielnehggcaoaaDoorL16
import Derived.Test.YtbielnehggcaoaaDoorL07
namespace Go.Proofs.YtbielnehggcaoaaDoor
open Go.RowKit
def pubF (m : Int) (D : List Ev) (n : Nat) : Int × Int → Option (Int × Int) := fun k => if timesN m D n k.1 k.2 = 0 then none else some ((timesN m D n k.1 k.2 : Nat), (placeN m D n k.1 k.2 : Nat))
/-- The court's state when n events are taken up. -/
def sN (m : Int) (D : List Ev) (n : Nat) : Ct := ⟨endL m D n, busyB m D n, pubF m D n, fun _ => 0, wrongL m D n⟩
section
variable {m : Int} {D : List Ev} {n : Nat}
theorem pubV_F (k : Int × Int) : (pubV (pubF m D n) k).1 = (timesN m D n k.1 k.2 : Nat) := by
  unfold pubV pubF
  split
  · rename_i h; simp [h]
  · rfl
theorem pubF_skip (h : (endB m (eAt D n) && (eAt D n).pub) = false) : pubF m D (n + 1) = pubF m D n := by
  funext k
  have hc : (endB m (eAt D n) && ((eAt D n).pub && decide ((eAt D n).p = k.1) && decide ((eAt D n).num = k.2))) = false := by
    cases h1 : endB m (eAt D n)
    · rfl
    · cases h2 : (eAt D n).pub
      · rfl
      · rw [h1, h2] at h; cases h
  unfold pubF
  rw [times_succ, place_succ, hc]
  rfl
theorem pubF_put (h : (endB m (eAt D n) && (eAt D n).pub) = true) : pubF m D (n + 1) = fun k => if k = ((eAt D n).p, (eAt D n).num) then some (((timesN m D n (eAt D n).p (eAt D n).num : Nat) : Int) + 1, (n : Int)) else pubF m D n k := by
  rw [Bool.and_eq_true] at h
  funext k
  unfold pubF
  rw [times_succ, place_succ, h.1, h.2]
  by_cases e : k = ((eAt D n).p, (eAt D n).num)
  · rw [if_pos e, e]
    simp
  · rw [if_neg e]
    have hc : (true && (true && decide ((eAt D n).p = k.1) && decide ((eAt D n).num = k.2))) = false := by
      cases hq : (true && (true && decide ((eAt D n).p = k.1) && decide ((eAt D n).num = k.2))) with
      | false => rfl
      | true =>
        simp only [Bool.true_and, Bool.and_eq_true, decide_eq_true_eq] at hq
        exact absurd (Prod.ext hq.1.symm hq.2.symm) e
    rw [hc]
    simp
theorem sN_wrong (h : (eAt D n).good m = false) : sN m D (n + 1) = { sN m D n with bl := (sN m D n).bl ++ [((n : Int), -1, 1)] } := by
  have he : endB m (eAt D n) = false := by unfold endB; rw [h]; rfl
  unfold sN
  rw [endL_succ, wrongL_succ, pubF_skip (by rw [he]; rfl), he, h]
  simp only [Bool.false_eq_true, if_false, List.append_nil, Ct.mk.injEq, true_and, and_true]
  funext p
  rw [busyB_succ, h]
  simp
theorem sN_end (h : (eAt D n).good m = true) (h0 : (eAt D n).e ≠ 0) : sN m D (n + 1) = { sN m D n with ended := (sN m D n).ended ++ [n], pubs := if (eAt D n).pub then (fun k => if k = ((eAt D n).p, (eAt D n).num) then some ((pubV (sN m D n).pubs ((eAt D n).p, (eAt D n).num)).1 + 1, (n : Int)) else (sN m D n).pubs k) else (sN m D n).pubs } := by
  have he : endB m (eAt D n) = true := by unfold endB; rw [h]; simpa using h0
  have hp : pubF m D (n + 1) = if (eAt D n).pub then (fun k => if k = ((eAt D n).p, (eAt D n).num) then some ((pubV (pubF m D n) ((eAt D n).p, (eAt D n).num)).1 + 1, (n : Int)) else pubF m D n k) else pubF m D n := by
    cases hq : (eAt D n).pub with
    | false => rw [pubF_skip (by rw [hq]; simp)]; simp
    | true => rw [pubF_put (by rw [he, hq]; rfl), pubV_F]; simp
  unfold sN
  rw [endL_succ, wrongL_succ, he, h, hp]
  simp only [if_true, List.append_nil, Ct.mk.injEq, true_and, and_true]
  funext p
  rw [busyB_succ, decide_eq_false h0]
  simp
theorem sN_busy (h : (eAt D n).good m = true) (h0 : (eAt D n).e = 0) (hq : (eAt D n).pub = true) : sN m D (n + 1) = { sN m D n with busy := fun p => (sN m D n).busy p || decide ((eAt D n).p = p) } := by
  have he : endB m (eAt D n) = false := by unfold endB; rw [h]; simpa using h0
  unfold sN
  rw [endL_succ, wrongL_succ, pubF_skip (by rw [he]; rfl), he, h]
  simp only [Bool.false_eq_true, if_false, if_true, List.append_nil, Ct.mk.injEq, true_and, and_true]
  funext p
  rw [busyB_succ, h, decide_eq_true h0, hq]
  simp
theorem sN_same (h : (eAt D n).good m = true) (h0 : (eAt D n).e = 0) (hq : (eAt D n).pub = false) : sN m D (n + 1) = sN m D n := by
  have he : endB m (eAt D n) = false := by unfold endB; rw [h]; simpa using h0
  unfold sN
  rw [endL_succ, wrongL_succ, pubF_skip (by rw [he]; rfl), he, h]
  simp only [Bool.false_eq_true, if_false, if_true, List.append_nil, Ct.mk.injEq, true_and, and_true]
  funext p
  rw [busyB_succ, hq]
  simp
theorem good_part (h : (eAt D n).good m = true) (hq : (eAt D n).pub = true) : 0 ≤ (eAt D n).p ∧ (eAt D n).p < m := by
  unfold Ev.good at h
  simp only [Bool.and_eq_true] at h
  have h1 := h.1.2
  unfold Ev.inPart at h1
  unfold Ev.pub at hq
  simp only [Bool.or_eq_true, decide_eq_true_eq] at hq
  rw [if_neg (by omega)] at h1
  simpa using h1
theorem endL_len (m : Int) (D : List Ev) (n : Nat) : (endL m D n).length ≤ n := by
  unfold endL
  exact Nat.le_trans (List.length_filter_le _ _) (by rw [List.length_range]; exact Nat.le_refl n)
theorem wrongL_len (m : Int) (D : List Ev) (n : Nat) : (wrongL m D n).length ≤ n := by
  unfold wrongL
  rw [List.length_map]
  exact Nat.le_trans (List.length_filter_le _ _) (by rw [List.length_range]; exact Nat.le_refl n)
end
section
variable {w0 : World} {cb kb : Nat} {sv ev ve : Value} {s : Ct} {x : World}
/-- One cell of the court turns: what is busy. -/
theorem CT.busy' (h : CT w0 cb kb sv ev ve s x) {p : Nat} (hp : p < 64) (u : Bool) : CT w0 cb kb sv ev ve { s with busy := fun q => if q = (p : Int) then u else s.busy q } (x.setCell ⟨cb, 3 + p, none⟩ (.bool u)) := by
  obtain ⟨cs, vb, a1, a2, a3, a4, a5, a6, a7, a8, a9, a10, a11⟩ := h.ex
  have ht : Turned [cb] x (x.setCell ⟨cb, 3 + p, none⟩ (.bool u)) := (Turned.refl [cb] x).set (by simp) _ _
  obtain ⟨es, cl, ps, hm, _⟩ := h.map.ex
  refine ⟨ht.below h.below (by simp; exact h.base.1) h.below.size, h.base, h.map.keep ht (by simpa using (mapne a1 hm).symm), _, vb, blk_set a1 (3 + p) _, by simp [a2], ?_, ?_, ?_, ?_, ?_, ?_, ?_, a10.keep ht fun g hg => ?_, a11.keep ht fun g hg => ?_⟩
  · rw [Array.getElem?_setIfInBounds_ne (by omega)]; exact a3
  · rw [Array.getElem?_setIfInBounds_ne (by omega)]; exact a4
  · rw [Array.getElem?_setIfInBounds_ne (by omega)]; exact a5
  · intro q hq
    by_cases e : q = p
    · subst e
      rw [Array.getElem?_setIfInBounds_self_of_lt (by omega)]
      simp
    · rw [Array.getElem?_setIfInBounds_ne (by omega), a6 q hq]
      show _ = some (Value.bool (if (q : Int) = p then u else s.busy q))
      rw [if_neg (by omega)]
  · rw [Array.getElem?_setIfInBounds_ne (by omega)]; exact a7
  · intro q hq
    rw [Array.getElem?_setIfInBounds_ne (by omega)]; exact a8 q hq
  · rw [Array.getElem?_setIfInBounds_ne (by omega)]; exact a9
  · obtain ⟨c2, h2⟩ := a10.type hg
    simpa using tyne h2 a1 (by decide)
  · obtain ⟨c2, h2⟩ := a11.type hg
    simpa using tyne h2 a1 (by decide)
/-- One cell of the court turns: a part's last version. -/
theorem CT.last' (h : CT w0 cb kb sv ev ve s x) {p : Nat} (hp : p < 64) (u : Int) : CT w0 cb kb sv ev ve { s with last := fun q => if q = (p : Int) then u else s.last q } (x.setCell ⟨cb, 68 + p, none⟩ (.int .i64 u)) := by
  obtain ⟨cs, vb, a1, a2, a3, a4, a5, a6, a7, a8, a9, a10, a11⟩ := h.ex
  have ht : Turned [cb] x (x.setCell ⟨cb, 68 + p, none⟩ (.int .i64 u)) := (Turned.refl [cb] x).set (by simp) _ _
  obtain ⟨es, cl, ps, hm, _⟩ := h.map.ex
  refine ⟨ht.below h.below (by simp; exact h.base.1) h.below.size, h.base, h.map.keep ht (by simpa using (mapne a1 hm).symm), _, vb, blk_set a1 (68 + p) _, by simp [a2], ?_, ?_, ?_, ?_, ?_, ?_, ?_, a10.keep ht fun g hg => ?_, a11.keep ht fun g hg => ?_⟩
  · rw [Array.getElem?_setIfInBounds_ne (by omega)]; exact a3
  · rw [Array.getElem?_setIfInBounds_ne (by omega)]; exact a4
  · rw [Array.getElem?_setIfInBounds_ne (by omega)]; exact a5
  · intro q hq
    rw [Array.getElem?_setIfInBounds_ne (by omega)]; exact a6 q hq
  · rw [Array.getElem?_setIfInBounds_ne (by omega)]; exact a7
  · intro q hq
    by_cases e : q = p
    · subst e
      rw [Array.getElem?_setIfInBounds_self_of_lt (by omega)]
      simp
    · rw [Array.getElem?_setIfInBounds_ne (by omega), a8 q hq]
      show _ = some (Value.int .i64 (if (q : Int) = p then u else s.last q))
      rw [if_neg (by omega)]
  · rw [Array.getElem?_setIfInBounds_ne (by omega)]; exact a9
  · obtain ⟨c2, h2⟩ := a10.type hg
    simpa using tyne h2 a1 (by decide)
  · obtain ⟨c2, h2⟩ := a11.type hg
    simpa using tyne h2 a1 (by decide)
/-- One more has ended. -/
theorem CT.ended' (h : CT w0 cb kb sv ev ve s x) {y : World} {v : Value} {i : Nat} (hI : IR w0.heap.size y v (ints (s.ended ++ [i]))) (hT : Turned ve.ownBlock.toList x y) : CT w0 cb kb sv ev v { s with ended := s.ended ++ [i] } (y.setCell ⟨cb, 2, none⟩ v) := by
  obtain ⟨cs, vb, a1, a2, a3, a4, a5, a6, a7, a8, a9, a10, a11⟩ := h.ex
  obtain ⟨es, cl, ps, hm, _⟩ := h.map.ex
  have hG : ∀ g, ve.ownBlock = some g → g ≠ cb ∧ g ≠ kb ∧ (∀ g', vb.ownBlock = some g' → g' ≠ g) := fun g hg => by
    obtain ⟨cs', hh⟩ := a10.type hg
    exact ⟨tyne hh a1 (by decide), mapne hh hm, fun g' hg' => by
      obtain ⟨cs2, h2⟩ := a11.type hg'
      exact tyne h2 hh (by decide)⟩
  have h1 := hT.heap a1 (by intro hq; simp only [Option.mem_toList] at hq; exact (hG _ hq).1 rfl)
  have ht : Turned [cb] y (y.setCell ⟨cb, 2, none⟩ v) := (Turned.refl [cb] y).set (by simp) _ _
  have hB := h.below.size
  have hbel : Below w0.heap.size w0 y := hT.below h.below (fun g hg => by simp only [Option.mem_toList] at hg; exact (a10.fresh hg).1) hB
  have hmap := h.map.keep hT (by intro hq; simp only [Option.mem_toList] at hq; exact (hG _ hq).2.1 rfl)
  obtain ⟨es2, cl2, ps2, hm2, _⟩ := hmap.ex
  have hbr := a11.keep hT fun g hg hq => by simp only [Option.mem_toList] at hq; exact (hG _ hq).2.2 g hg rfl
  refine ⟨ht.below hbel (by simp; exact h.base.1) hbel.size, h.base, hmap.keep ht (by simpa using (mapne h1 hm2).symm), _, vb, blk_set h1 2 _, by simp [a2], ?_, ?_, ?_, ?_, ?_, ?_, ?_, hI.keep ht fun g hg => ?_, hbr.keep ht fun g hg => ?_⟩
  · rw [Array.getElem?_setIfInBounds_ne (by omega)]; exact a3
  · rw [Array.getElem?_setIfInBounds_ne (by omega)]; exact a4
  · rw [Array.getElem?_setIfInBounds_self_of_lt (by omega)]
  · intro q hq
    rw [Array.getElem?_setIfInBounds_ne (by omega)]; exact a6 q hq
  · rw [Array.getElem?_setIfInBounds_ne (by omega)]; exact a7
  · intro q hq
    rw [Array.getElem?_setIfInBounds_ne (by omega)]; exact a8 q hq
  · rw [Array.getElem?_setIfInBounds_ne (by omega)]; exact a9
  · obtain ⟨c2, h2⟩ := hI.type hg
    simpa using tyne h2 h1 (by decide)
  · obtain ⟨c2, h2⟩ := hbr.type hg
    simpa using tyne h2 h1 (by decide)
theorem CT.cells (h : CT w0 cb kb sv ev ve s x) : cb < x.heap.size ∧ x.cell? ⟨cb, 0, none⟩ = some sv ∧ x.cell? ⟨cb, 1, none⟩ = some ev ∧ x.cell? ⟨cb, 2, none⟩ = some ve ∧ (∀ p : Nat, p < 64 → x.cell? ⟨cb, 3 + p, none⟩ = some (.bool (s.busy p))) ∧ x.cell? ⟨cb, 67, none⟩ = some (.map (some kb)) ∧ (∀ p : Nat, p < 64 → x.cell? ⟨cb, 68 + p, none⟩ = some (.int .i64 (s.last p))) ∧ ∀ i, x.frozen? ⟨cb, i, none⟩ = false := by
  obtain ⟨cs, vb, a1, a2, a3, a4, a5, a6, a7, a8, a9, a10, a11⟩ := h.ex
  exact ⟨lt_of_heap a1, by rw [cell_at a1]; exact a3, by rw [cell_at a1]; exact a4, by rw [cell_at a1]; exact a5, fun p hp => by rw [cell_at a1]; exact a6 p hp, by rw [cell_at a1]; exact a7, fun p hp => by rw [cell_at a1]; exact a8 p hp, fun i => froz_at a1 i⟩
theorem CT.row (h : CT w0 cb kb sv ev ve s x) : IR w0.heap.size x ve (ints s.ended) := by
  obtain ⟨cs, vb, a1, a2, a3, a4, a5, a6, a7, a8, a9, a10, a11⟩ := h.ex
  exact a10
theorem IR.somes {B : Nat} {w : World} {v : Value} {l : List Int} {a : Int} (h : IR B w v (l ++ [a])) : ∃ g c, v = .slice (some ⟨g, 0, none⟩) (l.length + 1) c := by
  obtain ⟨g, c, e⟩ := h.at_ (by simp)
  exact ⟨g, c, by simpa using e⟩
theorem IV.one {w : World} {g : Nat} {a : Int} {T : TypeId} (h : w.heap[g]? = some (.cells #[.int .i64 a] T (0, 0))) : IV w (.slice (some ⟨g, 0, none⟩) 1 1) [a] :=
  ⟨_, 1, rfl, (fun h => by cases h), fun _ => ⟨g, 0, rfl, fun i hi => by
    have : i = 0 := by simpa using hi
    subst this
    rw [cell_at h]
    rfl⟩⟩
end
end Go.Proofs.YtbielnehggcaoaaDoor
/-
  An event is taken up; by contract. (By the verifier; no statement.)
-/
namespace Go.Proofs.YtbielnehggcaoaaDoor
open Go.RowKit
section
variable {w0 : World} {cb kb m sc i : Nat} {sa : Option Addr} {ev ve : Value} {D : List Ev} {x : World}
theorem ended_ne {s : Ct} {sv : Value} (h : CT w0 cb kb sv ev ve s x) : cb ∉ ve.ownBlock.toList := by
  intro hq
  simp only [Option.mem_toList] at hq
  obtain ⟨cs, hh⟩ := h.row.type hq
  obtain ⟨cs2, vb, a1, _⟩ := h.ex
  exact tyne hh a1 (by decide) rfl
theorem CT.frozen {s : Ct} {sv : Value} (h : CT w0 cb kb sv ev ve s x) {y : World} {l : List Nat} (ht : Turned l x y) (hn : cb ∉ l) : ∀ j, y.frozen? ⟨cb, j, none⟩ = false := fun j => by
  obtain ⟨cs2, vb, a1, _⟩ := h.ex
  exact froz_at (ht.heap a1 hn) j
set_option maxRecDepth 100000 in
set_option maxHeartbeats 3200000 in
theorem cCall (hE : EsAt w0 ev D) (hm : m ≤ 64) (h : CT w0 cb kb (.slice sa m sc) ev ve (sN m D i) x) (hi : i < D.length) : Calls Tryd.prog 62 #[.pointer (some ⟨cb, 0, none⟩), .int .i64 i] x fun r x' => r = .returned (.tuple #[]) ∧ ∃ ve', CT w0 cb kb (.slice sa m sc) ev ve' (sN m D (i + 1)) x' := by
  have hn := hE.len
  obtain ⟨b, o, c, rfl, he0⟩ := hE.get hi
  have he : EvAt x b (o + i * 13) (eAt D i) := he0.below h.below rfl
  have HE : Hid (EvAt x b (o + i * 13) (eAt D i)) := he
  have HE0 : Hid (EvAt w0 b (o + i * 13) (eAt D i)) := he0
  have PR := cIsRight (m := m) he (by omega)
  obtain ⟨hlt, q0, q1, q2, q3, q67, q68, qf⟩ := h.cells
  have HC : Hid (CT w0 cb kb (.slice sa m sc) (.slice (some ⟨b, o, none⟩) D.length c) ve (sN m D i) x) := h
  have hlt2 : b < x.heap.size := he.lt
  have e2 := he.c2
  have e4 := he.c4
  clear h he he0 hE q3 q67 q68
  generalize D.length = n at *
  cases d1 : (eAt D i).good m with
  | false =>
    have HS : Hid _ := sN_wrong d1
    rw [d1] at PR
    clear qf q2 e2 e4
    have PB := fun {y : World} (hy : CT w0 cb kb (.slice sa m sc) (.slice (some ⟨b, o, none⟩) n c) ve (sN m D i) y) => cBlame hy (Nat.le_trans (wrongL_len m D i) (by omega)) i (-1) 1
    go_enter Tryd.func62, Tryd.ntmps62
    go_wp2_with (first | (go_at_call 73; refine PR.mono ?_; rintro r x1 ⟨rfl, nq, hx1⟩; have HC1 : Hid _ := HC.out.drewN nq; rw [← hx1] at HC1; clear hx1 HC) | (go_at_call 74; refine (PB HC1.out).mono ?_; rintro r x2 ⟨rfl, C2, _⟩; have HC2 : Hid _ := C2; clear C2))
    go_end0
    refine ⟨rfl, ve, ?_⟩
    rw [HS.out]
    exact HC2.out
  | true =>
    rw [d1] at PR
    rcases (by omega : (eAt D i).e ≠ 0 ∨ (eAt D i).e = 0) with h0 | h0
    · have d0 : ((eAt D i).e != 0) = true := by simpa using h0
      have HS : Hid _ := sN_end d1 h0
      have HL : Hid ((endL m D i).length ≤ 100000) := Nat.le_trans (endL_len m D i) (by omega)
      have HW : Hid (w0.heap.size ≤ x.heap.size) := HC.out.below.size
      have HT : Hid (0 ≤ (pubV (sN m D i).pubs ((eAt D i).p, (eAt D i).num)).1 ∧ (pubV (sN m D i).pubs ((eAt D i).p, (eAt D i).num)).1 ≤ 1000000) := by
        have h3 : (pubV (sN m D i).pubs ((eAt D i).p, (eAt D i).num)).1 = (timesN m D i (eAt D i).p (eAt D i).num : Nat) := pubV_F _
        have h4 := times_le m D i (eAt D i).p (eAt D i).num
        rw [Hid, h3]
        omega
      have PP := fun {y : World} {v : Value} (hy : CT w0 cb kb (.slice sa m sc) (.slice (some ⟨b, o, none⟩) n c) v { sN m D i with ended := (sN m D i).ended ++ [i] } y) (hz : EvAt y b (o + i * 13) (eAt D i)) => cPublish hy hi hz HT.out
      have ev1 : ∃ q : Option Addr, ∃ l k, ve = .slice q l k := by
        obtain ⟨a, k, e⟩ := HC.out.row.form
        exact ⟨_, _, _, e⟩
      obtain ⟨q, l, k, rfl⟩ := ev1
      clear e4 q2 qf e2
      go_enter Tryd.func62, Tryd.ntmps62
      go_wp2_with (first | (go_at_call 73; refine PR.mono ?_; rintro r x1 ⟨rfl, nq, hx1⟩; have HC1 : Hid _ := HC.out.drewN nq; have HE1 : Hid _ := HE.out.drewN nq; rw [← hx1] at HC1 HE1; clear hx1 HC; have k2 := HE1.out.c2; have kl := HE1.out.lt; obtain ⟨klt, k0, k1, kk2, -, -, -, kf⟩ := HC1.out.cells) | (at_builtin; go_loud (refine wpList_apInts (B := w0.heap.size) (v := .slice q l k) (u := .slice (some ⟨x1.heap.size, 0, none⟩) 1 1) (l := ints (endL m D i)) (ms := [(i : Int)]) rfl _ _ rfl rfl rfl (HC1.out.row.still ((Turned.refl [] _).alloc _)) rfl (IV.one (blk_new _ _)) (by rw [List.length_map]; exact HL.out) (by simp) (by have := HC1.out.below.size; simp; omega) ?_; intro v1 w1 hr1 ht1 ho1; obtain ⟨g1, c1, hv1⟩ := hr1.somes; subst hv1; have HR1 : Hid _ := hr1; have HT1 : Hid (Turned (Value.slice q l k).ownBlock.toList x1 w1) := ((Turned.refl _ _).alloc _).trans ht1; clear hr1 ht1 ho1; have HN : Hid (cb ∉ (Value.slice q l k).ownBlock.toList) := ended_ne HC1.out; have j2 := HT1.out.cell kk2 HN.out; have jf := HC1.out.frozen HT1.out HN.out; have jl := Nat.lt_of_lt_of_le klt HT1.out.size; clear kk2 k0 k1 kf klt)) | (go_at_call 75; go_loud (refine (PP (HC1.out.ended' (by simpa [ints, sN] using HR1.out) HT1.out) (HE0.out.below (HC1.out.ended' (by simpa [ints, sN] using HR1.out) HT1.out).below rfl)).mono ?_; rintro r x2 ⟨rfl, C2, _⟩; have HC2 : Hid _ := C2; clear C2)))
      go_end0
      refine ⟨rfl, .slice (some ⟨g1, 0, none⟩) ((endL m D i).length + 1) c1, ?_⟩
      rw [HS.out]
      exact HC2.out
    · have d0 : ((eAt D i).e != 0) = false := by simpa using h0
      have PU := cPubs HE.out
      have HW : Hid (w0.heap.size ≤ x.heap.size) := HC.out.below.size
      clear q2 qf e2 e4
      cases d2 : (eAt D i).pub with
      | false =>
        have HS : Hid _ := sN_same d1 h0 d2
        have PU : ∀ n, Calls Tryd.prog 76 #[.pointer (some ⟨b, o + i * 13, none⟩)] (x.drewN n) fun r w' => r = .returned (.bool false) ∧ w' = x.drewN n := fun n => by rw [← d2]; exact cPubs (HE.out.drewN n)
        go_enter Tryd.func62, Tryd.ntmps62
        go_wp2_with (first | (go_at_call 73; refine PR.mono ?_; rintro r x1 ⟨rfl, nq, hx1⟩; have HC1 : Hid _ := HC.out.drewN nq; have HE1 : Hid _ := HE.out.drewN nq; have PU1 := PU nq; rw [← hx1] at HC1 HE1 PU1; clear hx1 HC PU; have k2 := HE1.out.c2; have kl := HE1.out.lt; obtain ⟨klt, k0, k1, kk2, -, -, -, kf⟩ := HC1.out.cells) | (go_at_call 76; refine PU1.mono ?_; rintro r x2 ⟨rfl, rfl⟩))
        go_end0
        refine ⟨rfl, ve, ?_⟩
        rw [HS.out]
        exact HC1.out
      | true =>
        have HS : Hid _ := sN_busy d1 h0 d2
        have PU : ∀ n, Calls Tryd.prog 76 #[.pointer (some ⟨b, o + i * 13, none⟩)] (x.drewN n) fun r w' => r = .returned (.bool true) ∧ w' = x.drewN n := fun n => by rw [← d2]; exact cPubs (HE.out.drewN n)
        obtain ⟨g1, g2⟩ := good_part d1 d2
        obtain ⟨p, hp⟩ : ∃ p : Nat, (eAt D i).p = p := ⟨(eAt D i).p.toNat, by omega⟩
        have hp6 : p < 64 := by omega
        have HPp : Hid ((eAt D i).p = p) := hp
        go_enter Tryd.func62, Tryd.ntmps62
        go_wp2_with (first | (go_at_call 73; refine PR.mono ?_; rintro r x1 ⟨rfl, nq, hx1⟩; have HC1 : Hid _ := HC.out.drewN nq; have HE1 : Hid _ := HE.out.drewN nq; have PU1 := PU nq; rw [← hx1] at HC1 HE1 PU1; clear hx1 HC PU; have k2 := HE1.out.c2; have kl := HE1.out.lt; obtain ⟨klt, k0, k1, kk2, kb3, -, -, kf⟩ := HC1.out.cells; have k3 := kb3 p hp6; have k4 := HE1.out.c4; rw [HPp.out] at k4; clear kb3) | (go_at_call 76; refine PU1.mono ?_; rintro r x2 ⟨rfl, rfl⟩))
        go_region
        go_wp2
        go_end0
        refine ⟨rfl, ve, ?_⟩
        rw [HS.out]
        have hb := (HC1.out.busy' hp6 true).still ((Turned.refl [] _).drew)
        have hq : (fun q => if q = (p : Int) then true else (sN m D i).busy q) = fun q => (sN m D i).busy q || decide ((eAt D i).p = q) := by
          funext q
          rw [HPp.out]
          by_cases e : q = p
          · simp [e]
          · rw [if_neg e, decide_eq_false (fun h => e h.symm)]
            simp
        rw [hq] at hb
        exact hb
end
end Go.Proofs.YtbielnehggcaoaaDoor
/-
  Pairs laid down in a map; what the next version holds; by contract. (By the verifier; no statement.)
-/
namespace Go.Proofs.YtbielnehggcaoaaDoor
open Go.RowKit
theorem cell_ne_map {w : World} {p : Addr} {v : Value} {b : Nat} {es : Array MapEntry} {c : Nat} (h : w.cell? p = some v) (hb : w.heap[b]? = some (.map es c)) : p.block ≠ b := fun e => by
  subst e
  simp [World.cell?, hb] at h
theorem und_held : Tryd.prog.underlying 65 = some (.map 3 3) := by kernel_rfl
abbrev HM (w : World) (b : Nat) (f : Hold) : Prop := GM ekI ekI w b f
theorem HM.putS {w : World} {b : Nat} {f : Hold} (h : HM w b f) (k v : Int) : ∃ w', (Instr.mapUpdate 65 (.map (some b)) (.int .i64 k) (.int .i64 v)).run Tryd.prog w = .ok () w' ∧ Turned [b] w w' ∧ HM w' b (f.put k v) := GM.put h keyInt und_held k v
theorem HM.delS {w : World} {b : Nat} {f : Hold} {ty : TypeId} (h : HM w b f) (k : Int) : ∃ w', (Builtin.delete_ #[65, 3] ty #[.map (some b), .int .i64 k]).run Tryd.prog w = .ok (.tuple #[]) w' ∧ Turned [b] w w' ∧ HM w' b (f.del k) := GM.del h keyInt und_held k
theorem zero_int (w : World) : (zeroValue 3).run Tryd.prog w = .ok (.int .i64 0) w := by go_simp
theorem HM.lookS {w : World} {b : Nat} {f : Hold} (h : HM w b f) (k : Int) : (Instr.lookup 65 (.map (some b)) (.int .i64 k) true).run Tryd.prog w = .ok (.tuple #[.int .i64 ((f k).getD 0), .bool (f k).isSome]) w := by
  have := GM.look h keyInt und_held (zero_int w) k
  rw [this]
  cases f k <;> rfl
theorem PW.apart {w : World} {v : Value} {l : List (Int × Int)} (h : PW w v l) {x : World} {F : List Nat} (ht : Turned F w x) (hF : ∀ b ∈ F, ∃ es c, w.heap[b]? = some (.map es c)) : PW x v l := by
  obtain ⟨a, c, rfl, hc⟩ := h.ex
  refine ⟨h.len, a, c, rfl, fun hne => ?_⟩
  obtain ⟨b, o, rfl, hk⟩ := hc hne
  have hb : ∀ {p : Addr} {u : Value}, w.cell? p = some u → p.block ∉ F := fun {p u} hp hm => by
    obtain ⟨es, c2, h2⟩ := hF _ hm
    exact cell_ne_map hp h2 rfl
  exact ⟨b, o, rfl, fun i hi => ⟨ht.cell (hk i hi).1 (hb (hk i hi).1), ht.cell (hk i hi).2 (hb (hk i hi).2)⟩⟩
set_option maxRecDepth 100000 in
set_option maxHeartbeats 1600000 in
theorem cLay {w : World} {b : Nat} {f : Hold} {v : Value} {l : List (Int × Int)} (h : HM w b f) (hv : PW w v l) : Calls Tryd.prog 77 #[.map (some b), v] w fun r w' => r = .returned (.tuple #[]) ∧ HM w' b (f.lay l) ∧ Turned [b] w w' := by
  have HP : Hid (∀ x, Turned [b] w x → PW x v l) := fun x ht => hv.apart ht fun b' hb' => by
    rw [List.mem_singleton.1 hb']
    obtain ⟨es, c, ps, h1, _⟩ := h.ex
    exact ⟨es, c, h1⟩
  have hlen := hv.len
  obtain ⟨a, c, rfl, -⟩ := hv.ex
  clear hv
  have H0 : Hid (HM w b f) := h
  clear h
  obtain ⟨n, hn⟩ : ∃ n, n = l.length := ⟨_, rfl⟩
  have HN : Hid (n = l.length) := hn
  rw [← hn] at hlen ⊢
  rw [← hn] at HP
  clear hn
  go_enter Tryd.func77, Tryd.ntmps77
  go_wp2
  go_loopw [8, 5] (fun i _ wx => ∃ k : Nat, k ≤ n ∧ i = .int .i64 k ∧ Hid (HM wx b (f.lay (l.take k))) ∧ Hid (Turned [b] w wx)) (fun i _ _ => n - (intOf i).toNat)
  case atStart => exact ⟨0, Nat.zero_le _, rfl, H0, Turned.refl _ _⟩
  case round =>
    obtain ⟨k, hk, rfl, HM1, HT⟩ := hrel
    by_cases hlt : k < n
    · have hkl : k < l.length := by rw [← HN.out]; exact hlt
      obtain ⟨a', c', ea, hc⟩ := (HP.out wr HT.out).ex
      obtain ⟨b2, o2, ea2, hcell⟩ := hc (fun e => by rw [e] at hkl; simp at hkl)
      simp only [Value.slice.injEq] at ea
      obtain ⟨ea1, -, -⟩ := ea
      subst ea1
      subst ea2
      obtain ⟨hk1, hk2⟩ := hcell k hkl
      have HL : Hid (l.take (k + 1) = l.take k ++ [l[k]]) := by rw [Hid, List.take_add_one, List.getElem?_eq_getElem hkl, Option.toList_some]
      clear hcell hc
      generalize l[k] = q at *
      obtain ⟨qk, qv⟩ := q
      dsimp only at hk1 hk2
      have hbl := World.block_lt_of_cell? _ _ hk1
      dsimp only at hbl
      obtain ⟨w2, hput, hT2, hM2⟩ := HM.putS (HM1.out.keep ((Turned.refl [] wr).alloc (.cells #[.int .i64 qk, .int .i64 qv] 67 (0, 0))) (by simp)) qk qv
      have HT2 : Hid (Turned [b] (wr.alloc (.cells #[.int .i64 qk, .int .i64 qv] 67 (0, 0))) w2) := hT2
      have HM2 : Hid (HM w2 b ((f.lay (l.take k)).put qk qv)) := hM2
      clear hT2 hM2
      go_wp2
      go_roundw
      case rel => exact ⟨k + 1, by omega, by go_num, by rw [Hid, HL.out, Hold.lay_append]; exact HM2.out, (HT.out.alloc _).trans HT2.out⟩
      case measure => simp [intOf]; omega
    · have e : k = n := by omega
      subst e
      go_wp2
      go_end0
      refine ⟨rfl, ?_, HT.out⟩
      have := HM1.out
      rw [HN.out, List.take_length] at this
      exact this
set_option maxRecDepth 100000 in
set_option maxHeartbeats 1600000 in
theorem cChange {w : World} {b eb eo : Nat} {f : Hold} {e : Ev} (h : HM w b f) (he : EvAt w eb eo e) : Calls Tryd.prog 79 #[.map (some b), .pointer (some ⟨eb, eo, none⟩)] w fun r w' => r = .returned (.tuple #[]) ∧ HM w' b (f.chg e) ∧ Turned [b] w w' := by
  have h3 := he.c3
  have h5 := he.c5
  have h9 := he.c9
  have h10 := he.c10
  have hl := he.lt
  obtain ⟨v, h12, hp⟩ := he.c12
  have PL := cLay h hp
  obtain ⟨a, c, rfl, -⟩ := hp.ex
  have H0 : Hid (HM w b f) := h
  clear h he hp
  by_cases g : e.k = 5
  · have E : f.chg e = f.lay e.ps := by unfold Hold.chg; rw [if_pos g]
    rw [E]
    rw [g] at h3
    go_enter Tryd.func79, Tryd.ntmps79
    go_wp2_with (go_at_call 77; refine PL.mono ?_; rintro r x1 ⟨rfl, M1, T1⟩; have HM1 : Hid _ := M1; have HT1 : Hid _ := T1; clear M1 T1)
    go_end0
    exact ⟨rfl, HM1.out, HT1.out⟩
  · have g5 : (e.k == 5) = false := by simpa using g
    clear PL
    cases d : e.has with
    | true =>
      have E : f.chg e = f.put e.key e.new := by unfold Hold.chg; rw [if_neg g, d]; rfl
      rw [E]
      rw [d] at h9
      obtain ⟨w2, hput, hT2, hM2⟩ := HM.putS (H0.out.keep ((Turned.refl [] w).drew) (by simp)) e.key e.new
      have HT2 : Hid _ := hT2
      have HM2 : Hid _ := hM2
      clear hT2 hM2
      go_enter Tryd.func79, Tryd.ntmps79
      go_wp2
      go_region
      go_wp2
      go_end0
      exact ⟨rfl, HM2.out, ((Turned.refl [b] w).drew).trans HT2.out⟩
    | false =>
      have E : f.chg e = f.del e.key := by unfold Hold.chg; rw [if_neg g, d]; rfl
      rw [E]
      rw [d] at h9
      obtain ⟨w2, hput, hT2, hM2⟩ := HM.delS (ty := 0) H0.out e.key
      have HT2 : Hid _ := hT2
      have HM2 : Hid _ := hM2
      clear hT2 hM2
      go_enter Tryd.func79, Tryd.ntmps79
      go_wp2
      go_end0
      exact ⟨rfl, HM2.out, HT2.out⟩
end Go.Proofs.YtbielnehggcaoaaDoor
/-
  All that say something else of a version than it holds; by contract. (By the verifier; no statement.)
-/
namespace Go.Proofs.YtbielnehggcaoaaDoor
open Go.RowKit
section
variable {w0 : World} {cb kb hb : Nat} {sv ev ve : Value} {D : List Ev} {s : Ct} {x : World} {f : Hold} {p u : Int}
theorem heldL_take {E : List Nat} {k i : Nat} (h : E[k]? = some i) : heldL D (E.take (k + 1)) p u f = heldL D (E.take k) p u f ++ (if heldB D p u f i then [((i : Int), -1, 4)] else []) := by
  unfold heldL
  rw [List.take_add_one, h, Option.toList_some, List.filter_append, List.map_append]
  congr 1
  cases hq : heldB D p u f i <;> simp [hq]
theorem heldL_len (E : List Nat) : (heldL D E p u f).length ≤ E.length := by
  unfold heldL
  rw [List.length_map]
  exact List.length_filter_le _ _
/-- What one ended event is, when the row of the ended is looked at. -/
theorem CT.endedAt (h : CT w0 cb kb sv ev ve s x) {k : Nat} (hk : k < s.ended.length) : ∃ g c, ve = .slice (some ⟨g, 0, none⟩) s.ended.length c ∧ g < x.heap.size ∧ x.cell? ⟨g, k, none⟩ = some (.int .i64 (s.ended[k] : Nat)) := by
  have hr := h.row
  obtain ⟨g, c, e⟩ := hr.at_ (fun e => by rw [List.map_eq_nil_iff] at e; rw [e] at hk; simp at hk)
  subst e
  have h1 := hr.cells (i := k) (by simpa using hk)
  refine ⟨g, c, by simp, World.block_lt_of_cell? _ _ h1, ?_⟩
  rw [h1]
  simp
set_option maxRecDepth 100000 in
set_option maxHeartbeats 3200000 in
theorem cWantHeld (hE : EsAt w0 ev D) (h : CT w0 cb kb sv ev ve s x) (hm : HM x hb f) (hne : hb ≠ kb) (hin : ∀ i ∈ s.ended, i < D.length) (hl : s.bl.length + s.ended.length ≤ 1000000000) : Calls Tryd.prog 78 #[.pointer (some ⟨cb, 0, none⟩), .int .i64 p, .int .i64 u, .map (some hb)] x fun r x' => r = .returned (.tuple #[]) ∧ CT w0 cb kb sv ev ve { s with bl := s.bl ++ heldL D s.ended p u f } x' ∧ HM x' hb f ∧ MapsKept kb x x' := by
  obtain ⟨hlt, q0, q1, q2, -, -, -, -⟩ := h.cells
  have HC : Hid (CT w0 cb kb sv ev ve s x) := h
  have HH : Hid (HM x hb f) := hm
  have HEs : Hid (EsAt w0 ev D) := hE
  have HIn : Hid (∀ i ∈ s.ended, i < D.length) := hin
  have HL : Hid (s.bl.length + s.ended.length ≤ 1000000000) := hl
  have HNe : Hid (hb ≠ kb) := hne
  obtain ⟨n, hn⟩ : ∃ n, n = s.ended.length := ⟨_, rfl⟩
  have HN : Hid (n = s.ended.length) := hn
  have hn6 : n ≤ 1000000000 := by omega
  obtain ⟨qa, qc, rfl⟩ : ∃ qa qc, ve = .slice qa n qc := by
    obtain ⟨a, k, e⟩ := h.row.form
    exact ⟨a, k, by rw [e, hn]; simp⟩
  clear h hm hE hin hl q0 hn hne
  go_enter Tryd.func78, Tryd.ntmps78
  go_wp2
  go_loopw [18, 9, 10, 11, 12] (fun i _ _ _ _ wx => ∃ k : Nat, k ≤ n ∧ i = .int .i64 k ∧ Hid (CT w0 cb kb sv ev (.slice qa n qc) { s with bl := s.bl ++ heldL D (s.ended.take k) p u f } wx) ∧ Hid (HM wx hb f) ∧ Hid (MapsKept kb x wx)) (fun i _ _ _ _ _ => n - (intOf i).toNat)
  case atStart => exact ⟨0, Nat.zero_le _, rfl, by simpa [heldL] using HC, HH, MapsKept.refl _ _⟩
  case round =>
    obtain ⟨k, hk, rfl, HC1, HH1, HK1⟩ := hrel
    by_cases hlt2 : k < n
    · have hkl : k < s.ended.length := by rw [← HN.out]; exact hlt2
      obtain ⟨g, c, eg, hg, hc⟩ := HC1.out.endedAt hkl
      simp only [Value.slice.injEq] at eg
      obtain ⟨rfl, -, rfl⟩ := eg
      have HLt : Hid ((s.bl ++ heldL D (s.ended.take k) p u f).length ≤ 1000000000) := by
        have h1 := heldL_len (D := D) (p := p) (u := u) (f := f) (s.ended.take k)
        have h2 : (s.ended.take k).length ≤ s.ended.length := by rw [List.length_take]; omega
        have := HL.out
        rw [Hid, List.length_append]
        omega
      have HTk : Hid (heldL D (s.ended.take (k + 1)) p u f = heldL D (s.ended.take k) p u f ++ (if heldB D p u f s.ended[k] then [(((s.ended[k] : Nat) : Int), -1, 4)] else [])) := heldL_take (List.getElem?_eq_getElem hkl)
      have hiD := HIn.out s.ended[k] (List.getElem_mem hkl)
      dsimp only at hc
      generalize s.ended[k] = i at *
      obtain ⟨eb, eo, ec, rfl, he0⟩ := HEs.out.get hiD
      have hDn := HEs.out.len
      have he := he0.below HC1.out.below rfl
      have PT := cTold he
      have e4 := he.c4
      have e5 := he.c5
      have e7 := he.c7
      have e8 := he.c8
      have el := he.lt
      have hlook := HM.lookS HH1.out (eAt D i).key
      obtain ⟨clt, -, d1, -, -, -, -, -⟩ := HC1.out.cells
      have PB := cBlame HC1.out HLt.out i (-1) 4
      clear he he0
      have HB : Hid (heldB D p u f i = (decide ((eAt D i).p = p) && decide ((eAt D i).told = u) && otherB f (eAt D i))) := rfl
      generalize D.length = dn at *
      by_cases g1 : (eAt D i).p = p
      · have g1' : ((eAt D i).p != p) = false := by simpa using g1
        by_cases g2 : (eAt D i).told = u
        · have g2' : ((eAt D i).told != u) = false := by simpa using g2
          have HB1 : Hid (heldB D p u f i = otherB f (eAt D i)) := by rw [Hid, HB.out, decide_eq_true g1, decide_eq_true g2]; rfl
          by_cases g3 : (f (eAt D i).key).isSome = (eAt D i).had
          · have g3' : ((f (eAt D i).key).isSome != (eAt D i).had) = false := by simpa using g3
            by_cases g4 : (f (eAt D i).key).getD 0 = (eAt D i).val
            · have g4' : ((f (eAt D i).key).getD 0 != (eAt D i).val) = false := by simpa using g4
              have HB2 : Hid (heldB D p u f i = false) := by rw [Hid, HB1.out, otherB, decide_eq_true g3, decide_eq_true g4]; rfl
              go_wp2_with (go_at_call 92; refine PT.mono ?_; rintro r x1 ⟨rfl, rfl⟩)
              go_roundw
              case rel => exact ⟨k + 1, by omega, by go_num, by rw [Hid, HTk.out, HB2.out]; simpa using HC1.out, HH1, HK1⟩
              case measure => simp [intOf]; omega
            · have g4' : ((f (eAt D i).key).getD 0 != (eAt D i).val) = true := by simpa using g4
              have HB2 : Hid (heldB D p u f i = true) := by rw [Hid, HB1.out, otherB, decide_eq_true g3, decide_eq_false g4]; rfl
              go_wp2_with (first | (go_at_call 92; refine PT.mono ?_; rintro r x1 ⟨rfl, rfl⟩) | (go_at_call 74; refine PB.mono ?_; rintro r x2 ⟨rfl, C2, K2⟩; have HC2 : Hid _ := C2; have HK2 : Hid _ := K2; clear C2 K2))
              go_roundw
              case rel => exact ⟨k + 1, by omega, by go_num, by rw [Hid, HTk.out, HB2.out]; simpa using HC2.out, HK2.out.gm HNe.out HH1.out, HK1.out.trans HK2.out⟩
              case measure => simp [intOf]; omega
          · have g3' : ((f (eAt D i).key).isSome != (eAt D i).had) = true := by simpa using g3
            have HB2 : Hid (heldB D p u f i = true) := by rw [Hid, HB1.out, otherB, decide_eq_false g3]; rfl
            go_wp2_with (first | (go_at_call 92; refine PT.mono ?_; rintro r x1 ⟨rfl, rfl⟩) | (go_at_call 74; refine PB.mono ?_; rintro r x2 ⟨rfl, C2, K2⟩; have HC2 : Hid _ := C2; have HK2 : Hid _ := K2; clear C2 K2))
            go_roundw
            case rel => exact ⟨k + 1, by omega, by go_num, by rw [Hid, HTk.out, HB2.out]; simpa using HC2.out, HK2.out.gm HNe.out HH1.out, HK1.out.trans HK2.out⟩
            case measure => simp [intOf]; omega
        · have g2' : ((eAt D i).told != u) = true := by simpa using g2
          have HB2 : Hid (heldB D p u f i = false) := by rw [Hid, HB.out, decide_eq_true g1, decide_eq_false g2]; rfl
          clear hlook
          go_wp2_with (go_at_call 92; refine PT.mono ?_; rintro r x1 ⟨rfl, rfl⟩)
          go_roundw
          case rel => exact ⟨k + 1, by omega, by go_num, by rw [Hid, HTk.out, HB2.out]; simpa using HC1.out, HH1, HK1⟩
          case measure => simp [intOf]; omega
      · have g1' : ((eAt D i).p != p) = true := by simpa using g1
        have HB2 : Hid (heldB D p u f i = false) := by rw [Hid, HB.out, decide_eq_false g1]; rfl
        clear hlook
        go_wp2
        go_roundw
        case rel => exact ⟨k + 1, by omega, by go_num, by rw [Hid, HTk.out, HB2.out]; simpa using HC1.out, HH1, HK1⟩
        case measure => simp [intOf]; omega
    · have en : k = n := by omega
      subst en
      go_wp2
      go_end0
      refine ⟨rfl, ?_, HH1.out, HK1.out⟩
      have := HC1.out
      rw [HN.out, List.take_length, ← HN.out] at this
      exact this
end
end Go.Proofs.YtbielnehggcaoaaDoor
/-
  The versions of a part that are told; by contract. (By the verifier; no statement.)
-/
namespace Go.Proofs.YtbielnehggcaoaaDoor
open Go.RowKit
/-- What parts hold at first, in memory. -/
structure SsAt (w : World) (sv : Value) (S : List (List (Int × Int))) : Prop where
  ex : ∃ a c, sv = .slice a S.length c ∧ ∀ (i : Nat) (l : List (Int × Int)), S[i]? = some l → ∃ (b o : Nat) (v : Value), a = some ⟨b, o, none⟩ ∧ w.cell? ⟨b, o + i, none⟩ = some v ∧ PW w v l
theorem SsAt.get {w : World} {sv : Value} {S : List (List (Int × Int))} (h : SsAt w sv S) {i : Nat} (hi : i < S.length) : ∃ b o c v, sv = .slice (some ⟨b, o, none⟩) S.length c ∧ w.cell? ⟨b, o + i, none⟩ = some v ∧ PW w v (S.getD i []) := by
  obtain ⟨a, c, rfl, he⟩ := h.ex
  obtain ⟨b, o, v, rfl, h1, h2⟩ := he i S[i] (List.getElem?_eq_getElem hi)
  exact ⟨b, o, c, v, rfl, h1, by simpa [hi] using h2⟩
section
variable {m : Int} {D : List Ev}
theorem pubV_2 {n : Nat} {k : Int × Int} (h : timesN m D n k.1 k.2 ≠ 0) : (pubV (pubF m D n) k).2 = (placeN m D n k.1 k.2 : Nat) := by
  unfold pubV pubF
  rw [if_neg h]
  rfl
/-- In the midst of a part's versions: u, what it holds, what was blamed so far. -/
structure TL (m : Int) (D : List Ev) (p : Int) (f0 : Hold) (u : Nat) (f : Hold) (acc : List Bm) : Prop where
  one : 1 ≤ u
  chain : ∀ j : Nat, 1 ≤ j → j + 1 ≤ u → timesN m D D.length p (j + 1) = 1
  len : acc.length + (endL m D D.length).length ≤ u * (endL m D D.length).length
  rest : ∃ g, u + g = D.length + 1 ∧ tellL m D p D.length 1 f0 = (acc ++ (tellL m D p g u f).1, (tellL m D p g u f).2)
theorem TL.start (p : Int) (f0 : Hold) : TL m D p f0 1 f0 [] := ⟨Nat.le_refl 1, fun j h1 h2 => by omega, by simp, D.length, by omega, by simp⟩
theorem TL.le {p : Int} {f0 f : Hold} {u : Nat} {acc : List Bm} (h : TL m D p f0 u f acc) : u ≤ D.length + 1 := by
  obtain ⟨g, h1, _⟩ := h.rest
  omega
theorem TL.next {p : Int} {f0 f : Hold} {u : Nat} {acc : List Bm} (h : TL m D p f0 u f acc) (ht : timesN m D D.length p ((u : Int) + 1) = 1) : u + 1 ≤ D.length + 1 ∧ TL m D p f0 (u + 1) (f.chg (eAt D (placeN m D D.length p ((u : Int) + 1)))) (acc ++ heldL D (endL m D D.length) p u f) := by
  obtain ⟨g, h1, h2⟩ := h.rest
  have hc : ∀ j : Nat, 1 ≤ j → j ≤ u → timesN m D D.length p (j + 1) = 1 := fun j h3 h4 => by
    by_cases e : j = u
    · rw [e]; exact ht
    · exact h.chain j h3 (by omega)
  have hb := chain_bound hc
  obtain ⟨g', rfl⟩ : ∃ g', g = g' + 1 := ⟨g - 1, by omega⟩
  refine ⟨by omega, ⟨by omega, fun j h3 h4 => hc j h3 (by omega), ?_, g', by omega, ?_⟩⟩
  · have := heldL_len (D := D) (p := p) (u := u) (f := f) (endL m D D.length)
    have h5 := h.len
    rw [List.length_append, Nat.add_mul]
    omega
  · rw [h2]
    conv => lhs; unfold tellL
    rw [if_pos ht]
    simp
theorem TL.done {p : Int} {f0 f : Hold} {u : Nat} {acc : List Bm} (h : TL m D p f0 u f acc) (ht : timesN m D D.length p ((u : Int) + 1) ≠ 1) : tellL m D p D.length 1 f0 = (acc ++ heldL D (endL m D D.length) p u f, u) := by
  obtain ⟨g, h1, h2⟩ := h.rest
  rw [h2]
  cases g with
  | zero => rfl
  | succ g =>
    unfold tellL
    rw [if_neg ht]
end
section
variable {w0 : World} {cb kb m : Nat} {sv ev ve : Value} {D : List Ev} {S : List (List (Int × Int))} {s : Ct} {x : World} {p : Nat}
/-- Another map turns. -/
theorem CT.other (h : CT w0 cb kb sv ev ve s x) {hb : Nat} {y : World} {f : Hold} (ht : Turned [hb] x y) (hm : HM x hb f) (hne : hb ≠ kb) (hge : w0.heap.size ≤ hb) : CT w0 cb kb sv ev ve s y := by
  obtain ⟨cs, vb, a1, a2, a3, a4, a5, a6, a7, a8, a9, a10, a11⟩ := h.ex
  obtain ⟨es, cl, ps, hmm, _⟩ := hm.ex
  have hcb : cb ≠ hb := mapne a1 hmm
  refine ⟨ht.below h.below (by simp; exact hge) h.below.size, h.base, h.map.keep ht (by simpa using hne.symm), cs, vb, ht.heap a1 (by simpa using hcb), a2, a3, a4, a5, a6, a7, a8, a9, a10.keep ht fun g hg => ?_, a11.keep ht fun g hg => ?_⟩
  · obtain ⟨c2, h2⟩ := a10.type hg
    simpa using mapne h2 hmm
  · obtain ⟨c2, h2⟩ := a11.type hg
    simpa using mapne h2 hmm
/-- The loop's state. -/
structure TX (w0 : World) (cb kb hb : Nat) (sv ev ve : Value) (m : Int) (D : List Ev) (p : Int) (f0 : Hold) (s : Ct) (nu : Value) (x : World) : Prop where
  ex : ∃ (u : Nat) (f : Hold) (acc : List Bm), nu = .int .i64 u ∧ TL m D p f0 u f acc ∧ CT w0 cb kb sv ev ve { s with bl := s.bl ++ acc } x ∧ HM x hb f
set_option maxRecDepth 100000 in
set_option maxHeartbeats 3200000 in
theorem cTell (hE : EsAt w0 ev D) (hS : SsAt w0 sv S) (h : CT w0 cb kb sv ev ve s x) (hs1 : s.ended = endL S.length D D.length) (hs2 : s.pubs = pubF S.length D D.length) (hp : p < S.length) (h64 : S.length ≤ 64) (hl : s.bl.length ≤ 100000000) (hD : D.length ≤ 2000) :
    Calls Tryd.prog 63 #[.pointer (some ⟨cb, 0, none⟩), .int .i64 p] x fun r x' => r = .returned (.tuple #[]) ∧ CT w0 cb kb sv ev ve { s with bl := s.bl ++ (partT S D p).1, last := fun q => if q = (p : Int) then ((partT S D p).2 : Nat) else s.last q } x' := by
  obtain ⟨hlt, q0, q1, q2, -, -, -, -⟩ := h.cells
  have HC : Hid (CT w0 cb kb sv ev ve s x) := h
  have HEs : Hid (EsAt w0 ev D) := hE
  have HS1 : Hid (s.ended = endL S.length D D.length) := hs1
  have HS2 : Hid (s.pubs = pubF S.length D D.length) := hs2
  have HL : Hid (s.bl.length ≤ 100000000) := hl
  have HD : Hid (D.length ≤ 2000) := hD
  have HIn : Hid (∀ i ∈ s.ended, i < D.length) := fun i hi => by
    rw [hs1] at hi
    exact (mem_endL.1 hi).1
  obtain ⟨sb, so, sc, v, rfl, hv, hpw⟩ := hS.get hp
  have hvx := belowCell h.below hv rfl
  have hblt := World.block_lt_of_cell? _ _ hvx
  dsimp only at hblt
  have HPW : Hid (∀ y, Below w0.heap.size w0 y → PW y v (S.getD p [])) := fun y hy => hpw.below hy rfl
  obtain ⟨va, vc, rfl⟩ : ∃ va vc, v = .slice va (S.getD p []).length vc := by
    obtain ⟨a, c, e, _⟩ := hpw.ex
    exact ⟨a, c, e⟩
  have HM0 : Hid (HM (x.alloc (.map #[] 0)) x.heap.size Hold.none) := GM.made x
  have HKb : Hid (kb < x.heap.size) := h.map.lt
  clear h hE hS hs1 hs2 hl hD hpw hv
  have hp6 : p < 64 := by omega
  generalize hgl : (S.getD p []).length = nl at *
  clear hgl
  have hmm := @run_makeMap Tryd.prog
  go_enter Tryd.func63, Tryd.ntmps63
  go_wp2_with (go_at_call 77; refine (cLay HM0.out (HPW.out _ (HC.out.still ((Turned.refl [] x).alloc _)).below)).mono ?_; rintro r x1 ⟨rfl, M1, T1⟩; have HM1 : Hid _ := M1; have HT1 : Hid _ := T1; clear M1 T1)
  have hne : x.heap.size ≠ kb := by have := HKb.out; omega
  have hge : w0.heap.size ≤ x.heap.size := HC.out.below.size
  have HC1 : Hid (CT w0 cb kb (.slice (some ⟨sb, so, none⟩) S.length sc) ev ve s x1) := (HC.out.still ((Turned.refl [] x).alloc (.map #[] 0))).other HT1.out HM0.out hne hge
  have HNe : Hid (x.heap.size ≠ kb) := hne
  have HGe : Hid (w0.heap.size ≤ x.heap.size) := hge
  clear hne hge HM0 HT1
  generalize x.heap.size = hb at HM1 HNe HGe ⊢
  clear HC HKb hlt q0 q1 q2 hvx hblt HPW
  have hSl := h64
  go_loopw [5, 6] (fun nu _ wx => TX w0 cb kb hb (.slice (some ⟨sb, so, none⟩) S.length sc) ev ve S.length D p (Hold.none.lay (S.getD p [])) s nu wx) (fun nu _ _ => D.length + 1 - (intOf nu).toNat)
  case atStart => exact ⟨1, _, [], rfl, TL.start _ _, by simpa using HC1.out, HM1.out⟩
  case round =>
    obtain ⟨u, f, acc, rfl, hTL, hCT, hHM⟩ := hrel.ex
    clear hrel
    have HTL : Hid _ := hTL
    have HCT : Hid _ := hCT
    have HHM : Hid _ := hHM
    have hu := hTL.le
    have hu1 := hTL.one
    have hDl := HD.out
    have HLn : Hid ((s.bl ++ acc).length + s.ended.length ≤ 1000000000) := by
      have h1 := hTL.len
      have h2 := endL_len S.length D D.length
      have h3 := HL.out
      rw [Hid, List.length_append, HS1.out]
      have h4 : u * (endL S.length D D.length).length ≤ 2001 * 2000 := Nat.mul_le_mul (by omega) (by omega)
      omega
    have PWH := cWantHeld (p := (p : Int)) (u := (u : Int)) (s := { s with bl := s.bl ++ acc }) HEs.out hCT hHM HNe.out HIn.out HLn.out
    have hw : wrap64 ((u : Int) + 1) = (u : Int) + 1 := by unfold wrap64; omega
    clear hTL hCT hHM
    by_cases ht : timesN S.length D D.length p ((u : Int) + 1) = 1
    · have hpl := place_lt (m := S.length) (D := D) (n := D.length) (p := p) (u := (u : Int) + 1) (by omega)
      have HV : Hid (∀ y, GM ek2 ek2 y kb s.pubs → (Instr.lookup 123 (.map (some kb)) (.agg #[.int .i64 p, .int .i64 ((u : Int) + 1)]) false).run Tryd.prog y = .ok (.agg #[.int .i64 1, .int .i64 (placeN S.length D D.length p ((u : Int) + 1) : Nat)]) y) := fun y hy => by
        rw [look_by hy, HS2.out, pubV_F, pubV_2 (k := ((p : Int), (u : Int) + 1)) (fun h0 => by rw [show timesN S.length D D.length ((p : Int), (u : Int) + 1).1 ((p : Int), (u : Int) + 1).2 = 1 from ht] at h0; cases h0), ht]
        rfl
      have HNx : Hid _ := HTL.out.next ht
      generalize placeN S.length D D.length p ((u : Int) + 1) = pl at *
      obtain ⟨eb, eo, ec, rfl, he0⟩ := HEs.out.get hpl
      have HE0 : Hid _ := he0
      clear he0
      go_wp2_with (go_at_call 78; refine PWH.mono ?_; rintro r x2 ⟨rfl, C2, M2, -⟩; have HC2 : Hid _ := C2; have HM2 : Hid _ := M2; clear C2 M2; obtain ⟨klt, k0, k1, kk2, kb3, k67, -, kf⟩ := HC2.out.cells; have hlook := HV.out _ HC2.out.map; clear kb3)
      obtain ⟨y, hy⟩ : ∃ y, y = x2.alloc (.cells #[.int .i64 1, .int .i64 pl] 142 (0, 0)) := ⟨_, rfl⟩
      have hT0 : Turned [] x2 y := by rw [hy]; exact (Turned.refl [] x2).alloc _
      have hb0 : y.heap[x2.heap.size]? = some (.cells #[.int .i64 1, .int .i64 pl] 142 (0, 0)) := by rw [hy]; exact blk_new x2 _
      rw [← hy]
      clear hy
      have HCy : Hid (CT w0 cb kb (.slice (some ⟨sb, so, none⟩) S.length sc) (.slice (some ⟨eb, eo, none⟩) D.length ec) ve { s with bl := s.bl ++ acc ++ heldL D s.ended p u f } y.drew) := (HC2.out.still hT0).still (Turned.refl [] y).drew
      have HMy : Hid (HM y.drew hb f) := (HM2.out.keep hT0 (by simp)).keep (Turned.refl [] y).drew (by simp)
      have j1 := hT0.cell k1 (by simp)
      have jlt : cb < y.heap.size := Nat.lt_of_lt_of_le klt hT0.size
      generalize x2.heap.size = nb at hb0 ⊢
      have kv1 : y.cell? ⟨nb, 1, none⟩ = some (.int .i64 pl) := by rw [cell_at hb0]; rfl
      have nlt : nb < y.heap.size := lt_of_heap hb0
      have hEy := HE0.out.below HCy.out.below rfl
      have elt : eb < y.heap.size := hEy.lt
      have PC := cChange HMy.out hEy
      clear hT0 hb0 klt k0 k1 kk2 k67 kf hlook hEy
      go_region_with (go_at_call 79; refine PC.mono ?_; rintro r x3 ⟨rfl, M3, T3⟩; have HM3 : Hid _ := M3; have HT3 : Hid _ := T3; clear M3 T3)
      all_goals
        go_wp2
        go_roundw
        case rel =>
          refine ⟨u + 1, _, _, by go_num, HNx.out.2, ?_, HM3.out⟩
          have h := HCy.out.other HT3.out HMy.out HNe.out HGe.out
          have e : s.bl ++ acc ++ heldL D s.ended p u f = s.bl ++ (acc ++ heldL D (endL S.length D D.length) p u f) := by rw [HS1.out, List.append_assoc]
          rw [e] at h
          exact h
        case measure =>
          have := HNx.out.1
          simp [intOf]; omega
    · have HDn : Hid _ := HTL.out.done ht
      obtain ⟨t, t2, ht1, hlk⟩ : ∃ t t2 : Int, (t != 1) = true ∧ ∀ y, GM ek2 ek2 y kb s.pubs → (Instr.lookup 123 (.map (some kb)) (.agg #[.int .i64 p, .int .i64 ((u : Int) + 1)]) false).run Tryd.prog y = .ok (.agg #[.int .i64 t, .int .i64 t2]) y := by
        refine ⟨(timesN S.length D D.length p ((u : Int) + 1) : Nat), (pubV (pubF S.length D D.length) ((p : Int), (u : Int) + 1)).2, ?_, fun y hy => ?_⟩
        · simp only [bne_iff_ne, ne_eq]
          omega
        · rw [look_by hy, HS2.out, pubV_F]
      have HV : Hid _ := hlk
      clear hlk ht
      go_wp2_with (go_at_call 78; refine PWH.mono ?_; rintro r x2 ⟨rfl, C2, M2, -⟩; have HC2 : Hid _ := C2; have HM2 : Hid _ := M2; clear C2 M2; obtain ⟨klt, k0, k1, kk2, kb3, k67, kb68, kf⟩ := HC2.out.cells; have hlook := HV.out _ HC2.out.map; have k68 := kb68 p hp6; clear kb3 kb68)
      go_end0
      refine ⟨rfl, ?_⟩
      have h := (HC2.out.last' hp6 (u : Int)).still ((Turned.refl [] _).alloc (.cells #[.int .i64 t, .int .i64 t2] 142 (0, 0)))
      unfold partT
      rw [HDn.out]
      have e : s.bl ++ acc ++ heldL D s.ended p u f = s.bl ++ (acc ++ heldL D (endL S.length D D.length) p u f) := by rw [HS1.out, List.append_assoc]
      rw [e] at h
      exact h
end
end Go.Proofs.YtbielnehggcaoaaDoor
/-
  An event of a version that nobody can have published; two events compared; by contract. (By the verifier; no statement.)
-/
namespace Go.Proofs.YtbielnehggcaoaaDoor
open Go.RowKit
section
variable {w0 : World} {cb kb : Nat} {sv ev ve : Value} {D : List Ev} {s : Ct} {x : World} {m : Nat} {i j : Nat}
theorem end_good {i : Nat} {m : Int} (h : endB m (eAt D i) = true) : (eAt D i).good m = true ∧ (eAt D i).e ≠ 0 := by
  unfold endB at h
  simpa using h
theorem good_inPart {m : Int} {e : Ev} (h : e.good m = true) (hs : e.snap = false) : 0 ≤ e.p ∧ e.p < m := by
  unfold Ev.good at h
  simp only [Bool.and_eq_true] at h
  have h1 := h.1.2
  unfold Ev.inPart at h1
  unfold Ev.snap at hs
  rw [if_neg (by simpa using hs)] at h1
  simpa using h1
theorem good_nums {m : Int} {e : Ev} (h : e.good m = true) (h0 : e.e ≠ 0) (hs : e.snap = true) : (e.ns.length : Int) = m := by
  unfold Ev.good at h
  simp only [Bool.and_eq_true] at h
  have h1 := h.2
  unfold Ev.snap at hs
  rw [if_neg h0, if_pos (by simpa using hs)] at h1
  unfold numsB at h1
  simp only [Bool.and_eq_true, decide_eq_true_eq] at h1
  exact h1.1
set_option maxRecDepth 100000 in
set_option maxHeartbeats 3200000 in
theorem cWantTold (hE : EsAt w0 ev D) (h : CT w0 cb kb sv ev ve s x) (hi : i < D.length) (he : endB m (eAt D i) = true) (h64 : m ≤ 64) (hb : ∀ p, s.busy p = busyB m D D.length p) (hl : s.bl.length ≤ 1000000000) : Calls Tryd.prog 64 #[.pointer (some ⟨cb, 0, none⟩), .int .i64 i] x fun r x' => r = .returned (.tuple #[]) ∧ CT w0 cb kb sv ev ve { s with bl := s.bl ++ (if untoldB m D s.last i then [((i : Int), -1, 3)] else []) } x' := by
  obtain ⟨hlt, -, q1, -, q3, -, q68, -⟩ := h.cells
  have HC : Hid (CT w0 cb kb sv ev ve s x) := h
  have HL : Hid (s.bl.length ≤ 1000000000) := hl
  have hDn := hE.len
  obtain ⟨eb, eo, ec, rfl, he0⟩ := hE.get hi
  have hev := he0.below h.below rfl
  have PS := fun n => cSnap (hev.drewN n)
  have PB := fun {y : World} (hy : CT w0 cb kb sv (.slice (some ⟨eb, eo, none⟩) D.length ec) ve s y) => cBlame hy HL.out i (-1) 3
  have e4 := hev.c4
  have e6 := hev.c6
  have el := hev.lt
  have hg := end_good he
  have HU : Hid (untoldB m D s.last i = (!(eAt D i).snap && decide (s.last (eAt D i).p < (eAt D i).num) && !busyB m D D.length (eAt D i).p)) := rfl
  clear h hl hE hev he0 he
  cases d1 : (eAt D i).snap with
  | true =>
    rw [d1] at PS
    have HU1 : Hid (untoldB m D s.last i = false) := by rw [Hid, HU.out, d1]; rfl
    rw [HU1.out]
    simp only [Bool.false_eq_true, if_false, List.append_nil]
    clear q3 q68
    generalize D.length = dn at *
    go_enter Tryd.func64, Tryd.ntmps64
    go_wp2
    go_quiet ((go_at_call 80; exact Calls.quiet_of_same (PS _)))
    go_wp2
    go_end0
    exact ⟨rfl, HC.out.drewN _⟩
  | false =>
    rw [d1] at PS
    obtain ⟨g1, g2⟩ := good_inPart hg.1 d1
    obtain ⟨p, hp⟩ : ∃ p : Nat, (eAt D i).p = p := ⟨(eAt D i).p.toNat, by omega⟩
    have hp6 : p < 64 := by omega
    have k3 := q3 p hp6
    have k68 := q68 p hp6
    rw [hb] at k3
    rw [hp] at e4
    have HU1 : Hid (untoldB m D s.last i = (decide (s.last p < (eAt D i).num) && !busyB m D D.length p)) := by rw [Hid, HU.out, d1, hp]; rfl
    clear q3 q68 hp hb g1 g2 hg
    by_cases g3 : s.last p < (eAt D i).num
    · have d3 : decide (s.last p < (eAt D i).num) = true := decide_eq_true g3
      cases d4 : busyB m D D.length p with
      | true =>
        have HU2 : Hid (untoldB m D s.last i = false) := by rw [Hid, HU1.out, d4]; simp
        rw [HU2.out]
        simp only [Bool.false_eq_true, if_false, List.append_nil]
        rw [d4] at k3
        generalize D.length = dn at *
        go_enter Tryd.func64, Tryd.ntmps64
        go_wp2
        go_quiet ((go_at_call 80; exact Calls.quiet_of_same (PS _)))
        go_wp2
        go_end0
        exact ⟨rfl, HC.out.drewN _⟩
      | false =>
        have HU2 : Hid (untoldB m D s.last i = true) := by rw [Hid, HU1.out, d4, d3]; rfl
        rw [HU2.out]
        simp only [if_true]
        rw [d4] at k3
        generalize D.length = dn at *
        go_enter Tryd.func64, Tryd.ntmps64
        go_wp2
        go_quiet ((go_at_call 80; exact Calls.quiet_of_same (PS _)))
        go_wp2_with (go_at_call 74; refine (PB (HC.out.drewN _)).mono ?_; rintro r x2 ⟨rfl, C2, K2⟩; have HC2 : Hid _ := C2; clear C2 K2)
        go_end0
        exact ⟨rfl, HC2.out⟩
    · have d3 : decide (s.last p < (eAt D i).num) = false := decide_eq_false g3
      have HU2 : Hid (untoldB m D s.last i = false) := by rw [Hid, HU1.out, d3]; rfl
      rw [HU2.out]
      simp only [Bool.false_eq_true, if_false, List.append_nil]
      generalize D.length = dn at *
      clear k3
      go_enter Tryd.func64, Tryd.ntmps64
      go_wp2
      go_quiet ((go_at_call 80; exact Calls.quiet_of_same (PS _)))
      go_wp2
      go_end0
      exact ⟨rfl, HC.out.drewN _⟩
end
end Go.Proofs.YtbielnehggcaoaaDoor
/- A frame, spelled out. -/
namespace Go.Proofs.YtbielnehggcaoaaDoor
open Go.RowKit
def lit85 (c : Nat → Value) : Array Value := #[c 0, c 1, c 2, c 3, c 4, c 5, c 6, c 7, c 8, c 9, c 10, c 11, c 12, c 13, c 14, c 15, c 16, c 17, c 18, c 19, c 20, c 21, c 22, c 23, c 24, c 25, c 26, c 27, c 28, c 29, c 30, c 31, c 32, c 33, c 34, c 35, c 36, c 37, c 38, c 39, c 40, c 41, c 42, c 43, c 44, c 45, c 46, c 47, c 48, c 49, c 50, c 51, c 52, c 53, c 54, c 55, c 56, c 57, c 58, c 59, c 60, c 61, c 62, c 63, c 64, c 65, c 66, c 67, c 68, c 69, c 70, c 71, c 72, c 73, c 74, c 75, c 76, c 77, c 78, c 79, c 80, c 81, c 82, c 83, c 84]
set_option maxRecDepth 100000 in
theorem lit85_eq (c : Nat → Value) : lit85 c = ((List.range 85).map c).toArray := by rfl
theorem expand85 {a : Act} (hs : a.tmps.size = 85) (hd : a.defers = []) : ∃ c : Nat → Value, a = ⟨lit85 c, []⟩ ∧ ∀ s, c s = a.eval (.tmp s) := by
  refine ⟨fun s => a.tmps.getD s undef, ?_, fun s => rfl⟩
  obtain ⟨t, d⟩ := a
  simp only at hs hd
  subst hd
  congr 1
  rw [lit85_eq]
  refine Array.ext (by simp [hs]) fun i h1 h2 => ?_
  simp [Array.getD, h1]
theorem expand85d {a : Act} {ds : List Deferred} (hs : a.tmps.size = 85) (hd : a.defers = ds) : ∃ c : Nat → Value, a = ⟨lit85 c, ds⟩ ∧ ∀ s, c s = a.eval (.tmp s) := by
  refine ⟨fun s => a.tmps.getD s undef, ?_, fun s => rfl⟩
  obtain ⟨t, d⟩ := a
  simp only at hs hd
  subst hd
  congr 1
  rw [lit85_eq]
  refine Array.ext (by simp [hs]) fun i h1 h2 => ?_
  simp [Array.getD, h1]
end Go.Proofs.YtbielnehggcaoaaDoor

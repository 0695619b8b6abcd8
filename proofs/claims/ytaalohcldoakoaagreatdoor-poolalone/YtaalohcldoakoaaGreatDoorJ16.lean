/- A pool behind so many calls: what it keeps to, spoilt or not. -/
import Derived.Test.YtaalohcldoakoaaGreatDoorJ02
import Derived.Test.YtaalohcldoakoaaGreatDoorJ14
import Derived.Test.YtaalohcldoakoaaGreatDoorJ13
import Derived.Test.YtaalohcldoakoaaGreatDoorJ15
import Derived.Test.YtaalohcldoakoaaGreatDoorRows
import Derived.Test.YtaalohcldoakoaaGreatDoorJ03
import Derived.Test.YtaalohcldoakoaaGreatDoorJ04
namespace Go.Proofs.YtaalohcldoakoaaGreatDoor
def PSt.back (s : PSt) (i : Nat) : PSt := { s with slot := upd s.slot i { s.slot i with gen := (s.slot i).gen + 2 }, h := nextV s.h i, f := upd s.f i (idxV s.h).toNat }
structure Good (s : PSt) (it : Nat) : Prop where
  ok : s.Ok
  gens : ∀ i, i ≤ s.n → 0 ≤ (s.slot i).gen ∧ (s.slot i).gen ≤ 2 * (it : Int)
  faults : 0 ≤ s.faults ∧ s.faults ≤ (it : Int)
section
variable {s : PSt} {it i : Nat}
theorem Good.more (h : Good s it) : Good s (it + 1) := ⟨h.ok, fun i hi => by have := h.gens i hi; omega, by have := h.faults; omega⟩
theorem Good.fault (h : Good s it) : Good s.fault (it + 1) := ⟨⟨h.ok.n1, h.ok.n2, h.ok.h0, h.ok.h1, h.ok.top, h.ok.low⟩, fun i hi => by have := h.gens i hi; show 0 ≤ (s.slot i).gen ∧ (s.slot i).gen ≤ _; omega, by have := h.faults; show 0 ≤ s.faults + 1 ∧ s.faults + 1 ≤ _; omega⟩
theorem Good.slot (h : Good s it) (hi : i ≤ s.n) {S : Slot} (h0 : 0 ≤ S.gen) (h1 : S.gen ≤ (s.slot i).gen + 2) : ∀ j, j ≤ s.n → 0 ≤ (upd s.slot i S j).gen ∧ (upd s.slot i S j).gen ≤ 2 * ((it + 1 : Nat) : Int) := fun j hj => by
  have := h.gens j hj
  have h2 := h.gens i hi
  by_cases e : j = i
  · subst e
    rw [upd_same]
    omega
  · rw [upd_other _ _ e]
    omega
theorem Good.take (h : Good s it) (hi : i ≤ s.n) (a b c d link : Int) : Good (s.take i a b c d link) (it + 1) :=
  ⟨h.ok.take hi a b c d link, h.slot hi (by have := h.gens i hi; show 0 ≤ (s.slot i).gen + 1; omega) (by show (s.slot i).gen + 1 ≤ _; omega), by have := h.faults; show 0 ≤ s.faults ∧ s.faults ≤ _; omega⟩
theorem Good.give (h : Good s it) (hi : i ≤ s.n) (P : Int) : Good (s.give i P) (it + 1) :=
  ⟨h.ok.give hi P, h.slot hi (by have := h.gens i hi; show 0 ≤ (s.slot i).gen + 1; omega) (by show (s.slot i).gen + 1 ≤ _; omega), by have := h.faults; show 0 ≤ s.faults ∧ s.faults ≤ _; omega⟩
theorem Good.back (h : Good s it) (hi : i ≤ s.n) : Good (s.back i) (it + 1) := by
  have hg := h.ok.give hi 0
  exact ⟨⟨hg.n1, hg.n2, hg.h0, hg.h1, hg.top, hg.low⟩, h.slot hi (by have := h.gens i hi; show 0 ≤ (s.slot i).gen + 2; omega) (by show (s.slot i).gen + 2 ≤ _; omega), by have := h.faults; show 0 ≤ s.faults ∧ s.faults ≤ _; omega⟩
theorem Good.putMark (h : Good s it) (hi : i ≤ s.n) (v : Int) : Good (s.putMark i v) (it + 1) :=
  ⟨⟨h.ok.n1, h.ok.n2, h.ok.h0, h.ok.h1, h.ok.top, h.ok.low⟩, h.slot hi (by have := h.gens i hi; show 0 ≤ (s.slot i).gen; omega) (by show (s.slot i).gen ≤ _; omega), by have := h.faults; show 0 ≤ s.faults ∧ s.faults ≤ _; omega⟩
theorem Good.putLink (h : Good s it) (hi : i ≤ s.n) (v : Int) : Good (s.putLink i v) (it + 1) :=
  ⟨⟨h.ok.n1, h.ok.n2, h.ok.h0, h.ok.h1, h.ok.top, h.ok.low⟩, h.slot hi (by have := h.gens i hi; show 0 ≤ (s.slot i).gen; omega) (by show (s.slot i).gen ≤ _; omega), by have := h.faults; show 0 ≤ s.faults ∧ s.faults ≤ _; omega⟩
theorem Good.new {n : Nat} (h1 : 1 ≤ n) (h2 : n ≤ 4096) : Good (PSt.new n) 0 :=
  ⟨(PL.new h1 h2 (fun _ => ⟨0, 0, 0, 0, 0, 0, 0⟩)).ok, fun i _ => by show (0 : Int) ≤ 0 ∧ (0 : Int) ≤ _; omega, by show (0 : Int) ≤ 0 ∧ (0 : Int) ≤ _; omega⟩
end
/-- Every number is no handle of one of n slots, or the handle of one. -/
def NoHandle (n : Nat) (x : Int) : Prop := idxV x < 1 ∨ n < idxV x ∨ tagV x % 2 = 0
structure IsHandle (n : Nat) (x : Int) (i : Nat) (g : Int) : Prop where
  eq : x = hnd i g
  i1 : 1 ≤ i
  i2 : i ≤ n
  g0 : 0 ≤ g
  g1 : g ≤ 1099511627775
  odd : g % 2 = 1
theorem handle_or (n : Nat) (x : Int) : NoHandle n x ∨ ∃ i g, IsHandle n x i g := by
  by_cases hw : 0 ≤ x ∧ x ≤ 1152921504606846975
  · have e1 := idx_ok x hw.1 hw.2
    have e2 := tag_ok x hw.1 hw.2
    by_cases hb : idxV x < 1 ∨ n < idxV x ∨ tagV x % 2 = 0
    · exact .inl hb
    · refine .inr ⟨(idxV x).toNat, tagV x, ?_, by omega, by omega, by omega, by omega, by omega⟩
      unfold hnd
      omega
  · left
    left
    rw [idx_bad x (by omega)]
    omega
end Go.Proofs.YtaalohcldoakoaaGreatDoor
/- A region in whatever order; some of its operations, one behind the other, turn the world, each to one of the worlds that a property tells; some may not be wanted. -/
namespace Go.Proofs.YtaalohcldoakoaaGreatDoor
open Go.RowKit
section
variable {P : Program} {ops : Array Oper} {Q : Exit → Act → World → Prop}
/-- In which worlds operation i may come up, and which it may leave. -/
def LegalP (R : Nat → Nat → Bool) (As : List Nat) (W : Nat → World → Prop) (i : Nat) (w : World) (M : World → Prop) : Prop :=
  (∃ j, As[j]? = some i ∧ W j w ∧ M = W (j + 1)) ∨ (i ∉ As ∧ (M = fun w' => w' = w) ∧ ∃ j, j ≤ As.length ∧ W j w ∧ ∀ q x, As[q]? = some x → R x i = true → j ≤ q)
def YieldsP (P : Program) (ops : Array Oper) (D : List (Option Nat)) (val : Nat → Value) (a0 : Act) (R : Nat → Nat → Bool) (As : List Nat) (W : Nat → World → Prop) (Q : Exit → Act → World → Prop) (i : Nat) : Prop :=
  ∀ (o : Oper) (a : Act) (w : World) (M : World → Prop) (K : Act → World → Prop), ops[i]? = some o → o.dst = D.getD i none → a.tmps.size = a0.tmps.size → (∀ s, some s ∉ D → a.eval (.tmp s) = a0.eval (.tmp s)) → (∀ j d, D.getD j none = some d → waitsB ops i j = true → a.eval (.tmp d) = val j) → (∀ j d, D.getD j none = some d → waitsB ops j i = true → a.eval (.tmp d) = a0.eval (.tmp d)) → LegalP R As W i w M → (∀ w', M w' → K (a.put (D.getD i none) (val i)) w') → o.wp P a w K Q
structure IChainP (ops : Array Oper) (D : List (Option Nat)) (val : Nat → Value) (a0 : Act) (As : List Nat) (W : Nat → World → Prop) (l : Array Bool) (a : Act) (w : World) : Prop where
  size : l.size = D.length
  tsize : a.tmps.size = a0.tmps.size
  defers : a.defers = a0.defers
  off : ∀ s, some s ∉ D → a.tmps[s]? = a0.tmps[s]?
  val : ∀ i d, D.getD i none = some d → on l i = true → a.eval (.tmp d) = val i
  pend : ∀ i d, D.getD i none = some d → on l i = false → a.tmps[d]? = a0.tmps[d]?
  closed : ∀ i j, on l i = true → waitsB ops i j = true → on l j = true
  w : ∃ c, c ≤ As.length ∧ (∀ j x, As[j]? = some x → (on l x = true ↔ j < c)) ∧ W c w
theorem wp_region_chainP {id : Nat} {a0 : Act} {w : World} (hm : P.follows .mixedOrders = true) (D : List (Option Nat)) (val : Nat → Value) (hok : regOk ops D a0.tmps.size = true) (As : List Nat) (W : Nat → World → Prop) (h0 : W 0 w.drew) (hnd : As.Nodup) (hch : chainOk ops As D.length = true)
    (hg : ∀ (i g : Nat) (b : Bool), (ops[i]?).bind (fun o : Oper => o.guard) = some (g, b) → ∃ b', val g = .bool b' ∧ (b' ≠ b → val i = undef ∧ i ∉ As))
    (hstep : ∀ i, i < D.length → (∀ (g : Nat) (b : Bool), (ops[i]?).bind (fun o : Oper => o.guard) = some (g, b) → val g = .bool b) → YieldsP P ops D val a0 (reachB ops ops.size) As W Q i)
    (hend : ∀ a', a'.tmps.size = a0.tmps.size → a'.defers = a0.defers → (∀ s, some s ∉ D → a'.tmps[s]? = a0.tmps[s]?) → (∀ i d, D.getD i none = some d → a'.eval (.tmp d) = val i) → ∀ w', W As.length w' → Q .normal a' w') :
    (Code.region id ops true).wp P Q a0 w := by
  have hn : ops.size = D.length := by
    unfold regOk at hok
    simp only [Bool.and_eq_true, beq_iff_eq] at hok
    exact hok.1
  unfold chainOk at hch
  rw [Bool.and_eq_true, List.all_eq_true, List.all_eq_true] at hch
  obtain ⟨hAlt, hAr⟩ := hch
  have alt : ∀ {j x : Nat}, As[j]? = some x → x < D.length := fun {j x} hj => by simpa using hAlt x (List.mem_of_getElem? hj)
  have reach : ∀ {j x y : Nat}, As[j]? = some x → As[j + 1]? = some y → reachB ops ops.size y x = true := fun {j x y} h1 h2 => by
    have hl := (List.getElem?_eq_some_iff.1 h2).1
    have := hAr j (List.mem_range.2 (by omega))
    rw [List.getD_eq_getElem?_getD, List.getD_eq_getElem?_getD, h1, h2] at this
    exact this
  have inj : ∀ {j k x : Nat}, As[j]? = some x → As[k]? = some x → j = k := fun {j k x} h1 h2 => by
    obtain ⟨l1, e1⟩ := List.getElem?_eq_some_iff.1 h1
    obtain ⟨l2, e2⟩ := List.getElem?_eq_some_iff.1 h2
    have hp := List.pairwise_iff_getElem.1 hnd
    rcases Nat.lt_trichotomy j k with h | h | h
    · exact absurd (e1.trans e2.symm) (hp j k l1 l2 h)
    · exact h
    · exact absurd (e2.trans e1.symm) (hp k j l2 l1 h)
  have mem : ∀ s i, D.getD i none = some s → some s ∈ D := fun s i e => by
    have hi : i < D.length := by
      apply Classical.byContradiction
      intro h
      rw [List.getD_eq_getElem?_getD, List.getElem?_eq_none (by omega)] at e
      cases e
    rw [List.getD_eq_getElem?_getD, List.getElem?_eq_getElem hi] at e
    have := List.getElem_mem hi
    rw [show D[i] = some s from e] at this
    exact this
  have lt : ∀ i d, D.getD i none = some d → i < D.length := fun i d e => by
    apply Classical.byContradiction
    intro h
    rw [List.getD_eq_getElem?_getD, List.getElem?_eq_none (by omega)] at e
    cases e
  have hoff : ∀ i, on (Array.replicate ops.size false) i = false := fun i => by
    simp only [on, Array.getD_eq_getD_getElem?, Array.getElem?_replicate]
    split <;> rfl
  refine wp_region_inv hm (fun i o ho => (reg_at hok ho).2.2.1) (IChainP ops D val a0 As W) (fun l a w h => by rw [hn]; exact h.size) ?_ ?_ ?_
  · exact ⟨by simp [hn], rfl, rfl, fun _ _ => rfl, fun i d _ hh => (by rw [hoff] at hh; cases hh), fun _ _ _ _ => rfl, fun i j hh => (by rw [hoff] at hh; cases hh), 0, Nat.zero_le _, fun j x _ => by rw [hoff]; simp, h0⟩
  · intro l a w' h i hi
    obtain ⟨hu, o, ho, hall⟩ := mem_ready.1 hi
    obtain ⟨r1, r2, r3, r4, r5, r6⟩ := reg_at hok ho
    have hoi : on l i = false := by simp only [on]; simp [Array.getD, h.size, r1] at hu ⊢; exact hu
    have hset : ∀ j, on (l.setIfInBounds i true) j = if i = j then true else on l j := fun j => on_set i j (by rw [h.size]; exact r1)
    have hdep : ∀ j d, D.getD j none = some d → waitsB ops i j = true → a.eval (.tmp d) = val j := fun j d hjd hh => h.val j d hjd (dep_of hi (waits_map hh))
    have hpre : ∀ j d, D.getD j none = some d → waitsB ops j i = true → a.eval (.tmp d) = a0.eval (.tmp d) := fun j d hjd hh => by
      have : on l j = false := by
        cases hj : on l j with
        | false => rfl
        | true => rw [h.closed j i hj hh] at hoi; cases hoi
      simp only [Act.eval, Array.getD_eq_getD_getElem?, h.pend j d hjd this]
    obtain ⟨c, hc1, hc2, hc3⟩ := h.w
    have keeps : ∀ w'' : World, (∃ c', c' ≤ As.length ∧ (∀ j x, As[j]? = some x → (on (l.setIfInBounds i true) x = true ↔ j < c')) ∧ W c' w'') → IChainP ops D val a0 As W (l.setIfInBounds i true) (a.put (D.getD i none) (val i)) w'' := fun w'' hw => by
      have hputs : (a.put (D.getD i none) (val i)).tmps.size = a0.tmps.size := by
        cases hD : D.getD i none <;> simp [Act.put, h.tsize]
      have hputd : (a.put (D.getD i none) (val i)).defers = a0.defers := by
        cases hD : D.getD i none <;> simp [Act.put, h.defers]
      refine ⟨by simp [h.size], hputs, hputd, fun s hs => ?_, fun j d hjd hh => ?_, fun j d hjd hh => ?_, fun x y hx hy => ?_, hw⟩
      · cases hD : D.getD i none with
        | none => exact h.off s hs
        | some d =>
          have : d ≠ s := fun e => hs (mem s i (by rw [hD, e]))
          simp only [Act.put, Array.getElem?_setIfInBounds, this, if_false]
          exact h.off s hs
      · rw [hset] at hh
        cases hD : D.getD i none with
        | none =>
          have hne : i ≠ j := fun e => by subst e; rw [hD] at hjd; cases hjd
          rw [if_neg hne] at hh
          exact h.val j d hjd hh
        | some d' =>
          rw [ev_put _ _ _ (by rw [h.tsize]; exact r4 d' hD)]
          by_cases e : i = j
          · subst e
            rw [hD] at hjd
            cases hjd
            simp
          · rw [if_neg e] at hh
            rw [if_neg (fun e2 => e (r5 j d (lt j d hjd) (by rw [hD, e2]) hjd))]
            exact h.val j d hjd hh
      · rw [hset] at hh
        by_cases e : i = j
        · rw [if_pos e] at hh
          cases hh
        · rw [if_neg e] at hh
          cases hD : D.getD i none with
          | none => exact h.pend j d hjd hh
          | some d' =>
            have hdd : d' ≠ d := fun e2 => e (r5 j d (lt j d hjd) (by rw [hD, e2]) hjd)
            simp only [Act.put, Array.getElem?_setIfInBounds, hdd, if_false]
            exact h.pend j d hjd hh
      · rw [hset] at hx ⊢
        by_cases e2 : i = y
        · rw [if_pos e2]
        · rw [if_neg e2]
          by_cases e1 : i = x
          · subst e1
            exact dep_of hi (waits_map hy)
          · rw [if_neg e1] at hx
            exact h.closed x y hx hy
    have legal : ∃ M : World → Prop, LegalP (reachB ops ops.size) As W i w' M ∧ (∀ w'', M w'' → ∃ c', c' ≤ As.length ∧ (∀ j x, As[j]? = some x → (on (l.setIfInBounds i true) x = true ↔ j < c')) ∧ W c' w'') ∧ (i ∉ As → M w') := by
      by_cases hmem : i ∈ As
      · obtain ⟨j, hj⟩ := List.getElem?_of_mem hmem
        have hjl := (List.getElem?_eq_some_iff.1 hj).1
        have hge : c ≤ j := Nat.le_of_not_lt fun hlt => by
          have := (hc2 j i hj).2 hlt
          rw [hoi] at this
          cases this
        have hle : j ≤ c := by
          cases j with
          | zero => exact Nat.zero_le _
          | succ k =>
            obtain ⟨x, hx⟩ : ∃ x, As[k]? = some x := ⟨As[k]'(by omega), List.getElem?_eq_getElem (by omega)⟩
            have := (hc2 k x hx).1 (reach_on_ready hi (reach hx hj) h.closed)
            omega
        obtain rfl : c = j := by omega
        refine ⟨W (c + 1), .inl ⟨c, hj, hc3, rfl⟩, fun w'' hw'' => ⟨c + 1, by omega, fun k x hk => ?_, hw''⟩, fun hno => absurd hmem hno⟩
        rw [hset]
        by_cases e : i = x
        · subst e
          have := inj hj hk
          simp [this]
        · rw [if_neg e, hc2 k x hk]
          have : k ≠ c := fun ek => e (by rw [ek] at hk; rw [hj] at hk; exact Option.some.inj hk)
          omega
      · have hup : ∀ q x, As[q]? = some x → reachB ops ops.size x i = true → c ≤ q := fun q x hq hr => Nat.le_of_not_lt fun hl => by
          have := reach_on h.closed ops.size x i ((hc2 q x hq).2 hl) hr
          rw [hoi] at this
          cases this
        refine ⟨fun w'' => w'' = w', .inr ⟨hmem, rfl, c, hc1, hc3, hup⟩, fun w'' hw'' => ⟨c, hc1, fun k x hk => ?_, by rw [hw'']; exact hc3⟩, fun _ => rfl⟩
        rw [hset, if_neg (fun e => hmem (by rw [e]; exact List.mem_of_getElem? hk))]
        exact hc2 k x hk
    obtain ⟨M, leg, hM, hsame⟩ := legal
    have hyield : ∀ (g : Nat) (b b' : Bool), o.guard = some (g, b) → val g = .bool b' → yielded ops a.tmps g = some b' := fun g b b' hgd h2 => by
      obtain ⟨h1, h3, h4⟩ := r6 g b hgd
      obtain ⟨d, hgD⟩ := Option.isSome_iff_exists.1 h4
      have hv := hdep g d hgD h3
      rw [h2] at hv
      have hgo : ∃ og, ops[g]? = some og := ⟨ops[g]'(by omega), Array.getElem?_eq_getElem (by omega)⟩
      obtain ⟨og, hog⟩ := hgo
      unfold yielded
      rw [hog]
      simp only [Option.bind_some, (reg_at hok hog).2.1, hgD]
      have hlt : d < a.tmps.size := by rw [h.tsize]; exact (reg_at hok hog).2.2.2.1 d hgD
      simp only [Act.eval, Array.getD, hlt, dite_true] at hv
      rw [Array.getElem?_eq_getElem hlt]
      have : a.tmps[d] = .bool b' := hv
      rw [this]
    unfold wpOp
    simp only [ho]
    by_cases hwant : Region.wanted o (yielded ops a.tmps) = true
    · rw [if_pos hwant]
      refine .inl (hstep i r1 (fun g b hgb => ?_) o a w' M _ ho r2 h.tsize (fun s hs => ?_) hdep hpre leg (fun w'' hw'' => keeps w'' (hM w'' hw'')))
      · obtain ⟨b', h1, h2⟩ := hg i g b hgb
        rw [ho] at hgb
        have hgd : o.guard = some (g, b) := hgb
        have hy := hyield g b b' hgd h1
        simp [Region.wanted, hgd, hy] at hwant
        rw [h1, hwant]
      · simp only [Act.eval, Array.getD_eq_getD_getElem?, h.off s hs]
    · rw [if_neg hwant, r2]
      cases hgd : o.guard with
      | none => exact absurd (by simp [Region.wanted, hgd]) hwant
      | some gb =>
        obtain ⟨g, b⟩ := gb
        obtain ⟨b', h1, h2⟩ := hg i g b (by rw [ho]; exact hgd)
        have hy := hyield g b b' hgd h1
        have hne : b' ≠ b := fun e => hwant (by simp [Region.wanted, hgd, hy, e])
        have hs := hsame (h2 hne).2
        rw [← (h2 hne).1]
        exact keeps w' (hM w' hs)
  · intro l a w' h hall
    have hal : ∀ i, i < D.length → on l i = true := fun i hi => by
      have := hall i (by rw [hn]; exact hi)
      simp only [on, Array.getD, h.size, hi, dite_true] at this ⊢
      exact this
    obtain ⟨c, hc1, hc2, hc3⟩ := h.w
    have hcm : c = As.length := by
      apply Classical.byContradiction
      intro hne
      have hlt : c < As.length := by omega
      have hx : As[c]? = some As[c] := List.getElem?_eq_getElem hlt
      have := (hc2 c _ hx).1 (hal _ (alt hx))
      omega
    rw [hcm] at hc3
    exact hend a h.tsize h.defers h.off (fun i d hD => h.val i d hD (hal i (lt i d hD))) w' hc3
end
theorem LegalP.at_ {R : Nat → Nat → Bool} {As : List Nat} {W : Nat → World → Prop} {i j : Nat} {w : World} {M : World → Prop} (h : LegalP R As W i w M) (hnd : As.Nodup) (hj : As[j]? = some i) : W j w ∧ M = W (j + 1) := by
  rcases h with ⟨k, h1, h2, h3⟩ | ⟨h1, -⟩
  · have : k = j := by
      obtain ⟨l1, e1⟩ := List.getElem?_eq_some_iff.1 h1
      obtain ⟨l2, e2⟩ := List.getElem?_eq_some_iff.1 hj
      have hp := List.pairwise_iff_getElem.1 hnd
      rcases Nat.lt_trichotomy k j with h | h | h
      · exact absurd (e1.trans e2.symm) (hp k j l1 l2 h)
      · exact h
      · exact absurd (e2.trans e1.symm) (hp j k l2 l1 h)
    subst this
    exact ⟨h2, h3⟩
  · exact absurd (List.mem_of_getElem? hj) h1
theorem LegalP.off {R : Nat → Nat → Bool} {As : List Nat} {W : Nat → World → Prop} {i : Nat} {w : World} {M : World → Prop} (h : LegalP R As W i w M) (hi : i ∉ As) : M w ∧ ∃ j, j ≤ As.length ∧ W j w ∧ ∀ q x, As[q]? = some x → R x i = true → j ≤ q := by
  rcases h with ⟨k, h1, -⟩ | ⟨-, h2, h3⟩
  · exact absurd (List.mem_of_getElem? h1) hi
  · exact ⟨by rw [h2], h3⟩
section
variable {P : Program} {o : Oper} {a : Act} {w : World} {K : Act → World → Prop} {Q : Exit → Act → World → Prop} {d : Option Nat}
theorem l_callP {f : FuncId} {fn : Func} {c : Code} {args : Array Operand} {tys : Array TypeId} {xs : Array Value} {v : Value} {M : World → Prop} (hd : o.dst = d) (h : o.op = .call { callee := .value (.func f), args := args, argTypes := tys }) (hx : args.map a.eval = xs)
    (hf : P.funcs[f]? = some fn) (hname : (fn.name == "runtime.NumGoroutine") = false) (hb : fn.body = some c) (hc : Calls P f xs w fun e w'' => e = .returned v ∧ M w'') (hK : ∀ w', M w' → K (a.put d v) w') : o.wp P a w K Q := by
  have hr : (execOp a.eval o).run P w = .ok (.enter f xs) w := by
    simp [execOp, h, resolve, invoke, hx, Deferred.ofValue, Go.MuLone.run_callFunc_enter hf hname hb, Act.eval]
  unfold Oper.wp
  rw [hr, Oper.upon_enter]
  refine hc.mono ?_
  rintro e w'' ⟨rfl, hM⟩
  rw [hd]
  exact hK w'' hM
end
end Go.Proofs.YtaalohcldoakoaaGreatDoor
/- Package pool's Back, alone, by contract. -/
namespace Go.Proofs.YtaalohcldoakoaaGreatDoor
open Go.RowKit
section
variable {w : World} {b : Nat} {S : Slot}
/-- What 'again' leaves. -/
def againW (w : World) (S : Slot) (gen : Int) : World := lifeW (((w.alloc (.cells (toldC S) 64)).drew).alloc (.cells (toldC S) 64)) gen S.a S.b S.c S.d S.mark S.link
set_option maxRecDepth 100000 in
set_option maxHeartbeats 1600000 in
theorem cAgain (h : w.heap[b]? = some (lifeObj S)) (gen : Int) : Calls Tryz.prog 90 #[.pointer (some ⟨b, 0, none⟩), .int .i64 gen] w fun e w' => e = .returned (.pointer (some ⟨w.heap.size + 3, 0, none⟩)) ∧ w' = againW w S gen := by
  have HT := cTold h
  have HN := cNewLife (((w.alloc (.cells (toldC S) 64)).drew).alloc (.cells (toldC S) 64)) gen S.a S.b S.c S.d S.mark S.link
  rw [show (((w.alloc (.cells (toldC S) 64)).drew).alloc (.cells (toldC S) 64)).heap.size + 1 = w.heap.size + 3 by simp] at HN
  clear h
  go_enter Tryz.func90, Tryz.ntmps90
  go_wp2_with (first
    | (go_at_call 65; refine HT.mono ?_; rintro e w' ⟨rfl, rfl⟩)
    | (go_at_call 60; refine HN.mono ?_; rintro e w' ⟨rfl, hw⟩; obtain rfl := hw.symm))
  go_ret
  exact ⟨rfl, rfl⟩
theorem againW_turned (l : List Nat) (w : World) (S : Slot) (gen : Int) : Turned l w (againW w S gen) := (((Turned.refl l w).alloc _).drew.alloc _).trans (lifeW_turned l _ _ _ _ _ _ _ _)
theorem againW_new (w : World) (S : Slot) (gen : Int) : (againW w S gen).heap[w.heap.size + 3]? = some (lifeObj ⟨gen, S.mark, S.link, S.a, S.b, S.c, S.d⟩) := by
  have h := lifeW_new (((w.alloc (.cells (toldC S) 64)).drew).alloc (.cells (toldC S) 64)) gen S.a S.b S.c S.d S.mark S.link
  rwa [show (((w.alloc (.cells (toldC S) 64)).drew).alloc (.cells (toldC S) 64)).heap.size + 1 = w.heap.size + 3 by simp] at h
end
set_option maxRecDepth 100000 in
set_option maxHeartbeats 1600000 in
theorem pback_r5 {K : Act → World → Prop} {Q : Exit → Act → World → Prop} {a : Act} {w : World} {p sb pb nb i : Nat} {L : Nat → Nat} {s : PSt} {g : Int} (hs : a.tmps.size = 60) (x0 : a.eval (.tmp 0) = pv p 0) (x2 : a.eval (.tmp 2) = vi (i : Nat)) (x3 : a.eval (.tmp 3) = vi g) (x9 : a.eval (.tmp 9) = pv (L i) 0) (h : PA w p sb pb nb L s) (h2 : i ≤ s.n) (g0 : 0 ≤ g) (g1 : g ≤ 1000000) (hg : (s.slot i).gen = g)
    (hEnd : ∀ a1 w1, a1.tmps.size = a.tmps.size → a1.defers = a.defers → (∀ s : Nat, s < 9 → a1.eval (.tmp s) = a.eval (.tmp s)) → a1.eval (.tmp 52) = .bool false → (w1 = (againW w.drew (s.slot i) (g + 2)).setCell ⟨sb, i, none⟩ (.pointer (some ⟨w.drew.heap.size + 3, 0, none⟩))) → K a1 w1) :
    (Code.region 5 (opsOf 5 Tryz.f32.body) true).wp Tryz.prog (Exit.then K Q) a w := by
  have hA : PA (againW w.drew (s.slot i) (g + 2)) p sb pb nb L s := h.keep ((Turned.refl [] w).drew.trans (againW_turned [] w.drew _ _)) (by simp)
  have HC : Calls Tryz.prog 59 #[pv sb i, pv (L i) 0, pv (w.drew.heap.size + 3) 0] (againW w.drew (s.slot i) (g + 2)) fun e w' => e = .returned (.bool true) ∧ w' = (againW w.drew (s.slot i) (g + 2)).setCell ⟨sb, i, none⟩ (.pointer (some ⟨w.drew.heap.size + 3, 0, none⟩)) := cPCas (ptr_cell hA.slots h2) (froz_at hA.slots i) (hA.life i h2) rfl (againW_new w.drew (s.slot i) (g + 2)) rfl
  clear hA
  refine wp_region_chainP (by kernel_rfl) [some 32, some 33, some 34, some 35, some 36, some 37, some 38, some 39, some 40, some 41, some 42, some 43, some 44, some 45, some 46, some 47, some 48, some 49, some 50, some 51, some 52] (fun kk => match kk with
      | 0 => pv (L i) 0
      | 1 => pv (L i) 0
      | 2 => pv (L i) 0
      | 3 => vi (s.slot i).gen
      | 4 => vi g
      | 5 => Value.bool false
      | 6 => Value.bool false
      | 7 => pv p 0
      | 8 => pv p 0
      | 9 => pv p 0
      | 10 => Value.slice (some ⟨sb, 0, none⟩) (s.n + 1) (s.n + 1)
      | 11 => vi (i : Nat)
      | 12 => pv sb i
      | 13 => pv (L i) 0
      | 14 => pv (L i) 0
      | 15 => vi g
      | 16 => vi (g + 2)
      | 17 => pv (w.drew.heap.size + 3) 0
      | 18 => Value.bool true
      | 19 => Value.bool false
      | 20 => Value.bool false
      | _ => undef) (by rw [hs]; kernel_rfl) [17, 18] (fun jj => match jj with
      | 0 => fun x => x = w.drew
      | 1 => fun x => x = againW w.drew (s.slot i) (g + 2)
      | _ => fun x => x = (againW w.drew (s.slot i) (g + 2)).setCell ⟨sb, i, none⟩ (.pointer (some ⟨w.drew.heap.size + 3, 0, none⟩))) rfl (by decide) (by decide +kernel) ?_ ?_ ?_
  · intro kk gg bq h
    obtain ⟨rfl, rfl⟩ := one_guard (g0 := 6) (b0 := false) (by kernel_rfl) h
    exact ⟨false, rfl, fun h => absurd rfl h⟩
  · intro kk hk hgd o ac wa M K ho hd _ hoff hv hpre hL hK
    rcases (by simp at hk; omega : kk = 0 ∨ kk = 1 ∨ kk = 2 ∨ kk = 3 ∨ kk = 4 ∨ kk = 5 ∨ kk = 6 ∨ kk = 7 ∨ kk = 8 ∨ kk = 9 ∨ kk = 10 ∨ kk = 11 ∨ kk = 12 ∨ kk = 13 ∨ kk = 14 ∨ kk = 15 ∨ kk = 16 ∨ kk = 17 ∨ kk = 18 ∨ kk = 19 ∨ kk = 20) with rfl | rfl | rfl | rfl | rfl | rfl | rfl | rfl | rfl | rfl | rfl | rfl | rfl | rfl | rfl | rfl | rfl | rfl | rfl | rfl | rfl
    · obtain ⟨hM, jw, hjw, hW, hjR⟩ := hL.off (by decide)
      replace hK := hK _ hM
      exact l_val hd ((x_move (op_is rfl ho)).trans (by rw [(hoff 9 (by decide)).trans x9]; rfl)) hK
    · obtain ⟨hM, jw, hjw, hW, hjR⟩ := hL.off (by decide)
      replace hK := hK _ hM
      exact l_val hd (x_nil (op_is rfl ho) (hv 0 32 rfl (by kernel_rfl))) hK
    · obtain ⟨hM, jw, hjw, hW, hjR⟩ := hL.off (by decide)
      replace hK := hK _ hM
      exact l_val hd (x_field (op_is rfl ho) (by rw [hv 1 33 rfl (by kernel_rfl)]; unfold pv; go_simp)) hK
    · obtain ⟨hM, jw, hjw, hW, hjR⟩ := hL.off (by decide)
      replace hK := hK _ hM
      have hj := hjR 0 17 rfl (by decide +kernel)
      obtain rfl : jw = 0 := by omega
      have hW : wa = w.drew := hW
      subst hW
      exact l_val hd (x_load (op_is rfl ho) (by rw [hv 2 34 rfl (by kernel_rfl)]; exact run_lifeGen (w := w.drew) (h.life i h2))) hK
    · obtain ⟨hM, jw, hjw, hW, hjR⟩ := hL.off (by decide)
      replace hK := hK _ hM
      exact l_val hd ((x_move (op_is rfl ho)).trans (by rw [(hoff 3 (by decide)).trans x3]; rfl)) hK
    · obtain ⟨hM, jw, hjw, hW, hjR⟩ := hL.off (by decide)
      replace hK := hK _ hM
      exact l_val hd ((x_neqInt (op_is rfl ho) (hv 3 35 rfl (by kernel_rfl)) (hv 4 36 rfl (by kernel_rfl))).trans (by rw [show ((s.slot i).gen != g) = false from by simp [hg]]; rfl)) hK
    · obtain ⟨hM, jw, hjw, hW, hjR⟩ := hL.off (by decide)
      replace hK := hK _ hM
      exact l_val hd ((x_move (op_is rfl ho)).trans (by rw [hv 5 37 rfl (by kernel_rfl)]; rfl)) hK
    · obtain ⟨hM, jw, hjw, hW, hjR⟩ := hL.off (by decide)
      replace hK := hK _ hM
      exact l_val hd ((x_move (op_is rfl ho)).trans (by rw [(hoff 0 (by decide)).trans x0]; rfl)) hK
    · obtain ⟨hM, jw, hjw, hW, hjR⟩ := hL.off (by decide)
      replace hK := hK _ hM
      exact l_val hd (x_nil (op_is rfl ho) (hv 7 39 rfl (by kernel_rfl))) hK
    · obtain ⟨hM, jw, hjw, hW, hjR⟩ := hL.off (by decide)
      replace hK := hK _ hM
      exact l_val hd (x_field (op_is rfl ho) (by rw [hv 8 40 rfl (by kernel_rfl)]; unfold pv; go_simp)) hK
    · obtain ⟨hM, jw, hjw, hW, hjR⟩ := hL.off (by decide)
      replace hK := hK _ hM
      have hj := hjR 1 18 rfl (by decide +kernel)
      rcases (by omega : jw = 0 ∨ jw = 1) with rfl | rfl
      · have hW : wa = w.drew := hW
        subst hW
        exact l_val hd (x_load (op_is rfl ho) (by rw [hv 9 41 rfl (by kernel_rfl)]; exact run_loadSlots (w := w.drew) h.pool)) hK
      · have hW : wa = againW w.drew (s.slot i) (g + 2) := hW
        subst hW
        exact l_val hd (x_load (op_is rfl ho) (by rw [hv 9 41 rfl (by kernel_rfl)]; exact run_loadSlots ((againW_turned [] w.drew _ _).heap (show w.drew.heap[p]? = _ from h.pool) (by simp)))) hK
    · obtain ⟨hM, jw, hjw, hW, hjR⟩ := hL.off (by decide)
      replace hK := hK _ hM
      exact l_val hd ((x_move (op_is rfl ho)).trans (by rw [(hoff 2 (by decide)).trans x2]; rfl)) hK
    · obtain ⟨hM, jw, hjw, hW, hjR⟩ := hL.off (by decide)
      replace hK := hK _ hM
      exact l_val hd (x_index (op_is rfl ho) (by rw [hv 10 42 rfl (by kernel_rfl), hv 11 43 rfl (by kernel_rfl)]; exact run_indexSlots _ sb s.n i h2)) hK
    · obtain ⟨hM, jw, hjw, hW, hjR⟩ := hL.off (by decide)
      replace hK := hK _ hM
      exact l_val hd ((x_move (op_is rfl ho)).trans (by rw [(hoff 9 (by decide)).trans x9]; rfl)) hK
    · obtain ⟨hM, jw, hjw, hW, hjR⟩ := hL.off (by decide)
      replace hK := hK _ hM
      exact l_val hd ((x_move (op_is rfl ho)).trans (by rw [(hoff 9 (by decide)).trans x9]; rfl)) hK
    · obtain ⟨hM, jw, hjw, hW, hjR⟩ := hL.off (by decide)
      replace hK := hK _ hM
      exact l_val hd ((x_move (op_is rfl ho)).trans (by rw [(hoff 3 (by decide)).trans x3]; rfl)) hK
    · obtain ⟨hM, jw, hjw, hW, hjR⟩ := hL.off (by decide)
      replace hK := hK _ hM
      exact l_val (v := vi (g + 2)) hd ((x_addc (op_is rfl ho) (hv 15 47 rfl (by kernel_rfl)) rfl (by omega) (by omega)).trans (by first | rfl | (congr 3; omega))) hK
    · obtain ⟨hW, rfl⟩ := hL.at_ (by decide) (j := 0) rfl
      have hW : wa = w.drew := hW
      subst hW
      exact l_callP hd (op_is rfl ho) (by simp only [List.map_toArray, List.map_cons, List.map_nil, hv 14 46 rfl (by kernel_rfl), hv 16 48 rfl (by kernel_rfl)] <;> rfl) Tryz.func90 (by kernel_rfl) (by rfl) (cAgain (w := w.drew) (h.life i h2) (g + 2)) hK
    · obtain ⟨hW, rfl⟩ := hL.at_ (by decide) (j := 1) rfl
      have hW : wa = againW w.drew (s.slot i) (g + 2) := hW
      subst hW
      exact l_callP hd (op_is rfl ho) (by simp only [List.map_toArray, List.map_cons, List.map_nil, hv 12 44 rfl (by kernel_rfl), hv 13 45 rfl (by kernel_rfl), hv 17 49 rfl (by kernel_rfl)] <;> rfl) Tryz.func59 (by kernel_rfl) (by rfl) (HC) hK
    · obtain ⟨hM, jw, hjw, hW, hjR⟩ := hL.off (by decide)
      replace hK := hK _ hM
      exact l_val hd ((x_not (op_is rfl ho) (hv 18 50 rfl (by kernel_rfl))).trans rfl) hK
    · obtain ⟨hM, jw, hjw, hW, hjR⟩ := hL.off (by decide)
      replace hK := hK _ hM
      exact l_val (v := .bool false) hd ((x_pick (op_is (p := .pick (.tmp 38) (.const (.bool true)) (.tmp 51)) rfl ho) (hv 6 38 rfl (by kernel_rfl))).trans (by show Result.ok (Next.value (ac.eval (.tmp 51))) _ = _; rw [hv 19 51 rfl (by kernel_rfl)]; rfl)) hK
  · intro a1 g1 g2 g3 g4 w1 hW
    exact hEnd a1 w1 g1 g2 (fun s hs'  => ev_same (g3 s (fun hm => by simp at hm; omega))) (g4 20 52 rfl) hW
set_option maxRecDepth 100000 in
set_option maxHeartbeats 1600000 in
theorem pbackgone_r5 {K : Act → World → Prop} {Q : Exit → Act → World → Prop} {a : Act} {w : World} {p sb pb nb i : Nat} {L : Nat → Nat} {s : PSt} {g : Int} (hs : a.tmps.size = 60) (x3 : a.eval (.tmp 3) = vi g) (x9 : a.eval (.tmp 9) = pv (L i) 0) (h : PA w p sb pb nb L s) (h2 : i ≤ s.n) (hg : (s.slot i).gen ≠ g)
    (hEnd : ∀ a1 w1, a1.tmps.size = a.tmps.size → a1.defers = a.defers → (∀ s : Nat, s < 9 → a1.eval (.tmp s) = a.eval (.tmp s)) → a1.eval (.tmp 52) = .bool true → (w1 = w.drew) → K a1 w1) :
    (Code.region 5 (opsOf 5 Tryz.f32.body) true).wp Tryz.prog (Exit.then K Q) a w := by
  refine wp_region_chainP (by kernel_rfl) [some 32, some 33, some 34, some 35, some 36, some 37, some 38, some 39, some 40, some 41, some 42, some 43, some 44, some 45, some 46, some 47, some 48, some 49, some 50, some 51, some 52] (fun kk => match kk with
      | 0 => pv (L i) 0
      | 1 => pv (L i) 0
      | 2 => pv (L i) 0
      | 3 => vi (s.slot i).gen
      | 4 => vi g
      | 5 => Value.bool true
      | 6 => Value.bool true
      | 7 => undef
      | 8 => undef
      | 9 => undef
      | 10 => undef
      | 11 => undef
      | 12 => undef
      | 13 => undef
      | 14 => undef
      | 15 => undef
      | 16 => undef
      | 17 => undef
      | 18 => undef
      | 19 => undef
      | 20 => Value.bool true
      | _ => undef) (by rw [hs]; kernel_rfl) [] (fun jj => match jj with
      | _ => fun x => x = w.drew) rfl (by decide) (by decide +kernel) ?_ ?_ ?_
  · intro kk gg bq h
    obtain ⟨rfl, rfl⟩ := one_guard (g0 := 6) (b0 := false) (by kernel_rfl) h
    refine ⟨true, rfl, fun _ => ⟨?_, by simp⟩⟩
    match kk, h with
    | 0, h => exact (nomatch (show (none : Option (Nat × Bool)) = some (6, false) from h))
    | 1, h => exact (nomatch (show (none : Option (Nat × Bool)) = some (6, false) from h))
    | 2, h => exact (nomatch (show (none : Option (Nat × Bool)) = some (6, false) from h))
    | 3, h => exact (nomatch (show (none : Option (Nat × Bool)) = some (6, false) from h))
    | 4, h => exact (nomatch (show (none : Option (Nat × Bool)) = some (6, false) from h))
    | 5, h => exact (nomatch (show (none : Option (Nat × Bool)) = some (6, false) from h))
    | 6, h => exact (nomatch (show (none : Option (Nat × Bool)) = some (6, false) from h))
    | 7, h => exact rfl
    | 8, h => exact rfl
    | 9, h => exact rfl
    | 10, h => exact rfl
    | 11, h => exact rfl
    | 12, h => exact rfl
    | 13, h => exact rfl
    | 14, h => exact rfl
    | 15, h => exact rfl
    | 16, h => exact rfl
    | 17, h => exact rfl
    | 18, h => exact rfl
    | 19, h => exact rfl
    | 20, h => exact (nomatch (show (none : Option (Nat × Bool)) = some (6, false) from h))
    | k + 21, _ => rfl
  · intro kk hk hgd o ac wa M K ho hd _ hoff hv hpre hL hK
    rcases (by simp at hk; omega : kk = 0 ∨ kk = 1 ∨ kk = 2 ∨ kk = 3 ∨ kk = 4 ∨ kk = 5 ∨ kk = 6 ∨ kk = 7 ∨ kk = 8 ∨ kk = 9 ∨ kk = 10 ∨ kk = 11 ∨ kk = 12 ∨ kk = 13 ∨ kk = 14 ∨ kk = 15 ∨ kk = 16 ∨ kk = 17 ∨ kk = 18 ∨ kk = 19 ∨ kk = 20) with rfl | rfl | rfl | rfl | rfl | rfl | rfl | rfl | rfl | rfl | rfl | rfl | rfl | rfl | rfl | rfl | rfl | rfl | rfl | rfl | rfl
    · obtain ⟨hM, jw, hjw, hW, hjR⟩ := hL.off (by decide)
      replace hK := hK _ hM
      exact l_val hd ((x_move (op_is rfl ho)).trans (by rw [(hoff 9 (by decide)).trans x9]; rfl)) hK
    · obtain ⟨hM, jw, hjw, hW, hjR⟩ := hL.off (by decide)
      replace hK := hK _ hM
      exact l_val hd (x_nil (op_is rfl ho) (hv 0 32 rfl (by kernel_rfl))) hK
    · obtain ⟨hM, jw, hjw, hW, hjR⟩ := hL.off (by decide)
      replace hK := hK _ hM
      exact l_val hd (x_field (op_is rfl ho) (by rw [hv 1 33 rfl (by kernel_rfl)]; unfold pv; go_simp)) hK
    · obtain ⟨hM, jw, hjw, hW, hjR⟩ := hL.off (by decide)
      replace hK := hK _ hM
      have hW : wa = w.drew := hW
      subst hW
      exact l_val hd (x_load (op_is rfl ho) (by rw [hv 2 34 rfl (by kernel_rfl)]; exact run_lifeGen (w := w.drew) (h.life i h2))) hK
    · obtain ⟨hM, jw, hjw, hW, hjR⟩ := hL.off (by decide)
      replace hK := hK _ hM
      exact l_val hd ((x_move (op_is rfl ho)).trans (by rw [(hoff 3 (by decide)).trans x3]; rfl)) hK
    · obtain ⟨hM, jw, hjw, hW, hjR⟩ := hL.off (by decide)
      replace hK := hK _ hM
      exact l_val hd ((x_neqInt (op_is rfl ho) (hv 3 35 rfl (by kernel_rfl)) (hv 4 36 rfl (by kernel_rfl))).trans (by rw [show ((s.slot i).gen != g) = true from by simp [hg]]; rfl)) hK
    · obtain ⟨hM, jw, hjw, hW, hjR⟩ := hL.off (by decide)
      replace hK := hK _ hM
      exact l_val hd ((x_move (op_is rfl ho)).trans (by rw [hv 5 37 rfl (by kernel_rfl)]; rfl)) hK
    · obtain ⟨hM, jw, hjw, hW, hjR⟩ := hL.off (by decide)
      replace hK := hK _ hM
      exact absurd (hgd 6 false rfl) (by intro e; cases e)
    · obtain ⟨hM, jw, hjw, hW, hjR⟩ := hL.off (by decide)
      replace hK := hK _ hM
      exact absurd (hgd 6 false rfl) (by intro e; cases e)
    · obtain ⟨hM, jw, hjw, hW, hjR⟩ := hL.off (by decide)
      replace hK := hK _ hM
      exact absurd (hgd 6 false rfl) (by intro e; cases e)
    · obtain ⟨hM, jw, hjw, hW, hjR⟩ := hL.off (by decide)
      replace hK := hK _ hM
      exact absurd (hgd 6 false rfl) (by intro e; cases e)
    · obtain ⟨hM, jw, hjw, hW, hjR⟩ := hL.off (by decide)
      replace hK := hK _ hM
      exact absurd (hgd 6 false rfl) (by intro e; cases e)
    · obtain ⟨hM, jw, hjw, hW, hjR⟩ := hL.off (by decide)
      replace hK := hK _ hM
      exact absurd (hgd 6 false rfl) (by intro e; cases e)
    · obtain ⟨hM, jw, hjw, hW, hjR⟩ := hL.off (by decide)
      replace hK := hK _ hM
      exact absurd (hgd 6 false rfl) (by intro e; cases e)
    · obtain ⟨hM, jw, hjw, hW, hjR⟩ := hL.off (by decide)
      replace hK := hK _ hM
      exact absurd (hgd 6 false rfl) (by intro e; cases e)
    · obtain ⟨hM, jw, hjw, hW, hjR⟩ := hL.off (by decide)
      replace hK := hK _ hM
      exact absurd (hgd 6 false rfl) (by intro e; cases e)
    · obtain ⟨hM, jw, hjw, hW, hjR⟩ := hL.off (by decide)
      replace hK := hK _ hM
      exact absurd (hgd 6 false rfl) (by intro e; cases e)
    · obtain ⟨hM, jw, hjw, hW, hjR⟩ := hL.off (by decide)
      replace hK := hK _ hM
      exact absurd (hgd 6 false rfl) (by intro e; cases e)
    · obtain ⟨hM, jw, hjw, hW, hjR⟩ := hL.off (by decide)
      replace hK := hK _ hM
      exact absurd (hgd 6 false rfl) (by intro e; cases e)
    · obtain ⟨hM, jw, hjw, hW, hjR⟩ := hL.off (by decide)
      replace hK := hK _ hM
      exact absurd (hgd 6 false rfl) (by intro e; cases e)
    · obtain ⟨hM, jw, hjw, hW, hjR⟩ := hL.off (by decide)
      replace hK := hK _ hM
      exact l_val (v := .bool true) hd ((x_pick (op_is (p := .pick (.tmp 38) (.const (.bool true)) (.tmp 51)) rfl ho) (hv 6 38 rfl (by kernel_rfl))).trans rfl) hK
  · intro a1 g1 g2 g3 g4 w1 hW
    exact hEnd a1 w1 g1 g2 (fun s hs'  => ev_same (g3 s (fun hm => by simp at hm; omega))) (g4 20 52 rfl) hW
section
variable {w : World} {p sb pb nb : Nat} {L : Nat → Nat} {s : PSt} {i : Nat} {x y : Int}
set_option maxRecDepth 100000 in
set_option maxHeartbeats 1600000 in
theorem cPBackBad (h : PA w p sb pb nb L s) (hb : x < 1 ∨ s.n < x ∨ y < 0 ∨ y % 2 = 1) : Calls Tryz.prog 32 #[.pointer (some ⟨p, 0, none⟩), .pointer none, .int .i64 x, .int .i64 y] w fun e w' => e = .returned (.int .i64 103) ∧ w' = w := by
  rcases (by omega : (x < 1 ∨ s.n < x) ∨ (1 ≤ x ∧ x ≤ s.n ∧ y < 0) ∨ (1 ≤ x ∧ x ≤ s.n ∧ 0 ≤ y ∧ y % 2 = 1)) with h1 | ⟨h1, h2, h3⟩ | ⟨h1, h2, h3, h4⟩
  · have HH := cHasNot h h1
    clear h
    go_enter Tryz.func32, Tryz.ntmps32
    go_wp2_with (first
      | (go_at_call 89; refine HH.mono ?_; rintro e w' ⟨rfl, hw⟩; obtain rfl := hw.symm)
      | (go_at_call 61; refine (cStep _).mono ?_; rintro e w' ⟨rfl, hw⟩; obtain rfl := hw.symm))
    go_ret
    exact ⟨rfl, rfl⟩
  · obtain ⟨i, rfl⟩ : ∃ i : Nat, x = i := ⟨x.toNat, by omega⟩
    have HH := cHas h (i := i) (by omega) (by omega)
    have d3 : decide (y < 0) = true := decide_eq_true (by omega)
    clear h
    go_enter Tryz.func32, Tryz.ntmps32
    go_wp2_with (first
      | (go_at_call 89; refine HH.mono ?_; rintro e w' ⟨rfl, hw⟩; obtain rfl := hw.symm)
      | (go_at_call 61; refine (cStep _).mono ?_; rintro e w' ⟨rfl, hw⟩; obtain rfl := hw.symm))
    go_ret
    exact ⟨rfl, rfl⟩
  · obtain ⟨i, rfl⟩ : ∃ i : Nat, x = i := ⟨x.toNat, by omega⟩
    have HH := cHas h (i := i) (by omega) (by omega)
    have d3 : decide (y < 0) = false := decide_eq_false (by omega)
    have d4 : (y % 2 != 0) = true := by simp; omega
    clear h
    go_enter Tryz.func32, Tryz.ntmps32
    go_wp2_with (first
      | (go_at_call 89; refine HH.mono ?_; rintro e w' ⟨rfl, hw⟩; obtain rfl := hw.symm)
      | (go_at_call 61; refine (cStep _).mono ?_; rintro e w' ⟨rfl, hw⟩; obtain rfl := hw.symm))
    go_ret
    exact ⟨rfl, rfl⟩
set_option maxRecDepth 100000 in
set_option maxHeartbeats 1600000 in
theorem cPBackGone (h : PA w p sb pb nb L s) (h1 : 1 ≤ i) (h2 : i ≤ s.n) (y0 : 0 ≤ y) (y1 : y % 2 = 0) (hg : (s.slot i).gen ≠ y) : Calls Tryz.prog 32 #[.pointer (some ⟨p, 0, none⟩), .pointer none, .int .i64 (i : Nat), .int .i64 y] w fun e w' => e = .returned (.int .i64 104) ∧ w' = w.drew := by
  have d3 : decide (y < 0) = false := decide_eq_false (by omega)
  have d4 : (y % 2 != 0) = false := by simp; omega
  have HH := cHas h h1 h2
  have c0 := cell_at h.pool 0
  simp at c0
  have hlt : (i : Int) < (s.n : Int) + 1 := by omega
  have HLd := cPLoad (ptr_cell h.slots h2) (h.life i h2) rfl
  have HB : Hid _ := h
  clear h
  go_enter Tryz.func32, Tryz.ntmps32
  go_wp2_with (first
    | (go_at_call 89; refine HH.mono ?_; rintro e w' ⟨rfl, hw⟩; obtain rfl := hw.symm)
    | (go_at_call 61; refine (cStep _).mono ?_; rintro e w' ⟨rfl, hw⟩; obtain rfl := hw.symm)
    | (go_at_call 58; refine HLd.mono ?_; rintro e w' ⟨rfl, hw⟩; obtain rfl := hw.symm))
  rename_i K hK
  refine pbackgone_r5 (i := i) (g := y) rfl rfl rfl HB.out h2 hg ?_
  rintro a1 w1 s1 d1 e1 x52 rfl
  obtain ⟨cc, rfl, hcc⟩ := expand60 s1 d1
  have y52 : cc 52 = .bool true := (hcc 52).trans x52
  clear hcc x52 e1 s1 d1
  refine hK _ _ ?_
  unfold lit60
  simp only [y52]
  clear y52
  go_wp2
  go_ret
  exact ⟨rfl, rfl⟩
set_option maxRecDepth 100000 in
set_option maxHeartbeats 1600000 in
theorem cPBack (h : PA w p sb pb nb L s) (ho : s.Ok) (h1 : 1 ≤ i) (h2 : i ≤ s.n) (y0 : 0 ≤ y) (y1 : y % 2 = 0) (y2 : y ≤ 100000) (hg : (s.slot i).gen = y) : Calls Tryz.prog 32 #[.pointer (some ⟨p, 0, none⟩), .pointer none, .int .i64 (i : Nat), .int .i64 y] w fun e w' => e = .returned (.int .i64 0) ∧ Turned (blocks p sb pb nb L s.n) w w' ∧ ∃ b', w.heap.size ≤ b' ∧ PA w' p sb pb nb (upd L i b') (s.back i) := by
  have d3 : decide (y < 0) = false := decide_eq_false (by omega)
  have d4 : (y % 2 != 0) = false := by simp; omega
  have HH := cHas h h1 h2
  have c0 := cell_at h.pool 0
  simp at c0
  have hlt : (i : Int) < (s.n : Int) + 1 := by omega
  have HLd := cPLoad (ptr_cell h.slots h2) (h.life i h2) rfl
  have HB : Hid _ := h
  clear h
  go_enter Tryz.func32, Tryz.ntmps32
  go_wp2_with (first
    | (go_at_call 89; refine HH.mono ?_; rintro e w' ⟨rfl, hw⟩; obtain rfl := hw.symm)
    | (go_at_call 61; refine (cStep _).mono ?_; rintro e w' ⟨rfl, hw⟩; obtain rfl := hw.symm)
    | (go_at_call 58; refine HLd.mono ?_; rintro e w' ⟨rfl, hw⟩; obtain rfl := hw.symm))
  rename_i K hK
  refine pback_r5 (i := i) (g := y) rfl rfl rfl rfl rfl HB.out h2 y0 (by omega) hg ?_
  rintro a1 w1 s1 d1 e1 x52 rfl
  have hA : PA (againW w.drew (s.slot i) (y + 2)) p sb pb nb L s := HB.out.keep ((Turned.refl [] w).drew.trans (againW_turned [] w.drew _ _)) (by simp)
  have hB := hA.lead h2 (againW_new w.drew (s.slot i) (y + 2)) (fun k hk => by have := lt_of_heap (HB.out.life k hk); show L k ≠ w.heap.size + 3; omega)
  have hT1 : Turned (blocks p sb pb nb L s.n) w ((againW w.drew (s.slot i) (y + 2)).setCell ⟨sb, i, none⟩ (.pointer (some ⟨w.drew.heap.size + 3, 0, none⟩))) := (((Turned.refl (blocks p sb pb nb L s.n) w).drew).trans (againW_turned _ w.drew _ _)).set (.inl (by simp [blocks])) _ _
  generalize (againW w.drew (s.slot i) (y + 2)).setCell ⟨sb, i, none⟩ (.pointer (some ⟨w.drew.heap.size + 3, 0, none⟩)) = W2 at hB hT1 ⊢
  have HPu := cPush0 hB.pile (i := i) (by omega) h2
  have c1 := cell_at hB.pool 1
  simp at c1
  have HB2 : Hid _ := hB
  have HT1 : Hid _ := hT1
  obtain ⟨cc, rfl, hcc⟩ := expand60 s1 d1
  have q0 : cc 0 = .pointer (some ⟨p, 0, none⟩) := (hcc 0).trans (e1 0 (by omega))
  have q1 : cc 1 = .pointer none := (hcc 1).trans (e1 1 (by omega))
  have q2 : cc 2 = .int .i64 (i : Nat) := (hcc 2).trans (e1 2 (by omega))
  have q52 : cc 52 = .bool false := (hcc 52).trans x52
  clear hcc x52 e1 s1 d1 hA hB hT1 HLd HH c0
  refine hK _ _ ?_
  unfold lit60
  simp only [q0, q1, q2, q52]
  clear q0 q1 q2 q52
  go_wp2_with (go_at_call 64; refine HPu.mono ?_; rintro e w' ⟨rfl, rfl⟩)
  go_ret
  have mp : pb ∈ blocks p sb pb nb L s.n ∨ w.heap.size ≤ pb := .inl (by simp [blocks])
  have mn : nb ∈ blocks p sb pb nb L s.n ∨ w.heap.size ≤ nb := .inl (by simp [blocks])
  have hge : s.back i = { s with slot := upd s.slot i ⟨y + 2, (s.slot i).mark, (s.slot i).link, (s.slot i).a, (s.slot i).b, (s.slot i).c, (s.slot i).d⟩, h := nextV s.h i, f := upd s.f i (idxV s.h).toNat } := by unfold PSt.back; rw [hg]
  refine ⟨rfl, (HT1.out.drew.set mn _ _).set mp _ _, w.drew.heap.size + 3, (by show w.heap.size ≤ w.heap.size + 3; omega), ?_⟩
  rw [hge]
  exact HB2.out.push h2 ho.h0 _
end
end Go.Proofs.YtaalohcldoakoaaGreatDoor
/- The document's thread alone (skeinref3): its lines by contract. -/
namespace Go.Proofs.YtaalohcldoakoaaGreatDoor
open Go.RowKit
theorem rInfoInt : (Tryz.prog.info? 3).map (fun i => (i.zero, i.size, i.bytes)) = some (some (.int .i64 0), 1, 8) := by kernel_rfl
theorem rUndInts : Tryz.prog.underlying 29 = some (.slice 3) := by kernel_rfl
/-- A thread alone: its memory is the blocks T; c: no more lines than that were done. -/
structure Th (T : List Nat) (w : World) (tb mb c : Nat) : Prop where
  ex : ∃ (own left k : Int) (lv : Value) (n : Nat) (xs : List Value), w.heap[tb]? = some (.cells #[.pointer (some ⟨mb, 0, none⟩), .int .i64 k, .bool false, .int .i64 own, lv, .int .i64 (n : Nat), .int .i64 left] 134 (0, 0)) ∧ w.ownsRow 0 3 1 lv n xs ∧ 0 ≤ own ∧ own ≤ (c : Nat) ∧ n ≤ c ∧ 4611686018427387904 - (c : Int) ≤ left ∧ left ≤ 4611686018427387904 ∧ T = tb :: lv.ownBlock.toList
/-- Some lines were done: the thread's blocks, and l, alone turned. -/
structure Did (l T : List Nat) (w : World) (tb mb c : Nat) (T' : List Nat) (w' : World) : Prop where
  th : Th T' w' tb mb c
  wide : Wider T T' w
  turned : Turned (l ++ T) w w'
section
variable {tb mb c c1 c2 : Nat} {w w' w1 w2 : World} {l l' T T1 T2 : List Nat}
theorem blk_sets {w : World} {g : Nat} {cs : Array Value} {t : TypeId} (h : w.heap[g]? = some (.cells cs t (0, 0))) (i : Nat) (v : Value) : (w.setCell ⟨g, i, none⟩ v).heap[g]? = some (.cells (cs.setIfInBounds i v) t (0, 0)) := blk_set h i v
theorem Grew.heap {w w' : World} {v v' : Value} (h : Grew w w' v v') {g : Nat} {o : Obj} (ho : w.heap[g]? = some o) (hn : v.ownBlock ≠ some g) : w'.heap[g]? = some o := (h.1.block g (lt_of_heap ho) (fun e => hn e.symm)).trans ho
theorem Row.apart {B e t sz n : Nat} {v : Value} {xs : List Value} {cs : Array Value} (h : w.ownsRow B e sz v n xs) {g : Nat} (hb : w.heap[g]? = some (.cells cs t (0, 0))) (hne : e ≠ t) : v.ownBlock ≠ some g := fun hg => by
  obtain ⟨cur, hc⟩ := Row.obj h hg
  rw [hb] at hc
  simp at hc
  exact hne hc.2.symm
theorem Did.trans (h : Did l T w tb mb c1 T1 w1) (k : Did l T1 w1 tb mb c2 T2 w2) : Did l T w tb mb c2 T2 w2 := by
  refine ⟨k.th, fun x hx => ?_, h.turned.inner k.turned fun x hx => ?_⟩
  · rcases k.wide x hx with h1 | h1
    · exact h.wide x h1
    · have := h.turned.size
      exact .inr (by omega)
  · rcases List.mem_append.1 hx with h1 | h1
    · exact .inl (List.mem_append_left _ h1)
    · rcases h.wide x h1 with h2 | h2
      · exact .inl (List.mem_append_right _ h2)
      · exact .inr h2
theorem Did.mono (h : Did l T w tb mb c T1 w1) (hl : ∀ x, x ∈ l → x ∈ l') : Did l' T w tb mb c T1 w1 := ⟨h.th, h.wide, h.turned.mono fun x hx => by
  rcases List.mem_append.1 hx with h1 | h1
  · exact List.mem_append_left _ (hl x h1)
  · exact List.mem_append_right _ h1⟩
theorem Th.up (h : Th T w tb mb c1) (hc : c1 ≤ c2) : Th T w tb mb c2 := by
  obtain ⟨own, left, k, lv, n, xs, hb, hr, o0, o1, n1, l0, l1, e⟩ := h.ex
  exact ⟨own, left, k, lv, n, xs, hb, hr, o0, by omega, by omega, by omega, l1, e⟩
theorem Did.up (h : Did l T w tb mb c1 T1 w1) (hc : c1 ≤ c2) : Did l T w tb mb c2 T1 w1 := ⟨h.th.up hc, h.wide, h.turned⟩
theorem Wider.out {F F' : List Nat} (h : Wider F F' w) {x : Nat} (hx : x < w.heap.size) (hn : x ∉ F) : x ∉ F' := fun hm => by
  rcases h x hm with h1 | h1
  · exact hn h1
  · omega
theorem Th.ty (h : Th T w tb mb c) {x : Nat} {cs : Array Value} {t : TypeId} (hx : w.heap[x]? = some (.cells cs t (0, 0))) (h1 : t ≠ 3) (h2 : t ≠ 134) : x ∉ T := fun hm => by
  obtain ⟨own, left, k, lv, n, xs, hb, hr, -, -, -, -, -, rfl⟩ := h.ex
  rcases List.mem_cons.1 hm with e | e
  · subst e
    rw [hb] at hx
    simp at hx
    exact h2 hx.2.symm
  · exact Row.apart hr hx (fun e => h1 e.symm) (by simpa using e)
theorem Th.self (h : Th T w tb mb c) : tb ∈ T := by
  obtain ⟨own, left, k, lv, n, xs, hb, hr, -, -, -, -, -, rfl⟩ := h.ex
  simp
theorem th_told {w w3 : World} {own left k : Int} {n : Nat} {lv v' u : Value} {xs : List Value} (hb : w.heap[tb]? = some (.cells #[.pointer (some ⟨mb, 0, none⟩), .int .i64 k, .bool false, .int .i64 own, lv, .int .i64 (n : Nat), .int .i64 left] 134 (0, 0))) (hr : w.ownsRow 0 3 1 lv n xs) (o0 : 0 ≤ own) (o1 : own ≤ (c : Nat)) (n1 : n ≤ c) (l0 : 4611686018427387904 - (c : Int) ≤ left) (l1 : left ≤ 4611686018427387904)
    {ob : Obj} (hr3 : w3.ownsRow 0 3 1 v' (n + 1) (xs ++ [u])) (hG3 : Grew (w.alloc ob) w3 lv v') :
    w3.heap[tb]? = some (.cells #[.pointer (some ⟨mb, 0, none⟩), .int .i64 k, .bool false, .int .i64 own, lv, .int .i64 (n : Nat), .int .i64 left] 134 (0, 0)) ∧ Did [] (tb :: lv.ownBlock.toList) w tb mb (c + 1) (tb :: v'.ownBlock.toList) ((w3.setCell ⟨tb, 4, none⟩ v').setCell ⟨tb, 5, none⟩ (.int .i64 ((n : Int) + 1))) := by
  have hsz := lt_of_heap hb
  have hba : (w.alloc ob).heap[tb]? = _ := (Below.heap_alloc _ _ _ hsz).trans hb
  have hb3 := hG3.heap hba (Row.apart hr hb (by decide))
  have ht : Turned [tb] w3 ((w3.setCell ⟨tb, 4, none⟩ v').setCell ⟨tb, 5, none⟩ (.int .i64 ((n : Int) + 1))) := ((Turned.refl [tb] w3).set (.inl (by simp)) _ _).set (.inl (by simp)) _ _
  have hs3 := hG3.1.size
  simp at hs3
  refine ⟨hb3, ⟨own, left, k, v', n + 1, xs ++ [u], ?_, ?_, o0, by omega, by omega, by omega, l1, rfl⟩, fun x hx => ?_, ?_⟩
  · have h1 := blk_set hb3 4 v'
    have h2 := blk_set h1 5 (.int .i64 ((n : Int) + 1))
    simpa using h2
  · exact Row.keep hr3 ht (fun g hg e => by
      simp at e
      subst e
      exact Row.apart hr3 hb3 (by decide) hg)
  · rcases List.mem_cons.1 hx with e | e
    · exact .inl (by simp [e])
    · rcases hG3.2 with e2 | ⟨g, e2, e3⟩
      · rw [e2] at e
        exact .inl (List.mem_cons_of_mem _ e)
      · rw [e2] at e
        simp at e e3
        exact .inr (by omega)
  · refine ⟨ht.os.trans hG3.1.os, ht.tape.trans hG3.1.tape, ht.output.trans hG3.1.output, by have := ht.size; omega, fun g hg hn => ?_⟩
    simp only [List.nil_append, List.mem_cons, not_or] at hn
    rw [ht.block g (by omega) (by simpa using hn.1), hG3.1.block g (by simp; omega) (fun e => hn.2 (by rw [← e]; simp))]
    exact Below.heap_alloc _ _ _ hg
set_option maxRecDepth 100000 in
theorem cRTold {v : Int} (h : Th T w tb mb c) (hc : c ≤ 1000000) : Calls Tryz.prog 120 #[.pointer (some ⟨tb, 0, none⟩), .int .i64 v] w fun e w' => e = .returned (.int .i64 v) ∧ ∃ T', Did [] T w tb mb (c + 1) T' w' := by
  obtain ⟨own, left, k, lv, n, xs, hb, hr, o0, o1, n1, l0, l1, rfl⟩ := h.ex
  obtain ⟨la, lc, rfl⟩ := Row.shape hr
  have c4 := cell_at hb 4
  simp at c4
  go_enter Tryz.func120, Tryz.ntmps120
  go_wp2_with (first
    | (at_builtin; refine wpList_push rfl _ _ 29 rfl 0 3 (.int .i64 0) 8 rUndInts rInfoInt rfl (.slice la n lc) n xs rfl (hr.alloc _) ⟨w.heap.size, 0, none⟩ 1 (.int .i64 v) rfl (by go_simp) rfl (by unfold maxLen; omega) (by omega) (by omega) ?_; intro v' w3 hr3 hG3; obtain ⟨va, vc, rfl⟩ := Row.shape hr3; obtain ⟨hb3, ht3⟩ := th_told hb hr o0 o1 n1 l0 l1 hr3 hG3; have HT3 : Hid _ := ht3; have d4 := cell_at hb3 4; have d5 := cell_at hb3 5; simp at d4 d5; have z := froz_at hb3; clear ht3 hb3 hr3 hG3 c4 hb hr h))
  go_ret
  exact ⟨rfl, _, HT3.out⟩
end
end Go.Proofs.YtaalohcldoakoaaGreatDoor
/- The document's thread alone: goes. -/
namespace Go.Proofs.YtaalohcldoakoaaGreatDoor
open Go.RowKit
section
variable {tb mb c : Nat} {w : World} {T : List Nat}
set_option maxRecDepth 100000 in
theorem cGoes (h : Th T w tb mb c) (hc : c ≤ 1000000) : Calls Tryz.prog 121 #[.pointer (some ⟨tb, 0, none⟩)] w fun e w' => e = .returned (.tuple #[.int .i64 0, .bool false, .bool true]) ∧ Did [] T w tb mb (c + 1) T w' := by
  obtain ⟨own, left, k, lv, n, xs, hb, hr, o0, o1, n1, l0, l1, hT⟩ := h.ex
  obtain ⟨la, lc, rfl⟩ := Row.shape hr
  have HT : Hid (Did [] T w tb mb (c + 1) T ((w.drew.setCell ⟨tb, 6, none⟩ (.int .i64 (left - 1))).setCell ⟨tb, 3, none⟩ (.int .i64 (own + 1)))) := by
    have hbd : w.drew.heap[tb]? = _ := hb
    have ht : Turned [tb] w ((w.drew.setCell ⟨tb, 6, none⟩ (.int .i64 (left - 1))).setCell ⟨tb, 3, none⟩ (.int .i64 (own + 1))) := (((Turned.refl [tb] w).drew).set (.inl (by simp)) _ _).set (.inl (by simp)) _ _
    refine ⟨⟨own + 1, left - 1, k, _, n, xs, ?_, Row.keep hr ht (fun g hg e => by
      simp at e
      subst e
      exact Row.apart hr hb (by decide) hg), by omega, by omega, by omega, by omega, by omega, hT⟩, fun x hx => .inl hx, ht.mono (by
      intro x hx
      simp at hx
      subst hx
      rw [hT]
      simp)⟩
    have h1 := blk_set hbd 6 (.int .i64 (left - 1))
    have h2 := blk_set h1 3 (.int .i64 (own + 1))
    simpa using h2
  have c2 := cell_at hb 2
  have c3 := cell_at hb 3
  have c4 := cell_at hb 4
  have c5 := cell_at hb 5
  have c6 := cell_at hb 6
  simp at c2 c3 c4 c5 c6
  have z := froz_at hb
  have dl : (left == 0) = false := by simp; omega
  clear hb hr h hT
  go_enter Tryz.func121, Tryz.ntmps121
  go_wp2
  go_region
  go_wp2
  refine bodyPost_ret (v := .tuple #[.int .i64 0, .bool false, .bool true]) (by simp [results, Tryz.results121, go_sem]) rfl ⟨rfl, HT.out⟩
end
end Go.Proofs.YtaalohcldoakoaaGreatDoor

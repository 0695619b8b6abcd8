/-
  Order by contract. (By the verifier; no statement.)
-/
import Derived.Test.YtbielnehggcaoaaDoorJ16
import Derived.Test.YtbielnehggcaoaaDoorJ21
import Derived.Test.YtbielnehggcaoaaDoorJ08
namespace Go.Proofs.YtbielnehggcaoaaDoor
open Go.RowKit
/-- What the cells hold at first. -/
def v0F (F : List Int) : Int → Int := fun c => F.getD c.toNat 0
theorem outN_le (n : Nat) (S : Pl) : outN n S ≤ n := by
  unfold outN
  have := List.length_filter_le (fun j => !S j) (List.range n)
  rwa [List.length_range] at this
theorem held_of {B : Nat} {x : World} {v : Value} {F : List Int} (h : IR B x v F) (hne : F ≠ []) : ∃ g c hc, v = .slice (some ⟨g, 0, none⟩) F.length c ∧ B ≤ g ∧ x.heap[g]? = some (.cells hc 3 (0, 0)) ∧ ∀ i : Nat, i < F.length → hc[i]? = some (.int .i64 (v0F F i)) := by
  rcases h.own.2 with ⟨_, h0⟩ | ⟨g, c, cs, hv, hb, hh, _, _, _, ht⟩
  · exact absurd (List.length_eq_zero_iff.1 h0) hne
  · refine ⟨g, c, cs, hv, hb, hh, fun i hi => ?_⟩
    have h1 : (cs.toList.take (F.length * 1))[i]? = (F.map (fun z : Int => Value.int .i64 z))[i]? := by rw [ht]
    rw [Nat.mul_one, List.getElem?_take_of_lt hi, List.getElem?_map, List.getElem?_eq_getElem hi] at h1
    rw [← Array.getElem?_toList, h1]
    simp [v0F, hi]
theorem order_start {D : List Dd} {E : Nat} {A O : Nat → Nat} {cap g : Nat} {ad : Option Addr} {cv : Nat → Nat → Int → Bool} {F : List Int} {w x1 x2 x3 : World} {hc : Array Value} (hw1 : Turned [] w x1) (hS : SB x2 (x1.heap.size + 1) x1.heap.size ad D.length cap E A O) (hK : KM x2 x1.heap.size []) (hT2 : Turned [] x1 x2) (hT3 : Turned [] x2 x3) (hD : DsAt w ad D) (hTab : Tab w) (hz : 0 < w.heap.size) (hb : ∀ b o, ad = some ⟨b, o, none⟩ → b < w.heap.size) (hg : x2.heap.size ≤ g) (hh : x3.heap[g]? = some (.cells hc 3 (0, 0))) (hcs : ∀ i : Nat, i < F.length → hc[i]? = some (.int .i64 (v0F F i))) :
    Apart (x1.heap.size + 1) x1.heap.size g ad x3 ∧ LO D E A O (x1.heap.size + 1) x1.heap.size cap ad cv g F.length (v0F F) x3 [] 0 (v0F F) (.slice none 0 0) x3 := by
  have s1 := hw1.size
  have s3 := hT3.size
  have s4 := lt_of_heap hh
  have s5 : x1.heap.size + 1 < x2.heap.size := by
    obtain ⟨cs, h0, _⟩ := hS.ex
    exact lt_of_heap h0
  have T3 := (hw1.trans hT2).trans hT3
  refine ⟨⟨by omega, by omega, by omega, by omega, by omega, by omega, by omega, fun b o e => by have := hb b o e; omega⟩, ?_⟩
  exact ⟨Turned.refl _ _, (hS.keep hT3 (by simp)).sr (hK.keep hT3 (by simp)) (hTab.keep T3 (by simp)) (hD.still T3) (by omega) (by omega) (fun b o e => by have := hb b o e; omega), ⟨[], hK.keep hT3 (by simp), fun k hk => by cases hk⟩, World.ownsRow_nil _ _ _ _, ⟨hc, hh, hcs⟩, LS.start _, by have := outN_le D.length (bitsP 0); simpa using this⟩
theorem LeP.form {D : List Dd} {v0 : Int → Int} {tb kb : Nat} {w w' : World} {r : Ending} (h : LeP D v0 tb kb w r w') : ∃ v ok, r = .returned (.tuple #[v, .bool ok]) ∧ Turned [tb, kb] w w' ∧ ((ok = true ∧ ∃ os, Least D (bitsP 0) v0 os ∧ w'.ownsRow w.heap.size 3 1 v os.length (os.map fun i : Nat => Value.int .i64 (i : Int))) ∨ (v = .slice none 0 0 ∧ ok = false ∧ ¬ Can D (bitsP 0) v0)) := by
  rcases h.ans with ⟨os, v, rfl, h1, h2⟩ | ⟨rfl, h1⟩
  · exact ⟨v, true, rfl, h.tu, .inl ⟨rfl, os, h1, h2⟩⟩
  · exact ⟨_, false, rfl, h.tu, .inr ⟨rfl, rfl, h1⟩⟩
theorem chk_ok {m : Nat} {D : List Dd} (h : chkD m D = 0) : m ≠ 0 ∧ m ≤ 256 ∧ D.length ≤ 64 ∧ ∀ i, i < D.length → (dAt D i).right m := by
  unfold chkD at h
  split at h
  · cases h
  rename_i h1
  split at h
  · rename_i h2
    refine ⟨by omega, by omega, by omega, fun i hi => ?_⟩
    have hm : dAt D i ∈ D := by
      unfold dAt
      rw [List.getD_eq_getElem?_getD, List.getElem?_eq_getElem hi]
      exact List.getElem_mem hi
    have := List.all_eq_true.1 h2 _ hm
    simp only [rightB, timeB, Bool.and_eq_true, Bool.or_eq_true, decide_eq_true_eq] at this
    unfold Dd.right
    omega
  · cases h
/-- What Order answers. -/
structure OrP (D : List Dd) (F : List Int) (w : World) (r : Ending) (w' : World) : Prop where
  tu : Turned [] w w'
  ans : (chkD F.length D ≠ 0 ∧ r = .returned (.tuple #[.slice none 0 0, .bool false, .int .i64 (chkD F.length D)])) ∨ (chkD F.length D = 0 ∧ ((∃ os v, r = .returned (.tuple #[v, .bool true, .int .i64 0]) ∧ Least D (bitsP 0) (v0F F) os ∧ w'.ownsRow w.heap.size 3 1 v os.length (os.map fun i : Nat => Value.int .i64 (i : Int))) ∨ (r = .returned (.tuple #[.slice none 0 0, .bool false, .int .i64 0]) ∧ ¬ Can D (bitsP 0) (v0F F))))
theorem ownsRow_lower {B B' e n : Nat} {v : Value} {xs : List Value} {x : World} (h : x.ownsRow B e 1 v n xs) (hb : B' ≤ B) : x.ownsRow B' e 1 v n xs := by
  refine ⟨h.1, ?_⟩
  rcases h.2 with h0 | ⟨g, c, cs, rfl, hb2, hg, h3⟩
  · exact .inl h0
  · exact .inr ⟨g, c, cs, rfl, by omega, hg, h3⟩
set_option maxRecDepth 100000 in
set_option maxHeartbeats 1600000 in
theorem cOrder {D : List Dd} {F : List Int} {fv : Value} {ad : Option Addr} {cap : Nat} {w : World} (hF : IV w fv F) (hD : DsAt w ad D) (hn : D.length ≤ 1000) (hTab : Tab w) (hz : 0 < w.heap.size) (hb : ∀ b o, ad = some ⟨b, o, none⟩ → b < w.heap.size) :
    Calls Tryd.prog 11 #[fv, .slice ad D.length cap] w fun r w' => OrP D F w r w' := by
  have PC := cCheck (m := F.length) (cap := cap) hD hn
  have HFv : Hid (IV w fv F) := hF
  have HD : Hid (DsAt w ad D) := hD
  have HW : Hid (Tab w ∧ 0 < w.heap.size ∧ ∀ b o, ad = some ⟨b, o, none⟩ → b < w.heap.size) := ⟨hTab, hz, hb⟩
  obtain ⟨fa, fc, rfl, -, -⟩ := hF.ex
  clear hF hD hTab hz hb
  obtain ⟨cd, hcd⟩ : ∃ cd, cd = chkD F.length D := ⟨_, rfl⟩
  have HC : Hid (cd = chkD F.length D) := hcd
  rw [← hcd] at PC
  clear hcd
  by_cases h0 : cd = 0
  · subst h0
    obtain ⟨c1, c2, c3, c4⟩ := chk_ok HC.out.symm
    have HR : Hid (∀ i, i < D.length → (dAt D i).right F.length) := c4
    have hne : F ≠ [] := fun e => c1 (by rw [e]; rfl)
    have PN : ∀ x, Turned [] w x → Calls Tryd.prog 30 #[.slice ad D.length cap] x fun r w' => r = .returned (.pointer (some ⟨x.heap.size + 1, 0, none⟩)) ∧ NewP D ad cap x w' := fun x hx => cNewS (HD.out.still hx) c3 (fun i hi => by have := HR.out i hi; unfold Dd.right at this; omega)
    have PL : ∀ x, Turned [] w x → Calls Tryd.prog 32 #[.slice fa F.length fc] x fun e w' => ∃ v', e = .returned v' ∧ IR x.heap.size w' v' F ∧ Turned [] x w' := fun x hx => cClone (HFv.out.still hx) hne (by omega)
    clear c4
    go_enter Tryd.func11, Tryd.ntmps11
    go_wp2_with (first
      | (go_at_call 29; refine PC.mono ?_; rintro r x1 ⟨rfl, hT1⟩; have HT1 : Hid _ := hT1; clear hT1)
      | (go_at_call 30; refine (PN _ HT1.out).mono ?_; rintro r x2 ⟨rfl, hN⟩; obtain ⟨E, A, O, hS, hK, hM, hT2⟩ := hN.ex; have HS : Hid _ := hS; have HK : Hid _ := hK; have HM : Hid _ := hM; have HT2 : Hid _ := hT2; clear hN hS hK hM hT2)
      | (go_at_call 32; refine (PL _ (HT1.out.trans HT2.out)).mono ?_; rintro r x3 ⟨v', rfl, hI, hT3⟩; obtain ⟨g, kc, hc, rfl, hg, hh, hcs⟩ := held_of hI hne; have HT3 : Hid _ := hT3; have HX : Hid _ := order_start (cv := fun ce m v => @decide (CCan D ce (bitsP m) v) (Classical.propDecidable _)) HT1.out HS.out HK.out HT2.out HT3.out HD.out HW.out.1 HW.out.2.1 HW.out.2.2 hg hh hcs; have HG : Hid (x2.heap.size ≤ g) := hg; clear hI hT3 hg hh hcs hc)
      | (go_at_call 31; refine (cLeast HM.out (fun ce m v => by simp) (fun i hi => by have := HR.out i hi; unfold Dd.right at this; omega) c2 HX.out.1 HX.out.2).mono ?_; rintro r x4 hL; obtain ⟨v, ok, rfl, hT4, hA⟩ := hL.form; have HT4 : Hid _ := hT4; have HA : Hid _ := hA; clear hL hT4 hA))
    go_ret3
    have hg := HG.out
    have s1 := HT1.out.size
    have s2 := HT2.out.size
    have s3 := HT3.out.size
    refine ⟨((HT1.out.trans HT2.out).trans HT3.out).inner HT4.out (fun q hq => ?_), .inr ⟨HC.out.symm, ?_⟩⟩
    · rcases List.mem_cons.1 hq with rfl | hq
      · exact .inr s1
      · rw [List.mem_singleton.1 hq]
        exact .inr (by omega)
    · rcases HA.out with ⟨rfl, os, h1, h2⟩ | ⟨rfl, rfl, h1⟩
      · exact .inl ⟨os, v, rfl, h1, ownsRow_lower h2 (by omega)⟩
      · exact .inr ⟨rfl, h1⟩
  · have h1 : (cd == 0) = false := by simpa using h0
    have h2 : (cd != 0) = true := by simpa using h0
    go_enter Tryd.func11, Tryd.ntmps11
    go_wp2_with (go_at_call 29; refine PC.mono ?_; rintro r x1 ⟨rfl, hT1⟩; have HT1 : Hid _ := hT1; clear hT1)
    go_ret3
    exact ⟨HT1.out, .inl ⟨by rw [← HC.out]; exact h0, by rw [← HC.out]; rfl⟩⟩
end Go.Proofs.YtbielnehggcaoaaDoor
/-
  The least order by a plain search; the chapter's examples. (By the verifier; no statement, no memory.)
-/
namespace Go.Proofs.YtbielnehggcaoaaDoor
open Go.RowKit
/-- The first order, depth first, by rising places. -/
def dfs (D : List Dd) : Nat → Pl → (Int → Int) → Option (List Nat)
  | 0, S, _ => if allIn D S then some [] else none
  | n + 1, S, v => if allIn D S then some [] else (List.range D.length).findSome? fun i => if may D S i && (dAt D i).fits (v (dAt D i).a) then (dfs D n (S.upd i) (stepV D v i)).map (i :: ·) else none
variable {D : List Dd}
theorem findSome_range {α : Type} (f : Nat → Option α) : ∀ n, ((List.range n).findSome? f = none ∧ ∀ i, i < n → f i = none) ∨ ∃ i x, i < n ∧ f i = some x ∧ (∀ j, j < i → f j = none) ∧ (List.range n).findSome? f = some x
  | 0 => .inl ⟨rfl, fun i h => absurd h (Nat.not_lt_zero i)⟩
  | n + 1 => by
    rw [List.range_succ, List.findSome?_append]
    rcases findSome_range f n with ⟨h1, h2⟩ | ⟨i, x, h1, h2, h3, h4⟩
    · rw [h1]
      cases hf : f n with
      | none =>
        refine .inl ⟨by simp [hf], fun i hi => ?_⟩
        by_cases e : i = n
        · rw [e]; exact hf
        · exact h2 i (by omega)
      | some x => exact .inr ⟨n, x, by omega, hf, fun j hj => h2 j hj, by simp [hf]⟩
    · exact .inr ⟨i, x, by omega, h2, h3, by rw [h4]; rfl⟩
theorem Can.step {S : Pl} {v : Int → Int} {i : Nat} (hi : i < D.length) (hm : may D S i = true) (hf : (dAt D i).fits (v (dAt D i).a) = true) (h : Can D (S.upd i) (stepV D v i)) : Can D S v := by
  obtain ⟨os, ho⟩ := h
  exact ⟨i :: os, .cons hi hm hf ho⟩
theorem Can.next {S : Pl} {v : Int → Int} (h : Can D S v) (ha : allIn D S = false) : ∃ i, i < D.length ∧ may D S i = true ∧ (dAt D i).fits (v (dAt D i).a) = true ∧ Can D (S.upd i) (stepV D v i) := by
  obtain ⟨os, ho⟩ := h
  cases ho with
  | nil hh => rw [ha] at hh; cases hh
  | @cons _ _ i os hi hm hf hh => exact ⟨i, hi, hm, hf, os, hh⟩
/-- The search's condition, where there is an order: the next state has one. -/
theorem cond_can (hr : ∀ i, i < D.length → (dAt D i).e = 0 ∨ (dAt D i).b ≤ (dAt D i).e) {S : Pl} {v : Int → Int} (hc : Can D S v) {i : Nat} : Cond D S v i ↔ may D S i = true ∧ (dAt D i).fits (v (dAt D i).a) = true ∧ Can D (S.upd i) (stepV D v i) := by
  constructor
  · intro h
    exact ⟨h.1, h.2.1, Can.of_cells hr _ (Nat.le_refl _) (h.keeps fun c => hc.cells c)⟩
  · rintro ⟨h1, h2, h3⟩
    refine ⟨h1, h2, ?_⟩
    have := h3.cells (dAt D i).a
    simpa [stepV, updV] using this
theorem dfs_least (hr : ∀ i, i < D.length → (dAt D i).e = 0 ∨ (dAt D i).b ≤ (dAt D i).e) : ∀ (n : Nat) (S : Pl) (v : Int → Int), outN D.length S ≤ n → (∃ os, dfs D n S v = some os ∧ Least D S v os) ∨ (dfs D n S v = none ∧ ¬ Can D S v)
  | 0, S, v, hn => by
    unfold dfs
    by_cases ha : allIn D S = true
    · rw [if_pos ha]
      exact .inl ⟨[], rfl, .nil ha⟩
    · rw [if_neg ha]
      refine .inr ⟨rfl, fun hc => ?_⟩
      obtain ⟨i, hi, hm, _⟩ := hc.next (by simpa using ha)
      have := outN_upd hi (may_iff.1 hm).1
      omega
  | n + 1, S, v, hn => by
    unfold dfs
    by_cases ha : allIn D S = true
    · rw [if_pos ha]
      exact .inl ⟨[], rfl, .nil ha⟩
    · rw [if_neg ha]
      have ha2 : allIn D S = false := by simpa using ha
      have ih : ∀ i, i < D.length → may D S i = true → (∃ os, dfs D n (S.upd i) (stepV D v i) = some os ∧ Least D (S.upd i) (stepV D v i) os) ∨ (dfs D n (S.upd i) (stepV D v i) = none ∧ ¬ Can D (S.upd i) (stepV D v i)) := fun i hi hm => by
        have := outN_upd hi (may_iff.1 hm).1
        exact dfs_least hr n _ _ (by omega)
      have hnone : ∀ i, i < D.length → (if may D S i && (dAt D i).fits (v (dAt D i).a) then (dfs D n (S.upd i) (stepV D v i)).map (i :: ·) else none) = none → ¬ (may D S i = true ∧ (dAt D i).fits (v (dAt D i).a) = true ∧ Can D (S.upd i) (stepV D v i)) := fun i hi he ⟨h1, h2, h3⟩ => by
        rw [h1, h2] at he
        rcases ih i hi h1 with ⟨os, g1, _⟩ | ⟨_, g2⟩
        · rw [g1] at he; cases he
        · exact g2 h3
      rcases findSome_range (fun i => if may D S i && (dAt D i).fits (v (dAt D i).a) then (dfs D n (S.upd i) (stepV D v i)).map (i :: ·) else none) D.length with ⟨h1, h2⟩ | ⟨i, x, h1, h2, h3, h4⟩
      · refine .inr ⟨h1, fun hc => ?_⟩
        obtain ⟨i, hi, hm, hf, h3⟩ := hc.next ha2
        exact hnone i hi (h2 i hi) ⟨hm, hf, h3⟩
      · cases hb : may D S i && (dAt D i).fits (v (dAt D i).a) with
        | false => rw [hb] at h2; cases h2
        | true =>
          rw [hb] at h2
          simp only [if_true] at h2
          obtain ⟨hm, hf⟩ := (Bool.and_eq_true _ _).mp hb
          rcases ih i h1 hm with ⟨os, g1, g2⟩ | ⟨g1, _⟩
          · rw [g1] at h2
            have hx : x = i :: os := by simpa using h2.symm
            have hcan : Can D S v := Can.step h1 hm hf ⟨os, g2.goes⟩
            refine .inl ⟨i :: os, by rw [h4, hx], .cons ha2 h1 ((cond_can hr hcan).2 ⟨hm, hf, os, g2.goes⟩) (fun j hj hcj => ?_) g2⟩
            exact hnone j (by omega) (h3 j hj) ((cond_can hr hcan).1 hcj)
          · rw [g1] at h2; cases h2
theorem Least.uniq {S : Pl} {v : Int → Int} {os os' : List Nat} (h : Least D S v os) (h' : Least D S v os') : os = os' := by
  induction h generalizing os' with
  | nil h =>
    cases h' with
    | nil _ => rfl
    | cons ha _ _ _ _ => rw [h] at ha; cases ha
  | @cons S v i os ha hi hc hl _ ih =>
    cases h' with
    | nil h => rw [h] at ha; cases ha
    | @cons _ _ i' os' _ hi' hc' hl' h' =>
      have : i = i' := by
        rcases Nat.lt_trichotomy i i' with g | g | g
        · exact absurd hc (hl' i g)
        · exact g
        · exact absurd hc' (hl i' g)
      subst this
      rw [ih h']
/-- What Order answers where the deeds can be, by the plain search. -/
theorem OrP.dfs {F : List Int} {w w' : World} {r : Ending} (h : OrP D F w r w') (h0 : chkD F.length D = 0) : (∃ os v, dfs D D.length (bitsP 0) (v0F F) = some os ∧ r = .returned (.tuple #[v, .bool true, .int .i64 0]) ∧ w'.ownsRow w.heap.size 3 1 v os.length (os.map fun i : Nat => Value.int .i64 (i : Int))) ∨ (dfs D D.length (bitsP 0) (v0F F) = none ∧ r = .returned (.tuple #[.slice none 0 0, .bool false, .int .i64 0])) := by
  have hr : ∀ i, i < D.length → (dAt D i).e = 0 ∨ (dAt D i).b ≤ (dAt D i).e := fun i hi => ((chk_ok h0).2.2.2 i hi).2.2.2.2.2
  have hd := dfs_least hr D.length (bitsP 0) (v0F F) (outN_le _ _)
  rcases h.ans with ⟨h1, _⟩ | ⟨_, ⟨os, v, h1, h2, h3⟩ | ⟨h1, h2⟩⟩
  · exact absurd h0 h1
  · rcases hd with ⟨os', g1, g2⟩ | ⟨_, g2⟩
    · rw [h2.uniq g2] at h3
      exact .inl ⟨os', v, g1, h1, h3⟩
    · exact absurd ⟨os, h2.goes⟩ g2
  · rcases hd with ⟨os', _, g2⟩ | ⟨g1, _⟩
    · exact absurd ⟨os', g2.goes⟩ h2
    · exact .inr ⟨g1, h1⟩
end Go.Proofs.YtbielnehggcaoaaDoor
/-
  Lists of numbers, of blames, held against each other; by contract. (By the verifier; no statement.)
-/
namespace Go.Proofs.YtbielnehggcaoaaDoor
open Go.RowKit
/-- The slice v reads as the blames R. -/
structure BW (w : World) (v : Value) (R : List Bm) : Prop where
  ex : ∃ a c, v = .slice a R.length c ∧ ∀ i (h : i < R.length), ∃ b o, a = some ⟨b, o, none⟩ ∧ w.cell? ⟨b, o + i * 3, none⟩ = some (.int .i64 R[i].1) ∧ w.cell? ⟨b, o + i * 3 + 1, none⟩ = some (.int .i64 R[i].2.1) ∧ w.cell? ⟨b, o + i * 3 + 2, none⟩ = some (.int .i64 R[i].2.2)
theorem BR.view {B : Nat} {w : World} {v : Value} {R : List Bm} (h : BR B w v R) : BW w v R := by
  rcases h.form with ⟨rfl, rfl⟩ | ⟨g, c, rfl⟩
  · exact ⟨none, 0, rfl, fun i hi => by simp at hi⟩
  · refine ⟨_, c, rfl, fun i hi => ⟨g, 0, rfl, ?_⟩⟩
    have f : ∀ j, j < 3 → w.cell? ⟨g, 0 + i * 3 + j, none⟩ = (rowB R[i])[j]? := fun j hj => by
      rw [show 0 + i * 3 + j = i * 3 + j by omega, h.own.cellAt _ (by omega)]
      exact rowsB_at R hi hj
    exact ⟨f 0 (by omega), f 1 (by omega), f 2 (by omega)⟩
theorem BW.still {w w' : World} {v : Value} {R : List Bm} (h : BW w v R) (ht : Turned [] w w') : BW w' v R := by
  obtain ⟨a, c, rfl, hc⟩ := h.ex
  refine ⟨a, c, rfl, fun i hi => ?_⟩
  obtain ⟨b, o, e, h0, h1, h2⟩ := hc i hi
  exact ⟨b, o, e, ht.cell h0 (by simp), ht.cell h1 (by simp), ht.cell h2 (by simp)⟩
theorem neqBm (a b c a' b' c' : Int) (w : World) : (binOp .neq 55 (.agg #[.int .i64 a, .int .i64 b, .int .i64 c]) (.agg #[.int .i64 a', .int .i64 b', .int .i64 c'])).run Tryd.prog w = .ok (.bool (!decide (a = a' ∧ b = b' ∧ c = c'))) w := by
  by_cases h1 : a = a'
  · subst h1
    by_cases h2 : b = b'
    · subst h2
      by_cases h3 : c = c'
      · subst h3
        go_simp
      · have d : (c == c') = false := by simpa using h3
        go_simp
    · have d : (b == b') = false := by simpa using h2
      go_simp
  · have d : (a == a') = false := by simpa using h1
    go_simp
theorem take_eqI {xs ys : List Int} {k : Nat} (hx : k < xs.length) (hy : k < ys.length) (h : xs.take k = ys.take k) (he : xs[k] = ys[k]) : xs.take (k + 1) = ys.take (k + 1) := by
  rw [List.take_add_one, List.take_add_one, List.getElem?_eq_getElem hx, List.getElem?_eq_getElem hy, h, he]
set_option maxRecDepth 100000 in
set_option maxHeartbeats 1600000 in
theorem cSameI {w : World} {u v : Value} {xs ys : List Int} (hu : IV w u xs) (hv : IV w v ys) (hn : xs.length ≤ 1000000) : Calls Tryd.prog 14 #[u, v] w fun r w' => r = .returned (.bool (decide (xs = ys))) ∧ ∃ n, w' = w.drewN n := by
  have HU : Hid (IV w u xs) := hu
  have HV : Hid (IV w v ys) := hv
  obtain ⟨a, c, rfl, -, -⟩ := hu.ex
  obtain ⟨a', c', rfl, -, -⟩ := hv.ex
  clear hu hv
  by_cases g : xs.length = ys.length
  · have d0 : ((xs.length : Int) != (ys.length : Int)) = false := by simp [g]
    have HX : Hid (∀ k, k < xs.length → ∃ b o b' o', a = some ⟨b, o, none⟩ ∧ a' = some ⟨b', o', none⟩ ∧ b < w.heap.size ∧ b' < w.heap.size ∧ w.cell? ⟨b, o + k, none⟩ = some (.int .i64 (xs.getD k 0)) ∧ w.cell? ⟨b', o' + k, none⟩ = some (.int .i64 (ys.getD k 0))) := fun k hk => by
      obtain ⟨b, o, c2, e, hb, h1⟩ := HU.out.get hk
      obtain ⟨b', o', c3, e', hb', h1'⟩ := HV.out.get (i := k) (by omega)
      simp only [Value.slice.injEq] at e e'
      exact ⟨b, o, b', o', e.1, e'.1, hb, hb', h1, h1'⟩
    have HY : Hid (∀ k, k < xs.length → (xs.getD k 0 ≠ ys.getD k 0 → decide (xs = ys) = false) ∧ (xs.getD k 0 = ys.getD k 0 → xs.take k = ys.take k → xs.take (k + 1) = ys.take (k + 1))) := fun k hk => by
      have hk' : k < ys.length := by omega
      have e1 : xs.getD k 0 = xs[k] := by simp [hk]
      have e2 : ys.getD k 0 = ys[k] := by simp [hk']
      rw [e1, e2]
      exact ⟨fun h => decide_eq_false fun e => h (by simp [e]), fun h1 h2 => take_eqI hk hk' h2 h1⟩
    have HZ : Hid (xs.take xs.length = ys.take xs.length → decide (xs = ys) = true) := fun h => decide_eq_true (by
      rw [List.take_length] at h
      rw [h, g, List.take_length])
    rw [← g]
    rw [← g] at d0
    generalize xs.length = n at *
    clear HU HV g
    generalize decide (xs = ys) = bb at *
    go_enter Tryd.func14, Tryd.ntmps14
    go_wp2
    go_loopw [5] (fun i wx => ∃ k : Nat, k ≤ n ∧ i = .int .i64 k ∧ Hid (xs.take k = ys.take k) ∧ Hid (∃ q, wx = w.drewN q)) (fun i _ => n - (intOf i).toNat)
    case atStart => exact ⟨0, Nat.zero_le _, rfl, by simp [Hid], ⟨0, rfl⟩⟩
    case round =>
      obtain ⟨k, hk, rfl, HA, HW⟩ := hrel
      obtain ⟨q, hq⟩ := HW.out
      have HQ : Hid (wr = w.drewN q) := hq
      by_cases hlt : k < n
      · obtain ⟨b, o, b', o', rfl, rfl, hb, hb', h1, h2⟩ := HX.out k hlt
        have k1 : wr.cell? ⟨b, o + k, none⟩ = some (.int .i64 (xs.getD k 0)) := by rw [hq]; exact h1
        have k2 : wr.cell? ⟨b', o' + k, none⟩ = some (.int .i64 (ys.getD k 0)) := by rw [hq]; exact h2
        have kb : b < wr.heap.size := by rw [hq]; exact hb
        have kb' : b' < wr.heap.size := by rw [hq]; exact hb'
        obtain ⟨y1, y2⟩ := HY.out k hlt
        have Y1 : Hid _ := y1
        have Y2 : Hid _ := y2
        clear h1 h2 hb hb' hq y1 y2 HX HY
        generalize xs.getD k 0 = x1 at *
        generalize ys.getD k 0 = x2 at *
        by_cases ge : x1 = x2
        · have d1 : (x1 != x2) = false := by simpa using ge
          go_wp2
          go_quiet (fail)
          go_wp2
          go_roundw
          case rel => exact ⟨k + 1, by omega, by go_num, Y2.out ge HA.out, ⟨_, by rw [HQ.out, World.drewN_drewN]⟩⟩
          case measure => simp [intOf]; omega
        · have d1 : (x1 != x2) = true := by simpa using ge
          go_wp2
          go_quiet (fail)
          go_wp2
          go_ret
          exact ⟨by rw [Y1.out ge]; rfl, _, by rw [HQ.out, World.drewN_drewN]⟩
      · have e : k = n := by omega
        subst e
        clear hq
        go_wp2
        go_ret
        exact ⟨by rw [HZ.out HA.out]; rfl, q, HQ.out⟩
  · have d0 : ((xs.length : Int) != (ys.length : Int)) = true := by
      simp only [bne_iff_ne, ne_eq]
      omega
    rw [decide_eq_false (fun e => g (by rw [e]))]
    go_enter Tryd.func14, Tryd.ntmps14
    go_wp2
    go_ret
    exact ⟨rfl, 0, rfl⟩
end Go.Proofs.YtbielnehggcaoaaDoor
/-
  Lists of blames held against each other; by contract. (By the verifier; no statement.)
-/
namespace Go.Proofs.YtbielnehggcaoaaDoor
open Go.RowKit
theorem take_eqB {xs ys : List Bm} {k : Nat} (hx : k < xs.length) (hy : k < ys.length) (h : xs.take k = ys.take k) (he : xs[k] = ys[k]) : xs.take (k + 1) = ys.take (k + 1) := by
  rw [List.take_add_one, List.take_add_one, List.getElem?_eq_getElem hx, List.getElem?_eq_getElem hy, h, he]
set_option maxRecDepth 100000 in
set_option maxHeartbeats 1600000 in
theorem cSameB {w : World} {u v : Value} {xs ys : List Bm} (hu : BW w u xs) (hv : BW w v ys) (hn : xs.length ≤ 1000000000) : Calls Tryd.prog 23 #[u, v] w fun r w' => r = .returned (.bool (decide (xs = ys))) ∧ ∃ n, w' = w.drewN n := by
  have HU : Hid (BW w u xs) := hu
  have HV : Hid (BW w v ys) := hv
  obtain ⟨a, c, rfl, h1⟩ := hu.ex
  obtain ⟨a', c', rfl, h2⟩ := hv.ex
  clear hu hv
  by_cases g : xs.length = ys.length
  · have d0 : ((xs.length : Int) != (ys.length : Int)) = false := by simp [g]
    have HX : Hid (∀ k, k < xs.length → ∃ b o b' o', ∃ p q : Bm, a = some ⟨b, o, none⟩ ∧ a' = some ⟨b', o', none⟩ ∧ b < w.heap.size ∧ b' < w.heap.size ∧ w.cell? ⟨b, o + k * 3, none⟩ = some (.int .i64 p.1) ∧ w.cell? ⟨b, o + k * 3 + 1, none⟩ = some (.int .i64 p.2.1) ∧ w.cell? ⟨b, o + k * 3 + 2, none⟩ = some (.int .i64 p.2.2) ∧ w.cell? ⟨b', o' + k * 3, none⟩ = some (.int .i64 q.1) ∧ w.cell? ⟨b', o' + k * 3 + 1, none⟩ = some (.int .i64 q.2.1) ∧ w.cell? ⟨b', o' + k * 3 + 2, none⟩ = some (.int .i64 q.2.2) ∧ (p ≠ q → decide (xs = ys) = false) ∧ (p = q → xs.take k = ys.take k → xs.take (k + 1) = ys.take (k + 1))) := fun k hk => by
      have hk' : k < ys.length := by omega
      obtain ⟨b, o, e, f0, f1, f2⟩ := h1 k hk
      obtain ⟨b', o', e', g0, g1, g2⟩ := h2 k hk'
      exact ⟨b, o, b', o', xs[k], ys[k], e, e', World.block_lt_of_cell? _ _ f0, World.block_lt_of_cell? _ _ g0, f0, f1, f2, g0, g1, g2, fun h => decide_eq_false fun e => h (by simp [e]), fun h1 h2 => take_eqB hk hk' h2 h1⟩
    have HZ : Hid (xs.take xs.length = ys.take xs.length → decide (xs = ys) = true) := fun h => decide_eq_true (by
      rw [List.take_length] at h
      rw [h, g, List.take_length])
    rw [← g]
    rw [← g] at d0
    clear HU HV g h1 h2
    generalize xs.length = n at *
    generalize decide (xs = ys) = bb at *
    have hneq := neqBm
    go_enter Tryd.func23, Tryd.ntmps23
    go_wp2
    go_loopw [5] (fun i wx => ∃ k : Nat, k ≤ n ∧ i = .int .i64 k ∧ Hid (xs.take k = ys.take k) ∧ Hid (∃ q, wx = w.drewN q)) (fun i _ => n - (intOf i).toNat)
    case atStart => exact ⟨0, Nat.zero_le _, rfl, by simp [Hid], ⟨0, rfl⟩⟩
    case round =>
      obtain ⟨k, hk, rfl, HA, HW⟩ := hrel
      obtain ⟨q, hq⟩ := HW.out
      have HQ : Hid (wr = w.drewN q) := hq
      by_cases hlt : k < n
      · obtain ⟨b, o, b', o', ⟨p1, p2, p3⟩, ⟨s1, s2, s3⟩, rfl, rfl, hb, hb', f0, f1, f2, g0, g1, g2, y1, y2⟩ := HX.out k hlt
        dsimp only at f0 f1 f2 g0 g1 g2
        have k0 : wr.cell? ⟨b, o + k * 3, none⟩ = some (.int .i64 p1) := by rw [hq]; exact f0
        have k1 : wr.cell? ⟨b, o + k * 3 + 1, none⟩ = some (.int .i64 p2) := by rw [hq]; exact f1
        have k2 : wr.cell? ⟨b, o + k * 3 + 2, none⟩ = some (.int .i64 p3) := by rw [hq]; exact f2
        have l0 : wr.cell? ⟨b', o' + k * 3, none⟩ = some (.int .i64 s1) := by rw [hq]; exact g0
        have l1 : wr.cell? ⟨b', o' + k * 3 + 1, none⟩ = some (.int .i64 s2) := by rw [hq]; exact g1
        have l2 : wr.cell? ⟨b', o' + k * 3 + 2, none⟩ = some (.int .i64 s3) := by rw [hq]; exact g2
        have kb : b < wr.heap.size := by rw [hq]; exact hb
        have kb' : b' < wr.heap.size := by rw [hq]; exact hb'
        have Y1 : Hid _ := y1
        have Y2 : Hid _ := y2
        clear f0 f1 f2 g0 g1 g2 hb hb' hq y1 y2 HX
        by_cases ge : (p1, p2, p3) = ((s1, s2, s3) : Bm)
        · have ge2 := ge
          simp only [Prod.mk.injEq] at ge2
          obtain ⟨rfl, rfl, rfl⟩ := ge2
          have d1 : decide (p1 = p1 ∧ p2 = p2 ∧ p3 = p3) = true := decide_eq_true ⟨rfl, rfl, rfl⟩
          clear ge
          go_wp2
          go_quiet (fail)
          go_wp2
          go_roundw
          case rel => exact ⟨k + 1, by omega, by go_num, Y2.out trivial HA.out, ⟨_, by rw [HQ.out, World.drewN_drewN]⟩⟩
          case measure => simp [intOf]; omega
        · have d1 : decide (p1 = s1 ∧ p2 = s2 ∧ p3 = s3) = false := decide_eq_false fun ⟨h1, h2, h3⟩ => ge (by rw [h1, h2, h3])
          have Ge : Hid _ := ge
          clear ge
          go_wp2
          go_quiet (fail)
          go_wp2
          go_ret
          exact ⟨by rw [Y1.out Ge.out]; rfl, _, by rw [HQ.out, World.drewN_drewN]⟩
      · have e : k = n := by omega
        subst e
        clear hq
        go_wp2
        go_ret
        exact ⟨by rw [HZ.out HA.out]; rfl, q, HQ.out⟩
  · have d0 : ((xs.length : Int) != (ys.length : Int)) = true := by
      simp only [bne_iff_ne, ne_eq]
      omega
    rw [decide_eq_false (fun e => g (by rw [e]))]
    clear h1 h2
    go_enter Tryd.func23, Tryd.ntmps23
    go_wp2
    go_ret
    exact ⟨rfl, 0, rfl⟩
end Go.Proofs.YtbielnehggcaoaaDoor
/-
  The chapter's examples: Order at three histories, Versions at four. (By the verifier; no statement.)
-/
namespace Go.Proofs.YtbielnehggcaoaaDoor
open Go.RowKit
/-- Deeds that lie in a block of their own. -/
theorem ds_block {x : World} {g : Nat} {D : List Dd} {T : TypeId} (h : x.heap[g]? = some (.cells (D.flatMap dcs).toArray T (0, 0))) : DsAt x (some ⟨g, 0, none⟩) D := ⟨fun i d hd => by
  have hi := (List.getElem?_eq_some_iff.1 hd).1
  have hdl : ∀ l : List Dd, (l.flatMap dcs).length = l.length * 8 := fun l => by
    induction l with
    | nil => rfl
    | cons y l ih => rw [List.flatMap_cons, List.length_append, ih, List.length_cons]; simp only [List.length_cons, List.length_nil]; omega
  have f : ∀ j, j < 8 → x.cell? ⟨g, 0 + i * 8 + j, none⟩ = (dcs d)[j]? := fun j hj => by
    rw [cell_at h, List.getElem?_toArray, show 0 + i * 8 + j = i * 8 + j by omega]
    have e : D = D.take i ++ d :: D.drop (i + 1) := by
      obtain ⟨_, rfl⟩ := List.getElem?_eq_some_iff.1 hd
      rw [← List.drop_eq_getElem_cons hi, List.take_append_drop]
    have hl : ((D.take i).flatMap dcs).length = i * 8 := by rw [hdl, List.length_take, Nat.min_eq_left (by omega)]
    conv => lhs; rw [e]
    rw [List.flatMap_append, List.flatMap_cons, List.getElem?_append_right (by omega), hl, show i * 8 + j - i * 8 = j by omega, List.getElem?_append_left (by simp only [dcs, List.length_cons, List.length_nil]; omega)]
  exact ⟨g, 0, rfl, lt_of_heap h, f 0 (by omega), f 1 (by omega), f 2 (by omega), f 3 (by omega), f 4 (by omega), f 5 (by omega), f 6 (by omega), f 7 (by omega)⟩⟩
theorem iv_block {x : World} {g : Nat} {l : List Int} {T : TypeId} (h : x.heap[g]? = some (.cells (l.map (Value.int .i64 ·)).toArray T (0, 0))) (c : Nat) : IV x (.slice (some ⟨g, 0, none⟩) l.length c) l :=
  ⟨_, c, rfl, (fun e => by cases e), fun _ => ⟨g, 0, rfl, fun i hi => by
    rw [cell_at h, List.getElem?_toArray, List.getElem?_map, Nat.zero_add, List.getElem?_eq_getElem hi]
    rfl⟩⟩
/-- An order of three or two deeds, at one cell. -/
theorem kOrder {x : World} {g1 g2 c1 c2 : Nat} {F : List Int} {D : List Dd} {T1 T2 : TypeId} (h1 : x.heap[g1]? = some (.cells (F.map (Value.int .i64 ·)).toArray T1 (0, 0))) (h2 : x.heap[g2]? = some (.cells (D.flatMap dcs).toArray T2 (0, 0))) (hT : Tab x) (hn : D.length ≤ 1000) (h0 : chkD F.length D = 0) :
    Calls Tryd.prog 11 #[.slice (some ⟨g1, 0, none⟩) F.length c1, .slice (some ⟨g2, 0, none⟩) D.length c2] x fun r x' => Turned [] x x' ∧ ((∃ os v, dfs D D.length (bitsP 0) (v0F F) = some os ∧ r = .returned (.tuple #[v, .bool true, .int .i64 0]) ∧ IR x.heap.size x' v (ints os)) ∨ (dfs D D.length (bitsP 0) (v0F F) = none ∧ r = .returned (.tuple #[.slice none 0 0, .bool false, .int .i64 0]))) := by
  refine (cOrder (iv_block h1 c1) (ds_block h2) hn hT (Nat.lt_of_le_of_lt (Nat.zero_le _) (lt_of_heap h1)) fun b o e => ?_).mono ?_
  · cases e
    exact lt_of_heap h2
  · intro r x' hp
    refine ⟨hp.tu, ?_⟩
    rcases hp.dfs h0 with ⟨os, v, e1, e2, e3⟩ | ⟨e1, e2⟩
    · refine .inl ⟨os, v, e1, e2, ⟨?_⟩⟩
      rw [List.length_map, List.map_map]
      exact e3
    · exact .inr ⟨e1, e2⟩
def kD1 : List Dd := [⟨1, 4, 2, 0, 1, 0, 0, false⟩, ⟨2, 3, 1, 0, 0, 0, 0, false⟩]
def kD2 : List Dd := [⟨1, 4, 2, 0, 1, 0, 0, false⟩, ⟨2, 2, 1, 0, 0, 0, 1, false⟩, ⟨3, 3, 1, 0, 0, 0, 0, false⟩]
def kD3 : List Dd := [⟨1, 1, 3, 0, 2, 0, 2, false⟩, ⟨2, 0, 3, 0, 5, 0, 0, false⟩, ⟨3, 3, 1, 0, 0, 0, 2, false⟩]
theorem kd1 : dfs kD1 2 (bitsP 0) (v0F [0]) = some [1, 0] := by decide +kernel
theorem kd2 : dfs kD2 3 (bitsP 0) (v0F [0]) = none := by decide +kernel
theorem kd3 : dfs kD3 3 (bitsP 0) (v0F [0]) = some [0, 2] := by decide +kernel
theorem kc1 : chkD 1 kD1 = 0 := by decide +kernel
theorem kc2 : chkD 1 kD2 = 0 := by decide +kernel
theorem kc3 : chkD 1 kD3 = 0 := by decide +kernel
/-- An event without lists, as cells. -/
abbrev ecs (e : Ev) : List Value := [.int .i64 e.wk, .int .i64 e.b, .int .i64 e.e, .int .i64 e.k, .int .i64 e.p, .int .i64 e.key, .int .i64 e.num, .bool e.had, .int .i64 e.val, .bool e.has, .int .i64 e.new, .slice none 0 0, .slice none 0 0]
theorem es_block {x : World} {g c : Nat} {D : List Ev} {T : TypeId} (h : x.heap[g]? = some (.cells (D.flatMap ecs).toArray T (0, 0))) (hn : D.length ≤ 100000) (hl : ∀ e ∈ D, e.ns = [] ∧ e.ps = []) : EsAt x (.slice (some ⟨g, 0, none⟩) D.length c) D := ⟨hn, _, c, rfl, fun i d hd => by
  have hi := (List.getElem?_eq_some_iff.1 hd).1
  have hdl : ∀ l : List Ev, (l.flatMap ecs).length = l.length * 13 := fun l => by
    induction l with
    | nil => rfl
    | cons y l ih => rw [List.flatMap_cons, List.length_append, ih, List.length_cons]; simp only [List.length_cons, List.length_nil]; omega
  have f : ∀ j, j < 13 → x.cell? ⟨g, 0 + i * 13 + j, none⟩ = (ecs d)[j]? := fun j hj => by
    rw [cell_at h, List.getElem?_toArray, show 0 + i * 13 + j = i * 13 + j by omega]
    have e : D = D.take i ++ d :: D.drop (i + 1) := by
      obtain ⟨_, rfl⟩ := List.getElem?_eq_some_iff.1 hd
      rw [← List.drop_eq_getElem_cons hi, List.take_append_drop]
    have hl : ((D.take i).flatMap ecs).length = i * 13 := by rw [hdl, List.length_take, Nat.min_eq_left (by omega)]
    conv => lhs; rw [e]
    rw [List.flatMap_append, List.flatMap_cons, List.getElem?_append_right (by omega), hl, show i * 13 + j - i * 13 = j by omega, List.getElem?_append_left (by simp only [ecs, List.length_cons, List.length_nil]; omega)]
  obtain ⟨l1, l2⟩ := hl d (List.mem_of_getElem? hd)
  refine ⟨g, 0, rfl, ⟨lt_of_heap h, f 0 (by omega), f 1 (by omega), f 2 (by omega), f 3 (by omega), f 4 (by omega), f 5 (by omega), f 6 (by omega), f 7 (by omega), f 8 (by omega), f 9 (by omega), f 10 (by omega), ⟨_, f 11 (by omega), ?_⟩, ⟨_, f 12 (by omega), ?_⟩⟩⟩
  · rw [l1]
    exact ⟨none, 0, rfl, fun _ => rfl, fun h => absurd rfl h⟩
  · rw [l2]
    exact ⟨by simp, none, 0, rfl, fun h => absurd rfl h⟩⟩
def kS : List (List (Int × Int)) := [[(5, 50)]]
def kW : Ev := ⟨0, 1, 4, 2, 0, 5, 2, true, 50, true, 51, [], []⟩
def kR (b e n : Int) : Ev := ⟨0, b, e, 1, 0, 5, n, true, 50, false, 0, [], []⟩
theorem ks_block {x : World} {g p c : Nat} {T1 T2 : TypeId} (h : x.heap[g]? = some (.cells #[.slice (some ⟨p, 0, none⟩) 1 1] T1 (0, 0))) (hp : x.heap[p]? = some (.cells #[.int .i64 5, .int .i64 50] T2 (0, 0))) : SsAt x (.slice (some ⟨g, 0, none⟩) 1 c) kS := ⟨_, c, rfl, fun i l hl => by
  have hi : i = 0 := by
    have := (List.getElem?_eq_some_iff.1 hl).1
    simp only [kS, List.length_cons, List.length_nil] at this
    omega
  subst hi
  have e : l = [(5, 50)] := by simpa [kS] using hl.symm
  subst e
  refine ⟨g, 0, _, rfl, by rw [cell_at h]; rfl, by simp, _, 1, rfl, fun _ => ⟨p, 0, rfl, fun j hj => ?_⟩⟩
  have hj0 : j = 0 := by simpa using hj
  subst hj0
  exact ⟨by rw [cell_at hp]; rfl, by rw [cell_at hp]; rfl⟩⟩
theorem kv1 : allBm kS [kW, kR 2 3 1] = [] := by decide +kernel
theorem kv2 : allBm kS [kW, kR 5 6 1] = [(1, 0, 5)] := by decide +kernel
theorem kv3 : allBm kS [kW, kR 5 6 2] = [(1, -1, 4)] := by decide +kernel
theorem kv4 : allBm kS [kW, kR 5 6 3] = [(1, -1, 3)] := by decide +kernel
theorem kVers {x : World} {g p e c1 c2 : Nat} {T1 T2 T3 : TypeId} {y : Ev} {R0 : List Bm} (h : x.heap[g]? = some (.cells #[.slice (some ⟨p, 0, none⟩) 1 1] T1 (0, 0))) (hp : x.heap[p]? = some (.cells #[.int .i64 5, .int .i64 50] T2 (0, 0))) (he : x.heap[e]? = some (.cells ([kW, y].flatMap ecs).toArray T3 (0, 0))) (hy : y.ns = [] ∧ y.ps = []) (hR : allBm kS [kW, y] = R0) (h1 : R0.length ≤ 1) :
    Calls Tryd.prog 22 #[.slice (some ⟨g, 0, none⟩) 1 c1, .slice (some ⟨e, 0, none⟩) 2 c2] x fun r x' => Turned [] x x' ∧ ∃ v, r = .returned (.tuple #[v, .int .i64 0]) ∧ BR x.heap.size x' v R0 := by
  have hE : EsAt x (.slice (some ⟨e, 0, none⟩) [kW, y].length c2) [kW, y] := es_block he (by simp) fun z hz => by
    simp only [List.mem_cons, List.not_mem_nil, or_false] at hz
    rcases hz with rfl | rfl
    · exact ⟨rfl, rfl⟩
    · exact hy
  refine (cVersions hE (ks_block h hp) (by simp [kS])).mono ?_
  intro r x' hv
  refine ⟨hv.tu, ?_⟩
  rcases hv.ans with ⟨h2, _⟩ | ⟨_, v, R, h3, h4, _, h6⟩
  · exact absurd h2 (by simp [manyB, kS])
  · rw [hR] at h4
    refine ⟨v, h3, ?_⟩
    have : R = R0 := by
      match R0, h1, h4 with
      | [], _, h4 => exact List.perm_nil.1 h4
      | [a], _, h4 => exact List.perm_singleton.1 h4
    rw [← this]
    exact h6
end Go.Proofs.YtbielnehggcaoaaDoor
/- A piece of code by its path; the ends of blocks. -/
namespace Go.Proofs.YtbielnehggcaoaaDoor
open Go.RowKit
/-- A sub-code by its path: 0 left, 1 right. -/
def sub : List Nat → Code → Code
  | [], c => c
  | 0 :: p, .seq a _ => sub p a
  | _ :: p, .seq _ b => sub p b
  | 0 :: p, .cond _ a _ => sub p a
  | _ :: p, .cond _ _ b => sub p b
  | _ :: p, .block _ c => sub p c
  | _ :: p, .scope c => sub p c
  | _ :: p, .loop c => sub p c
  | _, _ => .skip
def atc (b : Option Code) (p : List Nat) : Code := sub p (b.getD .skip)
/-- The last piece of a block. -/
theorem wp_lastB {P : Program} {c : Code} {M : Act → World → Prop} {Q : Exit → Act → World → Prop} {id : Nat} {a : Act} {x : World} (h : c.wp P (Exit.then M (fun _ _ _ => False)) a x) : c.wp P (Exit.inBlock id (Exit.then M Q)) a x :=
  wp_mono h fun e _ _ h => by cases e <;> first | exact h | exact h.elim
/-- A piece that goes on, or leaves. -/
theorem wp_endB {P : Program} {c : Code} {Q : Exit → Act → World → Prop} {a : Act} {x : World} (h : c.wp P (Exit.then (Q .normal) Q) a x) : c.wp P Q a x :=
  wp_mono h (fun e a w h => by cases e <;> exact h)
end Go.Proofs.YtbielnehggcaoaaDoor
/- A frame, spelled out. -/
namespace Go.Proofs.YtbielnehggcaoaaDoor
open Go.RowKit
def lit147 (c : Nat → Value) : Array Value := #[c 0, c 1, c 2, c 3, c 4, c 5, c 6, c 7, c 8, c 9, c 10, c 11, c 12, c 13, c 14, c 15, c 16, c 17, c 18, c 19, c 20, c 21, c 22, c 23, c 24, c 25, c 26, c 27, c 28, c 29, c 30, c 31, c 32, c 33, c 34, c 35, c 36, c 37, c 38, c 39, c 40, c 41, c 42, c 43, c 44, c 45, c 46, c 47, c 48, c 49, c 50, c 51, c 52, c 53, c 54, c 55, c 56, c 57, c 58, c 59, c 60, c 61, c 62, c 63, c 64, c 65, c 66, c 67, c 68, c 69, c 70, c 71, c 72, c 73, c 74, c 75, c 76, c 77, c 78, c 79, c 80, c 81, c 82, c 83, c 84, c 85, c 86, c 87, c 88, c 89, c 90, c 91, c 92, c 93, c 94, c 95, c 96, c 97, c 98, c 99, c 100, c 101, c 102, c 103, c 104, c 105, c 106, c 107, c 108, c 109, c 110, c 111, c 112, c 113, c 114, c 115, c 116, c 117, c 118, c 119, c 120, c 121, c 122, c 123, c 124, c 125, c 126, c 127, c 128, c 129, c 130, c 131, c 132, c 133, c 134, c 135, c 136, c 137, c 138, c 139, c 140, c 141, c 142, c 143, c 144, c 145, c 146]
set_option maxRecDepth 100000 in
theorem lit147_eq (c : Nat → Value) : lit147 c = ((List.range 147).map c).toArray := by rfl
theorem expand147 {a : Act} (hs : a.tmps.size = 147) (hd : a.defers = []) : ∃ c : Nat → Value, a = ⟨lit147 c, []⟩ ∧ ∀ s, c s = a.eval (.tmp s) := by
  refine ⟨fun s => a.tmps.getD s undef, ?_, fun s => rfl⟩
  obtain ⟨t, d⟩ := a
  simp only at hs hd
  subst hd
  congr 1
  rw [lit147_eq]
  refine Array.ext (by simp [hs]) fun i h1 h2 => ?_
  simp [Array.getD, h1]
theorem expand147d {a : Act} {ds : List Deferred} (hs : a.tmps.size = 147) (hd : a.defers = ds) : ∃ c : Nat → Value, a = ⟨lit147 c, ds⟩ ∧ ∀ s, c s = a.eval (.tmp s) := by
  refine ⟨fun s => a.tmps.getD s undef, ?_, fun s => rfl⟩
  obtain ⟨t, d⟩ := a
  simp only at hs hd
  subst hd
  congr 1
  rw [lit147_eq]
  refine Array.ext (by simp [hs]) fun i h1 h2 => ?_
  simp [Array.getD, h1]
end Go.Proofs.YtbielnehggcaoaaDoor
/-
  known by contract. (By the verifier; no statement.)
-/
namespace Go.Proofs.YtbielnehggcaoaaDoor
open Go.RowKit
theorem blk_newC (W : World) (A B C : Obj) : (((W.alloc A).alloc B).alloc C).heap[W.heap.size + 1 + 1]? = some C := by
  have h := blk_new ((W.alloc A).alloc B) C
  have e : ((W.alloc A).alloc B).heap.size = W.heap.size + 1 + 1 := by show ((W.heap.push A).push B).size = _; simp
  rw [e] at h
  exact h
theorem blk_newD (W : World) (A B C D : Obj) : ((((W.alloc A).alloc B).alloc C).alloc D).heap[W.heap.size + 1 + 1 + 1]? = some D := by
  have h := blk_new (((W.alloc A).alloc B).alloc C) D
  have e : (((W.alloc A).alloc B).alloc C).heap.size = W.heap.size + 1 + 1 + 1 := by show (((W.heap.push A).push B).push C).size = _; simp
  rw [e] at h
  exact h
theorem blk_newE (W : World) (A B C D E : Obj) : (((((W.alloc A).alloc B).alloc C).alloc D).alloc E).heap[W.heap.size + 1 + 1 + 1 + 1]? = some E := by
  have h := blk_new ((((W.alloc A).alloc B).alloc C).alloc D) E
  have e : ((((W.alloc A).alloc B).alloc C).alloc D).heap.size = W.heap.size + 1 + 1 + 1 + 1 := by show ((((W.heap.push A).push B).push C).push D).size = _; simp
  rw [e] at h
  exact h
theorem kOrdS {x : World} {g1 g2 c1 c2 : Nat} {D : List Dd} {os : List Nat} {n : Nat} {T1 T2 : TypeId} (h1 : x.heap[g1]? = some (.cells #[.int .i64 0] T1 (0, 0))) (h2 : x.heap[g2]? = some (.cells (D.flatMap dcs).toArray T2 (0, 0))) (hT : Tab x) (hD : D.length = n) (hn : n ≤ 1000) (h0 : chkD 1 D = 0) (hd : dfs D n (bitsP 0) (v0F [0]) = some os) :
    Calls Tryd.prog 11 #[.slice (some ⟨g1, 0, none⟩) 1 c1, .slice (some ⟨g2, 0, none⟩) n c2] x fun r x' => Turned [] x x' ∧ ∃ v, r = .returned (.tuple #[v, .bool true, .int .i64 0]) ∧ IR x.heap.size x' v (ints os) := by
  subst hD
  refine (kOrder (F := [0]) (c1 := c1) (c2 := c2) h1 h2 hT hn h0).mono ?_
  rintro r x' ⟨ht, ⟨os', v, e1, e2, e3⟩ | ⟨e1, _⟩⟩
  · rw [hd] at e1
    cases e1
    exact ⟨ht, v, e2, e3⟩
  · rw [hd] at e1
    cases e1
theorem kOrdN {x : World} {g1 g2 c1 c2 : Nat} {D : List Dd} {n : Nat} {T1 T2 : TypeId} (h1 : x.heap[g1]? = some (.cells #[.int .i64 0] T1 (0, 0))) (h2 : x.heap[g2]? = some (.cells (D.flatMap dcs).toArray T2 (0, 0))) (hT : Tab x) (hD : D.length = n) (hn : n ≤ 1000) (h0 : chkD 1 D = 0) (hd : dfs D n (bitsP 0) (v0F [0]) = none) :
    Calls Tryd.prog 11 #[.slice (some ⟨g1, 0, none⟩) 1 c1, .slice (some ⟨g2, 0, none⟩) n c2] x fun r x' => Turned [] x x' ∧ r = .returned (.tuple #[.slice none 0 0, .bool false, .int .i64 0]) := by
  subst hD
  refine (kOrder (F := [0]) (c1 := c1) (c2 := c2) h1 h2 hT hn h0).mono ?_
  rintro r x' ⟨ht, ⟨os', v, e1, e2, e3⟩ | ⟨_, e2⟩⟩
  · rw [hd] at e1
    cases e1
  · exact ⟨ht, e2⟩
abbrev kA : Obj := .cells #[.int .i64 1, .int .i64 4, .int .i64 2, .int .i64 0, .int .i64 1, .int .i64 0, .int .i64 0, .bool false] 27 (0, 0)
theorem cells8 {x : World} {g : Nat} {a b c d e f i : Int} {o : Bool} {T : TypeId} (h : x.heap[g]? = some (.cells #[.int .i64 a, .int .i64 b, .int .i64 c, .int .i64 d, .int .i64 e, .int .i64 f, .int .i64 i, .bool o] T (0, 0))) : g < x.heap.size ∧ x.cell? ⟨g, 0, none⟩ = some (.int .i64 a) ∧ x.cell? ⟨g, 1, none⟩ = some (.int .i64 b) ∧ x.cell? ⟨g, 2, none⟩ = some (.int .i64 c) ∧ x.cell? ⟨g, 3, none⟩ = some (.int .i64 d) ∧ x.cell? ⟨g, 4, none⟩ = some (.int .i64 e) ∧ x.cell? ⟨g, 5, none⟩ = some (.int .i64 f) ∧ x.cell? ⟨g, 6, none⟩ = some (.int .i64 i) ∧ x.cell? ⟨g, 7, none⟩ = some (.bool o) :=
  ⟨lt_of_heap h, by rw [cell_at h]; rfl, by rw [cell_at h]; rfl, by rw [cell_at h]; rfl, by rw [cell_at h]; rfl, by rw [cell_at h]; rfl, by rw [cell_at h]; rfl, by rw [cell_at h]; rfl, by rw [cell_at h]; rfl⟩
abbrev kObjW : Obj := .cells #[.int .i64 0, .int .i64 1, .int .i64 4, .int .i64 2, .int .i64 0, .int .i64 5, .int .i64 2, .bool true, .int .i64 50, .bool true, .int .i64 51, .slice none 0 0, .slice none 0 0] 52 (0, 0)
abbrev kObjR (b e n : Int) : Obj := .cells #[.int .i64 0, .int .i64 b, .int .i64 e, .int .i64 1, .int .i64 0, .int .i64 5, .int .i64 n, .bool true, .int .i64 50, .bool false, .int .i64 0, .slice none 0 0, .slice none 0 0] 52 (0, 0)
theorem cells13 {x : World} {g : Nat} {a0 a1 a2 a3 a4 a5 a6 a7 a8 a9 a10 a11 a12 : Value} {T : TypeId} (h : x.heap[g]? = some (.cells #[a0, a1, a2, a3, a4, a5, a6, a7, a8, a9, a10, a11, a12] T (0, 0))) : g < x.heap.size ∧ x.cell? ⟨g, 0, none⟩ = some a0 ∧ x.cell? ⟨g, 1, none⟩ = some a1 ∧ x.cell? ⟨g, 2, none⟩ = some a2 ∧ x.cell? ⟨g, 3, none⟩ = some a3 ∧ x.cell? ⟨g, 4, none⟩ = some a4 ∧ x.cell? ⟨g, 5, none⟩ = some a5 ∧ x.cell? ⟨g, 6, none⟩ = some a6 ∧ x.cell? ⟨g, 7, none⟩ = some a7 ∧ x.cell? ⟨g, 8, none⟩ = some a8 ∧ x.cell? ⟨g, 9, none⟩ = some a9 ∧ x.cell? ⟨g, 10, none⟩ = some a10 ∧ x.cell? ⟨g, 11, none⟩ = some a11 ∧ x.cell? ⟨g, 12, none⟩ = some a12 :=
  ⟨lt_of_heap h, by rw [cell_at h]; rfl, by rw [cell_at h]; rfl, by rw [cell_at h]; rfl, by rw [cell_at h]; rfl, by rw [cell_at h]; rfl, by rw [cell_at h]; rfl, by rw [cell_at h]; rfl, by rw [cell_at h]; rfl, by rw [cell_at h]; rfl, by rw [cell_at h]; rfl, by rw [cell_at h]; rfl, by rw [cell_at h]; rfl, by rw [cell_at h]; rfl⟩
/-- A read's event is changed; the other blocks stay. -/
theorem blk_put {x : World} {g : Nat} {cs : Array Value} {T : TypeId} (h : x.heap[g]? = some (.cells cs T (0, 0))) (i : Nat) (v : Value) : (x.setCell ⟨g, i, none⟩ v).heap[g]? = some (.cells (cs.setIfInBounds i v) T (0, 0)) ∧ Turned [g] x (x.setCell ⟨g, i, none⟩ v) := ⟨blk_set h i v, (Turned.refl [g] x).set (by simp) i v⟩
theorem blk_newS {x x' : World} (h : x'.heap.size = x.heap.size) (o : Obj) : (x'.alloc o).heap[x.heap.size]? = some o := by rw [← h]; exact blk_new x' o
theorem size_set (x : World) (a : Addr) (v : Value) : (x.setCell a v).heap.size = x.heap.size := by simp [World.setCell]
theorem bw_block {x : World} {g c : Nat} {a b d : Int} {T : TypeId} (h : x.heap[g]? = some (.cells #[.int .i64 a, .int .i64 b, .int .i64 d] T (0, 0))) : BW x (.slice (some ⟨g, 0, none⟩) 1 c) [(a, b, d)] := ⟨_, c, rfl, fun i hi => by
  have : i = 0 := by simpa using hi
  subst this
  exact ⟨g, 0, rfl, by rw [cell_at h]; rfl, by rw [cell_at h]; rfl, by rw [cell_at h]; rfl⟩⟩
theorem BR.one {B : Nat} {w : World} {v : Value} {x : Bm} (h : BR B w v [x]) : ∃ g c, v = .slice (some ⟨g, 0, none⟩) 1 c := by
  rcases h.form with ⟨_, e⟩ | ⟨g, c, e⟩
  · cases e
  · exact ⟨g, c, e⟩
theorem BR.apart {B : Nat} {w w' : World} {v : Value} {R : List Bm} {rb : Nat} {cs : Array Value} (h : BR B w v R) (hr : w.heap[rb]? = some (.cells cs 52 (0, 0))) (ht : Turned [rb] w w') : BR B w' v R := h.keep ht fun g hg => by
  obtain ⟨c2, h2⟩ := h.type hg
  simpa using tyne h2 hr (by decide)
set_option maxRecDepth 100000 in
set_option maxHeartbeats 12800000 in
theorem known2 {a : Act} {x5 : World} (hs : a.tmps.size = 147) (hd : a.defers = []) {Q : Exit → Act → World → Prop} (hQ : ∀ a' w', a'.defers = [] → a'.eval (.tmp 0) = .bool true → Turned [] x5 w' → Q .ret a' w') : (atc Tryd.f9.body [1, 1, 1, 1, 1, 1]).wp Tryd.prog Q a x5 := by
  obtain ⟨cc, hcc, hce⟩ := expand147 hs hd
  clear hce hs hd
  subst hcc
  have HQ : Hid (∀ a' w', a'.defers = [] → a'.eval (.tmp 0) = .bool true → Turned [] x5 w' → Q .ret a' w') := hQ
  clear hQ
  conv => arg 2; whnf
  unfold lit147
  go_wp2_with (fail)
  have hp0 := fun A B C D => blk_old (blk_old (blk_old (blk_old (blk_new x5 (.cells #[.int .i64 5, .int .i64 50] 67 (0, 0))) A) B) C) D
  have hp1 := fun B C D => blk_old (blk_old (blk_old (blk_new2 x5 (.cells #[.int .i64 5, .int .i64 50] 67 (0, 0)) (.cells #[.slice (some ⟨x5.heap.size, 0, none⟩) 1 1] 41 (0, 0))) B) C) D
  refine (kVers (y := kR 2 3 1) (hp1 _ _ _) (hp0 _ _ _ _) (blk_newE x5 _ _ _ _ _) ⟨rfl, rfl⟩ kv1 (by decide)).mono ?_
  rintro r x6 ⟨t6, v6, rfl, b6⟩
  have HP6 : Hid _ := t6.heap (hp0 _ _ _ _) (by simp)
  have HS6 : Hid _ := t6.heap (hp1 _ _ _) (by simp)
  have HW6 : Hid _ := t6.heap (blk_old (blk_old (blk_newC x5 _ _ kObjW) (kObjR 2 3 1)) _) (by simp)
  have HR6 : Hid _ := t6.heap (blk_old (blk_newD x5 _ _ kObjW (kObjR 2 3 1)) _) (by simp)
  have HT6 : Hid (Turned [] x5 x6) := ((((((Turned.refl [] x5).alloc _).alloc _).alloc _).alloc _).alloc _).trans t6
  have e6 : ∃ a c, v6 = .slice a 0 c := by
    rcases b6.form with ⟨e, _⟩ | ⟨g, c, e⟩
    · exact ⟨_, _, e⟩
    · exact ⟨_, _, e⟩
  obtain ⟨a6, c6, rfl⟩ := e6
  clear t6 b6 hp0 hp1
  have HO : Hid (x5.heap.size ≠ x5.heap.size + 1 + 1 + 1 ∧ x5.heap.size + 1 ≠ x5.heap.size + 1 + 1 + 1 ∧ x5.heap.size + 1 + 1 ≠ x5.heap.size + 1 + 1 + 1 ∧ x5.heap.size ≤ x5.heap.size + 1 + 1 + 1) := ⟨by omega, by omega, by omega, by omega⟩
  generalize hz : x5.heap.size + 1 + 1 + 1 = rb at HR6 HO ⊢
  generalize hy : x5.heap.size + 1 + 1 = wb at HW6 HO ⊢
  generalize hx : x5.heap.size + 1 = g at HS6 HO ⊢
  have HP : Hid (x6.heap[x5.heap.size]? = some (.cells #[.int .i64 5, .int .i64 50] 67 (0, 0))) := HP6.out
  have HS : Hid (x6.heap[g]? = some (.cells #[.slice (some ⟨x5.heap.size, 0, none⟩) 1 1] 41 (0, 0))) := HS6.out
  clear hz hy hx HP6 HS6
  obtain ⟨n1, n2, n3, n4⟩ := HO.out
  obtain ⟨wl, w0, w1, w2, w3, w4, w5, w6, w7, w8, w9, w10, w11, w12⟩ := cells13 HW6.out
  obtain ⟨rl, r0, r1, r2, r3, r4, r5, r6, r7, r8, r9, r10, r11, r12⟩ := cells13 HR6.out
  have f1 := froz_at HR6.out 1
  have f2 := froz_at HR6.out 2
  have n5 := Ne.symm n3
  go_wp2_with (fail)
  clear wl w0 w1 w2 w3 w4 w5 w6 w7 w8 w9 w10 w11 w12 rl r0 r1 r2 r3 r4 r5 r6 r7 r8 r9 r10 r11 r12 f1 f2
  have tX : Turned [rb] x6 ((x6.setCell ⟨rb, 1, none⟩ (.int .i64 5)).setCell ⟨rb, 2, none⟩ (.int .i64 6)) := (((Turned.refl [rb] x6).set (by simp) 1 (.int .i64 5)).set (by simp) 2 (.int .i64 6))
  have sX : ((x6.setCell ⟨rb, 1, none⟩ (.int .i64 5)).setCell ⟨rb, 2, none⟩ (.int .i64 6)).heap.size = x6.heap.size := by simp [World.setCell]
  have hP := tX.heap HP.out (by simpa using n1)
  have hS := tX.heap HS.out (by simpa using n2)
  have hW := tX.heap HW6.out (by simpa using n3)
  have hR : ((x6.setCell ⟨rb, 1, none⟩ (.int .i64 5)).setCell ⟨rb, 2, none⟩ (.int .i64 6)).heap[rb]? = some (kObjR 5 6 1) := (blk_set (blk_set HR6.out 1 (.int .i64 5)) 2 (.int .i64 6))
  refine (kVers (y := kR 5 6 1) (blk_old hS _) (blk_old hP _) (blk_newS sX _) ⟨rfl, rfl⟩ kv2 (by decide)).mono ?_
  rintro r x7 ⟨t7, v7, rfl, b7⟩
  have hP2 := t7.heap (blk_old hP _) (by simp)
  have hS2 := t7.heap (blk_old hS _) (by simp)
  have HW7 : Hid (x7.heap[wb]? = some kObjW) := t7.heap (blk_old hW _) (by simp)
  have HR7 : Hid (x7.heap[rb]? = some (kObjR 5 6 1)) := t7.heap (blk_old hR _) (by simp)
  have HT7 : Hid (Turned [] x5 x7) := ((HT6.out.inner tX (by simp; exact n4)).alloc _).trans t7
  clear HP HS
  have HP : Hid _ := hP2
  have HS : Hid _ := hS2
  obtain ⟨g7, c7, rfl⟩ := b7.one
  have HB7 : Hid _ := b7
  clear tX sX hP hS hW hR hP2 hS2 t7 b7 HW6 HR6 HT6
  obtain ⟨wl, w0, w1, w2, w3, w4, w5, w6, w7, w8, w9, w10, w11, w12⟩ := cells13 HW7.out
  obtain ⟨rl, r0, r1, r2, r3, r4, r5, r6, r7, r8, r9, r10, r11, r12⟩ := cells13 HR7.out
  have f6 := froz_at HR7.out 6
  go_wp2_with (fail)
  clear wl w0 w1 w2 w3 w4 w5 w6 w7 w8 w9 w10 w11 w12 rl r0 r1 r2 r3 r4 r5 r6 r7 r8 r9 r10 r11 r12 f6
  have tX : Turned [rb] x7 (x7.setCell ⟨rb, 6, none⟩ (.int .i64 2)) := ((Turned.refl [rb] x7).set (by simp) 6 (.int .i64 2))
  have sX : (x7.setCell ⟨rb, 6, none⟩ (.int .i64 2)).heap.size = x7.heap.size := by simp [World.setCell]
  have hP := tX.heap HP.out (by simpa using n1)
  have hS := tX.heap HS.out (by simpa using n2)
  have hW := tX.heap HW7.out (by simpa using n3)
  have hR : (x7.setCell ⟨rb, 6, none⟩ (.int .i64 2)).heap[rb]? = some (kObjR 5 6 2) := (blk_set HR7.out 6 (.int .i64 2))
  refine (kVers (y := kR 5 6 2) (blk_old hS _) (blk_old hP _) (blk_newS sX _) ⟨rfl, rfl⟩ kv3 (by decide)).mono ?_
  rintro r x8 ⟨t8, v8, rfl, b8⟩
  have hP2 := t8.heap (blk_old hP _) (by simp)
  have hS2 := t8.heap (blk_old hS _) (by simp)
  have HW8 : Hid (x8.heap[wb]? = some kObjW) := t8.heap (blk_old hW _) (by simp)
  have HR8 : Hid (x8.heap[rb]? = some (kObjR 5 6 2)) := t8.heap (blk_old hR _) (by simp)
  have HT8 : Hid (Turned [] x5 x8) := ((HT7.out.inner tX (by simp; exact n4)).alloc _).trans t8
  have hb7 := ((HB7.out.apart HR7.out tX).still ((Turned.refl [] _).alloc _)).still t8
  clear HB7
  have HB7 : Hid _ := hb7
  clear hb7
  clear HP HS
  have HP : Hid _ := hP2
  have HS : Hid _ := hS2
  obtain ⟨g8, c8, rfl⟩ := b8.one
  have HB8 : Hid _ := b8
  clear tX sX hP hS hW hR hP2 hS2 t8 b8 HW7 HR7 HT7
  obtain ⟨wl, w0, w1, w2, w3, w4, w5, w6, w7, w8, w9, w10, w11, w12⟩ := cells13 HW8.out
  obtain ⟨rl, r0, r1, r2, r3, r4, r5, r6, r7, r8, r9, r10, r11, r12⟩ := cells13 HR8.out
  have f6 := froz_at HR8.out 6
  go_wp2_with (fail)
  clear wl w0 w1 w2 w3 w4 w5 w6 w7 w8 w9 w10 w11 w12 rl r0 r1 r2 r3 r4 r5 r6 r7 r8 r9 r10 r11 r12 f6
  have tX : Turned [rb] x8 (x8.setCell ⟨rb, 6, none⟩ (.int .i64 3)) := ((Turned.refl [rb] x8).set (by simp) 6 (.int .i64 3))
  have sX : (x8.setCell ⟨rb, 6, none⟩ (.int .i64 3)).heap.size = x8.heap.size := by simp [World.setCell]
  have hP := tX.heap HP.out (by simpa using n1)
  have hS := tX.heap HS.out (by simpa using n2)
  have hW := tX.heap HW8.out (by simpa using n3)
  have hR : (x8.setCell ⟨rb, 6, none⟩ (.int .i64 3)).heap[rb]? = some (kObjR 5 6 3) := (blk_set HR8.out 6 (.int .i64 3))
  refine (kVers (y := kR 5 6 3) (blk_old hS _) (blk_old hP _) (blk_newS sX _) ⟨rfl, rfl⟩ kv4 (by decide)).mono ?_
  rintro r x9 ⟨t9, v9, rfl, b9⟩
  have hP2 := t9.heap (blk_old hP _) (by simp)
  have hS2 := t9.heap (blk_old hS _) (by simp)
  have HW9 : Hid (x9.heap[wb]? = some kObjW) := t9.heap (blk_old hW _) (by simp)
  have HR9 : Hid (x9.heap[rb]? = some (kObjR 5 6 3)) := t9.heap (blk_old hR _) (by simp)
  have HT9 : Hid (Turned [] x5 x9) := ((HT8.out.inner tX (by simp; exact n4)).alloc _).trans t9
  have hb7 := ((HB7.out.apart HR8.out tX).still ((Turned.refl [] _).alloc _)).still t9
  clear HB7
  have HB7 : Hid _ := hb7
  clear hb7
  have hb8 := ((HB8.out.apart HR8.out tX).still ((Turned.refl [] _).alloc _)).still t9
  clear HB8
  have HB8 : Hid _ := hb8
  clear hb8
  clear HP HS
  have HP : Hid _ := hP2
  have HS : Hid _ := hS2
  obtain ⟨g9, c9, rfl⟩ := b9.one
  have HB9 : Hid _ := b9
  clear tX sX hP hS hW hR hP2 hS2 t9 b9 HW8 HR8 HT8
  go_wp2_with (fail)
  refine (cSameB (HB7.out.view.still ((Turned.refl [] x9).alloc _)) (bw_block (blk_new x9 _)) (by simp)).mono ?_
  rintro r y1 ⟨rfl, q1, e1⟩
  have HU1 : Hid (Turned [] x9 y1) := by rw [e1]; exact ((Turned.refl [] x9).alloc _).drewN q1
  clear e1
  go_wp2_with (fail)
  refine (cSameB ((HB8.out.view.still HU1.out).still ((Turned.refl [] y1).alloc _)) (bw_block (blk_new y1 _)) (by simp)).mono ?_
  rintro r y2 ⟨rfl, q2, e2⟩
  have HU2 : Hid (Turned [] x9 y2) := by rw [e2]; exact (HU1.out.alloc _).drewN q2
  clear e2
  go_wp2_with (fail)
  refine (cSameB ((HB9.out.view.still HU2.out).still ((Turned.refl [] y2).alloc _)) (bw_block (blk_new y2 _)) (by simp)).mono ?_
  rintro r y3 ⟨rfl, q3, e3⟩
  have HU3 : Hid (Turned [] x5 y3) := by rw [e3]; exact ((HT9.out.trans HU2.out).alloc _).drewN q3
  clear e3
  go_wp2
  exact HQ.out _ _ rfl rfl HU3.out
end Go.Proofs.YtbielnehggcaoaaDoor
/-
  known by contract. (By the verifier; no statement.)
-/
namespace Go.Proofs.YtbielnehggcaoaaDoor
open Go.RowKit
set_option maxRecDepth 100000 in
set_option maxHeartbeats 6400000 in
theorem cKnown {w : World} (hT : Tab w) : Calls Tryd.prog 9 #[] w fun r w' => r = .returned (.bool true) ∧ Turned [] w w' := by
  have HTab : Hid (Tab w) := hT
  clear hT
  go_enter Tryd.func9, Tryd.ntmps9
  refine wp_seq_k fun K0 hK0 => ?_
  have HK0 : Hid _ := hK0
  clear hK0
  go_wp2
  refine HK0.out _ _ ?_
  clear HK0 K0
  refine wp_seq_k fun K1 hK1 => ?_
  have HK1 : Hid _ := hK1
  clear hK1
  go_wp2
  refine HK1.out _ _ ?_
  clear HK1 K1
  refine wp_seq_k fun K2 hK2 => ?_
  have HK2 : Hid _ := hK2
  clear hK2
  go_wp2_with (fail)
  refine (kOrdS (D := kD1) (blk_old (blk_new2 w _ _) _) (blk_newC w _ _ _) (HTab.out.keep ((((Turned.refl [] w).alloc _).alloc _).alloc _) (by simp)) rfl (by decide) kc1 kd1).mono ?_
  rintro r x1 ⟨t1, v1, rfl, i1⟩
  have HT1 : Hid (Turned [] w x1) := ((((Turned.refl [] w).alloc _).alloc _).alloc _).trans t1
  have HA1 : Hid (x1.heap[w.heap.size]? = some kA) := t1.heap (blk_old (blk_old (blk_new w _) _) _) (by simp)
  obtain ⟨g1, c1, rfl⟩ := i1.at_ (by simp)
  have HI1 : Hid (IV x1 (.slice (some ⟨g1, 0, none⟩) 2 c1) [1, 0]) := i1.view
  clear t1 i1
  generalize w.heap.size = sa at HA1 ⊢
  obtain ⟨al, a0, a1, a2, a3, a4, a5, a6, a7⟩ := cells8 HA1.out
  go_wp2_with (fail)
  refine HK2.out _ _ ?_
  clear HK2 K2
  refine wp_seq_k fun K3 hK3 => ?_
  have HK3 : Hid _ := hK3
  clear hK3
  go_wp2_with (fail)
  clear al a0 a1 a2 a3 a4 a5 a6 a7
  refine (kOrdN (D := kD2) (blk_old (blk_new x1 _) _) (blk_new2 x1 _ _) (HTab.out.keep ((HT1.out.alloc _).alloc _) (by simp)) rfl (by decide) kc2 kd2).mono ?_
  rintro r x2 ⟨t2, rfl⟩
  have HT2 : Hid (Turned [] x1 x2) := (((Turned.refl [] x1).alloc _).alloc _).trans t2
  clear t2
  go_wp2_with (fail)
  refine HK3.out _ _ ?_
  clear HK3 K3
  refine wp_seq_k fun K4 hK4 => ?_
  have HK4 : Hid _ := hK4
  clear hK4
  go_wp2_with (fail)
  refine (kOrdS (D := kD3) (blk_old (blk_new x2 _) _) (blk_new2 x2 _ _) (HTab.out.keep (((HT1.out.trans HT2.out).alloc _).alloc _) (by simp)) rfl (by decide) kc3 kd3).mono ?_
  rintro r x3 ⟨t3, v3, rfl, i3⟩
  have HT3 : Hid (Turned [] x1 x3) := (HT2.out.alloc _).alloc _ |>.trans t3
  obtain ⟨g3, c3, rfl⟩ := i3.at_ (by simp)
  have HI3 : Hid (IV x3 (.slice (some ⟨g3, 0, none⟩) 2 c3) [0, 2]) := i3.view
  have HJ1 : Hid (IV x3 (.slice (some ⟨g1, 0, none⟩) 2 c1) [1, 0]) := HI1.out.still HT3.out
  have HU3 : Hid (Turned [] w x3) := HT1.out.trans HT3.out
  clear t3 i3 HI1 HT2 HT3 HT1 HA1
  go_wp2_with (fail)
  refine HK4.out _ _ ?_
  clear HK4 K4
  refine wp_seq_k fun K5 hK5 => ?_
  have HK5 : Hid _ := hK5
  clear hK5
  go_wp2_with (fail)
  refine (cSameI (HJ1.out.still ((Turned.refl [] x3).alloc _)) (iv_block (l := [1, 0]) (blk_new x3 _) 2) (by simp)).mono ?_
  rintro r x4 ⟨rfl, n4, e4⟩
  have HT4 : Hid (Turned [] x3 x4) := by rw [e4]; exact ((Turned.refl [] x3).alloc _).drewN n4
  clear e4
  go_wp2_with (fail)
  refine (cSameI ((HI3.out.still HT4.out).still ((Turned.refl [] x4).alloc _)) (iv_block (l := [0, 2]) (blk_new x4 _) 2) (by simp)).mono ?_
  rintro r x5 ⟨rfl, n5, e5⟩
  have HU5 : Hid (Turned [] w x5) := by rw [e5]; exact ((HU3.out.trans HT4.out).alloc _).drewN n5
  clear e5 HT4 HU3 HI3 HJ1
  go_wp2_with (fail)
  refine HK5.out _ _ ?_
  clear HK5 K5
  refine known2 rfl rfl ?_
  intro a' w' hd h0 ht
  exact bodyPost_ret (results_tmp rfl _ _ _) hd ⟨congrArg Ending.returned h0, HU5.out.trans ht⟩
end Go.Proofs.YtbielnehggcaoaaDoor
/-
  Is a list of numbers an order? (By the verifier; no statement, no memory.)
-/
namespace Go.Proofs.YtbielnehggcaoaaDoor
open Go.RowKit
def fitGo (D : List Dd) : Pl → (Int → Int) → List Int → Bool
  | S, _, [] => allIn D S
  | S, v, k :: os => decide (0 ≤ k) && (decide (k < D.length) && (may D S k.toNat && ((dAt D k.toNat).fits (v (dAt D k.toNat).a) && fitGo D (S.upd k.toNat) (stepV D v k.toNat) os)))
variable {D : List Dd}
theorem fitGo_goes : ∀ (os : List Int) (S : Pl) (v : Int → Int), fitGo D S v os = true → ∃ l : List Nat, os = ints l ∧ Goes D S v l
  | [], S, v, h => ⟨[], rfl, .nil h⟩
  | k :: os, S, v, h => by
    unfold fitGo at h
    simp only [Bool.and_eq_true, decide_eq_true_eq] at h
    obtain ⟨h0, h1, h2, h3, h4⟩ := h
    obtain ⟨l, e, g⟩ := fitGo_goes os _ _ h4
    exact ⟨k.toNat :: l, by rw [e]; simp only [ints, List.map_cons]; rw [Int.toNat_of_nonneg h0], .cons (by omega) h2 h3 g⟩
theorem goes_fitGo {S : Pl} {v : Int → Int} {os : List Nat} (h : Goes D S v os) : fitGo D S v (ints os) = true := by
  induction h with
  | nil h => exact h
  | @cons S v i os hi hm hf _ ih =>
    simp only [ints, List.map_cons]
    unfold fitGo
    rw [Int.toNat_natCast, decide_eq_true (by omega), decide_eq_true (by omega), hm, hf]
    exact ih
end Go.Proofs.YtbielnehggcaoaaDoor

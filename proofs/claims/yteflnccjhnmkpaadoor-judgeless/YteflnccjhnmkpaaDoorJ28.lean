/-
  The views of starts and of deeds. (By the verifier; no statement.)
-/
import Derived.Test.YteflnccjhnmkpaaDoorJ05
import Derived.Test.YteflnccjhnmkpaaDoorJ26
import Derived.Carry
/-
  by, by contract: some places of deeds. (By the verifier; no statement.)
-/
namespace Go.Proofs.YteflnccjhnmkpaaDoor
open Go.RowKit
theorem IR.put {B : Nat} {x : World} {g n c : Nat} {l : List Int} (h : IR B x (.slice (some ⟨g, 0, none⟩) n c) l) (k : Nat) (z : Int) : IR B (x.setCell ⟨g, k, none⟩ (.int .i64 z)) (.slice (some ⟨g, 0, none⟩) n c) (l.set k z) := by
  rcases h.own.2 with ⟨e, _⟩ | ⟨g', c', cs, e, hb, hg, h3⟩
  · cases e
  · cases e
    obtain ⟨q1, q2, q3, q4⟩ := h3
    refine ⟨by simp, .inr ⟨g, c, cs.setIfInBounds k (.int .i64 z), by simp, hb, blk_set hg k _, by simpa using q1, q2, by simpa using q3, ?_⟩⟩
    rw [List.length_set, Array.toList_setIfInBounds, List.take_set, q4, List.map_set]
/-- The row of places so far. -/
structure BY (w : World) (n : Nat) (v : Value) (os : List Int) (x : World) : Prop where
  row : IR w.heap.size x v os
  tu : Turned [] w x
  rng : ∀ z, z ∈ os → 0 ≤ z ∧ z < (n : Int)
structure BX (w : World) (n : Nat) (v i : Value) (x : World) : Prop where
  ex : ∃ (k : Nat) (os : List Int), k ≤ n ∧ i = .int .i64 (k : Int) ∧ os.length ≤ k ∧ BY w n v os x
structure BZ (w : World) (n m : Nat) (v k : Value) (x : World) : Prop where
  ex : ∃ (j : Nat) (os : List Int), j ≤ m ∧ k = .int .i64 (j : Int) ∧ os.length = m + 1 ∧ BY w n v os x
theorem BY.put {w : World} {n g m c : Nat} {os : List Int} {x : World} (h : BY w n (.slice (some ⟨g, 0, none⟩) m c) os x) (k : Nat) {z : Int} (hz : 0 ≤ z ∧ z < (n : Int)) : BY w n (.slice (some ⟨g, 0, none⟩) m c) (os.set k z) (x.setCell ⟨g, k, none⟩ (.int .i64 z)) :=
  ⟨h.row.put k z, h.tu.set (.inr (h.row.fresh rfl).1) _ _, fun y hy => by
    rcases List.mem_or_eq_of_mem_set hy with h1 | h1
    · exact h.rng y h1
    · rw [h1]; exact hz⟩
theorem BY.still {w : World} {n : Nat} {v : Value} {os : List Int} {x y : World} (h : BY w n v os x) (ht : Turned [] x y) : BY w n v os y := ⟨h.row.still ht, h.tu.trans ht, h.rng⟩
theorem BY.facts {w : World} {n g m c : Nat} {os : List Int} {x : World} (h : BY w n (.slice (some ⟨g, 0, none⟩) m c) os x) {i : Nat} (hi : i < os.length) : g < x.heap.size ∧ (∃ z : Nat, z < n ∧ x.cell? ⟨g, i, none⟩ = some (.int .i64 (z : Int))) ∧ x.frozen? ⟨g, i, none⟩ = false := by
  obtain ⟨cs, hc⟩ := h.row.type rfl
  have hm : m = os.length := by
    obtain ⟨a, c', e⟩ := h.row.form
    cases e
    rfl
  subst hm
  have hz := h.rng os[i] (List.getElem_mem hi)
  refine ⟨lt_of_heap hc, ⟨os[i].toNat, by omega, ?_⟩, froz_at hc i⟩
  rw [Int.toNat_of_nonneg hz.1]
  exact h.row.cells hi
set_option maxRecDepth 100000 in
set_option maxHeartbeats 6400000 in
theorem cBy {w : World} {D : List Dd} {ad : Option Addr} {cap : Nat} {en : Bool} (hD : DsAt w ad D) (hDl : D.length ≤ 1000) :
    Calls Tryd.prog 17 #[.slice ad D.length cap, .bool en] w fun r w' => ∃ v os, r = .returned v ∧ os.length ≤ 1000 ∧ IR w.heap.size w' v os ∧ Turned [] w w' := by
  have HD : Hid (DsAt w ad D) := hD
  clear hD
  go_enter Tryd.func17, Tryd.ntmps17
  go_wp2
  go_loopw [5, 6, 7] (fun v i _ wx => BX w D.length v i wx) (fun _ i _ _ => D.length - (intOf i).toNat)
  case atStart => exact ⟨0, [], Nat.zero_le _, rfl, Nat.le_refl _, ⟨IR.nil _ _, Turned.refl _ _, fun z hz => by cases hz⟩⟩
  case round =>
    obtain ⟨k, os, hk, rfl, hol, hB⟩ := hrel.ex
    have HB : Hid _ := hB
    clear hrel hB
    by_cases hlt : k < D.length
    · obtain ⟨b, o, rfl⟩ : ∃ b o, ad = some ⟨b, o, none⟩ := by
        obtain ⟨b, o, e, _⟩ := HD.out.all k _ (List.getElem?_eq_getElem hlt)
        exact ⟨b, o, e⟩
      have HDa : Hid (∀ y, Turned [] w y → ∀ j, j < D.length → b < y.heap.size ∧ DAt y b o j (dAt D j)) := fun y hy j hj => by
        have hd : D[j]? = some (dAt D j) := by unfold dAt; simp [hj]
        obtain ⟨b', o', e, hb, h⟩ := (HD.out.still hy).deed hd
        cases e
        exact ⟨hb, h⟩
      obtain ⟨bl, dk⟩ := HDa.out wr HB.out.tu k hlt
      have k1 := dk.h1
      clear dk
      by_cases g : (dAt D k).e = 0
      · rw [g] at k1
        clear g
        go_wp2
        go_roundw
        case rel => exact ⟨k + 1, os, by omega, by go_num, by omega, HB.out⟩
        case measure => simp [intOf]; omega
      · have g1 : ((dAt D k).e == 0) = false := by simpa using g
        clear g
        obtain ⟨oa, oc, rfl⟩ := HB.out.row.form
        go_wp2_with (at_builtin; refine wpList_apInts (B := w.heap.size) (v := .slice oa os.length oc) (u := .slice (some ⟨wr.heap.size, 0, none⟩) 1 1) (l := os) (ms := [(k : Int)]) rfl _ _ rfl rfl rfl (HB.out.row.still ((Turned.refl [] _).alloc _)) rfl (IV.one (blk_new _ _)) (by omega) (by simp) (by have := HB.out.tu.size; simp; omega) ?_; intro v1 w1 hr1 ht1 ho1; obtain ⟨g1, c1, hv1⟩ := hr1.somes; subst hv1; have HR1 : Hid _ := hr1; have HT1 : Hid (Turned [] w w1) := (HB.out.tu.alloc _).inner ht1 (fun z hz => .inr (HB.out.row.fresh (by simpa using hz)).1); clear hr1 ht1 ho1)
        have HB1 : Hid (BY w D.length (.slice (some ⟨g1, 0, none⟩) (os.length + 1) c1) (os ++ [(k : Int)]) w1) := by
          refine ⟨?_, HT1.out, fun z hz => ?_⟩
          · have h := HR1.out
            exact h
          · rcases List.mem_append.1 hz with h1 | h1
            · exact HB.out.rng z h1
            · rw [List.mem_singleton.1 h1]; omega
        clear HR1 HT1 HB
        rename_i K1 hK1 K hK
        have HK : Hid _ := hK
        have HK1 : Hid _ := hK1
        clear hK hK1 k1 bl
        generalize hl1 : os ++ [(k : Int)] = l1 at HB1
        have hll : l1.length = os.length + 1 := by rw [← hl1]; simp
        clear hl1
        go_loopw [7] (fun kk wx => BZ w D.length os.length (.slice (some ⟨g1, 0, none⟩) (os.length + 1) c1) kk wx) (fun kk _ => (intOf kk).toNat)
        case atStart => exact ⟨os.length, l1, Nat.le_refl _, rfl, hll, HB1.out⟩
        case round =>
          obtain ⟨j, l, hj, rfl, hl, hB2⟩ := hrel.ex
          have HB2 : Hid _ := hB2
          clear hrel hB2 HB1 hll l1
          rcases (by omega : j = 0 ∨ 0 < j) with rfl | hj0
          · go_wp2
            go_quiet (fail)
            have HB3 : Hid (BY w D.length (.slice (some ⟨g1, 0, none⟩) (os.length + 1) c1) l (wr.drewN nq)) := HB2.out.still ((Turned.refl [] _).drewN _)
            generalize wr.drewN nq = y at HB3 ⊢
            clear HB2
            go_wp2
            refine HK.out _ _ ?_
            clear HK
            obtain ⟨fg2, ⟨z2, hz2, fc⟩, ff⟩ := HB3.out.facts (i := 0) (by omega)
            go_wp2
            refine HK1.out _ _ ?_
            clear HK1
            go_wp2
            go_roundw
            case rel => exact ⟨k + 1, l.set 0 (k : Int), by omega, by go_num, by simp; omega, HB3.out.put 0 (by omega)⟩
            case measure => simp [intOf]; omega
          · obtain ⟨j, rfl⟩ : ∃ j', j = j' + 1 := ⟨j - 1, by omega⟩
            obtain ⟨fg, ⟨z, hz, fz⟩, -⟩ := HB2.out.facts (i := j) (by omega)
            obtain ⟨bl, dk⟩ := HDa.out wr HB2.out.tu k hlt
            obtain ⟨-, dz⟩ := HDa.out wr HB2.out.tu z hz
            cases en with
            | true =>
              have k1 := dk.h1
              have z1 := dz.h1
              clear dk dz
              by_cases g : (dAt D k).e < (dAt D z).e
              · have d : decide ((dAt D k).e < (dAt D z).e) = true := decide_eq_true g
                clear g
                go_wp2
                go_quiet (fail)
                clear fz fg
                have HB3 : Hid (BY w D.length (.slice (some ⟨g1, 0, none⟩) (os.length + 1) c1) l (wr.drewN nq)) := HB2.out.still ((Turned.refl [] _).drewN _)
                generalize wr.drewN nq = y at HB3 ⊢
                clear HB2
                obtain ⟨fg2, ⟨z2, hz2, fc2⟩, -⟩ := HB3.out.facts (i := j) (by omega)
                obtain ⟨-, ⟨z3, hz3, fc3⟩, ff⟩ := HB3.out.facts (i := j + 1) (by omega)
                go_wp2
                go_roundw
                case rel => exact ⟨j, l.set (j + 1) (z2 : Int), by omega, by go_num, by simp; omega, HB3.out.put (j + 1) (by omega)⟩
                case measure => simp [intOf]
              · have d : decide ((dAt D k).e < (dAt D z).e) = false := decide_eq_false g
                clear g
                go_wp2
                go_quiet (fail)
                clear fz fg
                have HB3 : Hid (BY w D.length (.slice (some ⟨g1, 0, none⟩) (os.length + 1) c1) l (wr.drewN nq)) := HB2.out.still ((Turned.refl [] _).drewN _)
                generalize wr.drewN nq = y at HB3 ⊢
                clear HB2
                go_wp2
                refine HK.out _ _ ?_
                clear HK
                obtain ⟨fg2, ⟨z2, hz2, fc⟩, ff⟩ := HB3.out.facts (i := (j + 1)) (by omega)
                go_wp2
                refine HK1.out _ _ ?_
                clear HK1
                go_wp2
                go_roundw
                case rel => exact ⟨k + 1, l.set (j + 1) (k : Int), by omega, by go_num, by simp; omega, HB3.out.put (j + 1) (by omega)⟩
                case measure => simp [intOf]; omega
            | false =>
              have k1 := dk.h0
              have z1 := dz.h0
              clear dk dz
              by_cases g : (dAt D k).b < (dAt D z).b
              · have d : decide ((dAt D k).b < (dAt D z).b) = true := decide_eq_true g
                clear g
                go_wp2
                go_quiet (fail)
                clear fz fg
                have HB3 : Hid (BY w D.length (.slice (some ⟨g1, 0, none⟩) (os.length + 1) c1) l (wr.drewN nq)) := HB2.out.still ((Turned.refl [] _).drewN _)
                generalize wr.drewN nq = y at HB3 ⊢
                clear HB2
                obtain ⟨fg2, ⟨z2, hz2, fc2⟩, -⟩ := HB3.out.facts (i := j) (by omega)
                obtain ⟨-, ⟨z3, hz3, fc3⟩, ff⟩ := HB3.out.facts (i := j + 1) (by omega)
                go_wp2
                go_roundw
                case rel => exact ⟨j, l.set (j + 1) (z2 : Int), by omega, by go_num, by simp; omega, HB3.out.put (j + 1) (by omega)⟩
                case measure => simp [intOf]
              · have d : decide ((dAt D k).b < (dAt D z).b) = false := decide_eq_false g
                clear g
                go_wp2
                go_quiet (fail)
                clear fz fg
                have HB3 : Hid (BY w D.length (.slice (some ⟨g1, 0, none⟩) (os.length + 1) c1) l (wr.drewN nq)) := HB2.out.still ((Turned.refl [] _).drewN _)
                generalize wr.drewN nq = y at HB3 ⊢
                clear HB2
                go_wp2
                refine HK.out _ _ ?_
                clear HK
                obtain ⟨fg2, ⟨z2, hz2, fc⟩, ff⟩ := HB3.out.facts (i := (j + 1)) (by omega)
                go_wp2
                refine HK1.out _ _ ?_
                clear HK1
                go_wp2
                go_roundw
                case rel => exact ⟨k + 1, l.set (j + 1) (k : Int), by omega, by go_num, by simp; omega, HB3.out.put (j + 1) (by omega)⟩
                case measure => simp [intOf]; omega
    · go_wp2
      go_ret
      exact ⟨_, os, rfl, by omega, HB.out.row, HB.out.tu⟩
end Go.Proofs.YteflnccjhnmkpaaDoor
/-
  JudgeFits by contract. (By the verifier; no statement.)
-/
namespace Go.Proofs.YteflnccjhnmkpaaDoor
open Go.RowKit
theorem not_fit {D : List Dd} {v : Int → Int} (h : ¬ Can D (bitsP 0) v) (os : List Int) : fitGo D (bitsP 0) v os = false := by
  cases hg : fitGo D (bitsP 0) v os with
  | false => rfl
  | true =>
    obtain ⟨l, -, g⟩ := fitGo_goes os _ _ hg
    exact absurd ⟨l, g⟩ h
set_option maxRecDepth 100000 in
set_option maxHeartbeats 12800000 in
theorem cJudgeFits {w : World} {D : List Dd} {F : List Int} {fv : Value} {ad : Option Addr} {n cap : Nat} (hF : F.length ≤ 256 → IV w fv F) (hfv : ∃ a c, fv = .slice a F.length c) (hD : n ≤ 64 → D.length = n ∧ DsAt w ad D ∧ ∀ b o, ad = some ⟨b, o, none⟩ → b < w.heap.size) (hT : Tab w) (hz : 0 < w.heap.size) : Calls Tryd.prog 4 #[fv, .slice ad n cap] w fun r w' => r = .returned (.bool true) ∧ Turned [] w w' := by
  have HT : Hid (Tab w ∧ 0 < w.heap.size) := ⟨hT, hz⟩
  have HF : Hid (F.length ≤ 256 → IV w fv F) := hF
  have HD : Hid (n ≤ 64 → D.length = n ∧ DsAt w ad D ∧ ∀ b o, ad = some ⟨b, o, none⟩ → b < w.heap.size) := hD
  obtain ⟨fa, fc, rfl⟩ := hfv
  clear hT hz hF hD
  go_enter Tryd.func4, Tryd.ntmps4
  go_wp2_with (fail)
  refine (cKnown HT.out.1).mono ?_
  rintro r x1 ⟨rfl, t1⟩
  have H1 : Hid (Turned [] w x1) := t1
  clear t1
  by_cases h1 : 64 < n
  · have d1 : decide ((64 : Int) < (n : Int)) = true := decide_eq_true (by omega)
    go_wp2
    go_ret
    exact ⟨rfl, H1.out⟩
  by_cases h2 : 256 < F.length
  · have d1 : decide ((64 : Int) < (n : Int)) = false := decide_eq_false (by omega)
    have d2 : decide ((256 : Int) < (F.length : Int)) = true := decide_eq_true (by omega)
    go_wp2
    go_ret
    exact ⟨rfl, H1.out⟩
  obtain ⟨rfl, hDs, hbd⟩ := HD.out (by omega)
  have d1 : decide ((64 : Int) < (D.length : Int)) = false := decide_eq_false (by omega)
  have d2 : decide ((256 : Int) < (F.length : Int)) = false := decide_eq_false (by omega)
  have HDs : Hid (DsAt w ad D) := hDs
  have HBd : Hid (∀ b o, ad = some ⟨b, o, none⟩ → b < w.heap.size) := hbd
  have HI : Hid (IV w (.slice fa F.length fc) F) := HF.out (by omega)
  clear hDs hbd HD HF
  go_wp2_with (fail)
  refine (cOrder (F := F) (HI.out.still H1.out) (HDs.out.still H1.out) (by omega) (HT.out.1.keep H1.out (by simp)) (Nat.lt_of_lt_of_le HT.out.2 H1.out.size) (fun b o e => Nat.lt_of_lt_of_le (HBd.out b o e) H1.out.size)).mono ?_
  intro r z hp
  have HU : Hid (Turned [] w z) := H1.out.trans hp.tu
  rcases hp.ans with ⟨hc, rfl⟩ | ⟨hc, ⟨os, v, rfl, hl, ho⟩ | ⟨rfl, hn⟩⟩
  · have d3 : (chkD F.length D != 0) = true := by simpa using hc
    clear hc hp
    generalize chkD F.length D = q at d3 ⊢
    go_wp2
    go_ret
    exact ⟨rfl, HU.out⟩
  · have HC : Hid (chkD F.length D = 0) := hc
    have hgo : Goes D (bitsP 0) (v0F F) os := hl.goes
    have hir : IR w.heap.size z v (ints os) := (show IR x1.heap.size z v (ints os) from ⟨by rw [List.length_map, List.map_map]; exact ho⟩).lower H1.out.size
    have HGo : Hid _ := hgo
    have hol : (ints os).length ≤ 1000000 := by
      have h1 := goes_len hgo
      have h2 := outN_le D.length (bitsP 0)
      rw [List.length_map]
      omega
    obtain ⟨oa, oc, rfl⟩ := hir.form
    have HIr2 : Hid (IV z (.slice oa os.length oc) (ints os)) := by
      have h := hir.view
      rw [show (ints os).length = os.length from List.length_map ..] at h
      exact h
    rw [show (ints os).length = os.length from List.length_map ..]
    clear hc hp hl ho hgo hir
    go_wp2_with (fail)
    refine (cFit (F := F) (HI.out.still HU.out) (HDs.out.still HU.out) HIr2.out (fun e => (chk_ok HC.out).1 (by rw [e]; rfl)) (by omega) (by omega) hol (chk_ok HC.out).2.2.2).mono ?_
    rintro r z2 ⟨rfl, t2⟩
    rw [goes_fitGo HGo.out]
    have HU3 : Hid (Turned [] w z2) := HU.out.trans t2
    clear t2
    go_wp2
    go_ret
    exact ⟨rfl, HU3.out⟩
  · have HC : Hid (chkD F.length D = 0) := hc
    have HN : Hid (∀ os, fitGo D (bitsP 0) (v0F F) os = false) := not_fit hn
    clear hc hp hn
    go_wp2_with (fail)
    refine (cBy (HDs.out.still HU.out) (by omega)).mono ?_
    rintro r z2 ⟨v2, o2, rfl, l2, r2, t2⟩
    have HU2 : Hid (Turned [] w z2) := HU.out.trans t2
    have HV2 : Hid (IV z2 v2 o2) := r2.view
    clear t2 r2
    go_wp2_with (fail)
    refine (cFit (F := F) (HI.out.still HU2.out) (HDs.out.still HU2.out) HV2.out (fun e => (chk_ok HC.out).1 (by rw [e]; rfl)) (by omega) (by omega) (by omega) (chk_ok HC.out).2.2.2).mono ?_
    rintro r z3 ⟨rfl, t3⟩
    rw [HN.out]
    have HU3 : Hid (Turned [] w z3) := HU2.out.trans t3
    clear t3 HU2 HV2 HU
    go_wp2_with (fail)
    refine (cBy (HDs.out.still HU3.out) (by omega)).mono ?_
    rintro r z4 ⟨v4, o4, rfl, l4, r4, t4⟩
    have HU4 : Hid (Turned [] w z4) := HU3.out.trans t4
    have HV4 : Hid (IV z4 v4 o4) := r4.view
    clear t4 r4
    go_wp2_with (fail)
    refine (cFit (F := F) (HI.out.still HU4.out) (HDs.out.still HU4.out) HV4.out (fun e => (chk_ok HC.out).1 (by rw [e]; rfl)) (by omega) (by omega) (by omega) (chk_ok HC.out).2.2.2).mono ?_
    rintro r z5 ⟨rfl, t5⟩
    rw [HN.out]
    have HU5 : Hid (Turned [] w z5) := HU4.out.trans t5
    clear t5
    go_wp2
    go_ret
    exact ⟨rfl, HU5.out⟩
end Go.Proofs.YteflnccjhnmkpaaDoor
namespace Go.Proofs.YteflnccjhnmkpaaDoor
open Go.ChangeShapes Go.WideShapes Go.ChangeAt Go.WideMaps Go.WideElems Go.RowKit Go.Deep
theorem cellsIntR : Tryd.prog.cellsOf 3 = 1 := by kernel_rfl
theorem cellsBoolR : Tryd.prog.cellsOf 4 = 1 := by kernel_rfl
theorem cellsDeedR : Tryd.prog.cellsOf 27 = 8 := by kernel_rfl
set_option maxRecDepth 100000 in
theorem block_of_slice {W : World} {base : Nat} {t e : TypeId} {a : Addr} {l c : Nat} (ht : Tryd.prog.underlying t = some (.slice e)) (hok : Value.okWide Tryd.prog W .any base t (.slice (some a) l c)) : a.block < W.heap.size := by
  simp only [Value.okWide, ht, Cell.okWide, Cell.ok] at hok
  obtain ⟨-, -, -, -, row, cells, hs, -⟩ := hok
  apply Classical.byContradiction
  intro hn
  have hnone : W.heap[a.block]? = none := Array.getElem?_eq_none (by omega)
  simp [World.shape?, hnone] at hs
section
variable {H : Type} {enc : TypeId × Value → H} {W : World} {base : Nat} {v : Value} {d : DataW H} {p : List MemPlace}
set_option maxRecDepth 100000 in
theorem view_ints (hok : Value.okWide Tryd.prog W .any base 22 v) (h : DataW.Trod enc Tryd.prog W 0 (fun _ => true) true 22 v d p) : ∃ fa fc F, v = .slice fa (F : List Int).length fc ∧ IV W v F := by
  obtain ⟨a0, len0, cap0, rfl⟩ := okWide_slice Tryd.underlying22 hok
  obtain ⟨fuel, hf⟩ := h
  rcases open_ints Tryd.underlying22 Tryd.underlying3 cellsIntR hf with ⟨hcs, hx⟩ | ⟨a, len, cap, zs, hcs, _, hl, hm, hz, hx, hcell, hwz⟩
  · simp [Value.cells] at hcs
    obtain ⟨rfl, rfl, rfl⟩ := hcs
    exact ⟨none, 0, [], rfl, ⟨none, 0, rfl, fun _ => rfl, fun h => absurd rfl h⟩⟩
  · simp [Value.cells] at hcs
    obtain ⟨rfl, rfl, rfl⟩ := hcs
    simp only [if_true] at hz
    have hlen : (zs.take len0).length = len0 := by rw [List.length_take, Nat.min_eq_left (by omega)]
    refine ⟨some a, cap0, zs.take len0, by rw [hlen], ⟨some a, cap0, by rw [hlen], (fun h => by cases h), fun hne => ?_⟩⟩
    have hpos : 0 < len0 := by
      rcases Nat.eq_zero_or_pos len0 with e | e
      · subst e; simp at hne
      · exact e
    obtain ⟨b, off, spot⟩ := a
    have hspot : spot = none := by simpa [Addr.add] using World.cell?_spot (hcell 0 (by omega))
    subst hspot
    refine ⟨b, off, rfl, fun j hj => ?_⟩
    have hj' : j < zs.length := by rw [List.length_take] at hj; omega
    have := hcell j hj'
    rw [show (⟨b, off, none⟩ : Addr).add j = ⟨b, off + j, none⟩ by unfold Addr.add; split <;> simp_all] at this
    rw [this, List.getElem_take]
    simp [hj']
set_option maxRecDepth 100000 in
theorem view_deeds (hok : Value.okWide Tryd.prog W .any base 23 v) (h : DataW.Trod enc Tryd.prog W 0 (fun _ => true) true 23 v d p) : ∃ la D lc, v = .slice la (D : List Dd).length lc ∧ DsAt W la D ∧ ∀ b o, la = some ⟨b, o, none⟩ → b < W.heap.size := by
  obtain ⟨a0, len, cap, rfl⟩ := okWide_slice Tryd.underlying23 hok
  obtain ⟨fuel, hf⟩ := h
  rcases open_slice Tryd.underlying23 hf with ⟨hcs, _⟩ | ⟨a, len', cap', m, n, Dx, Pl, hcs, _, hl, _, hm, _, hel⟩
  · simp [Value.cells] at hcs
    obtain ⟨rfl, rfl, rfl⟩ := hcs
    exact ⟨none, [], 0, rfl, ⟨fun i d hd => by simp at hd⟩, fun b o e => by cases e⟩
  · simp [Value.cells] at hcs
    obtain ⟨rfl, rfl, rfl⟩ := hcs
    simp only [if_true] at hm
    have hblk := block_of_slice Tryd.underlying23 hok
    have each : ∀ i, i < len → ∃ d : Dd, ∀ j, j < 8 → W.cell? (a.add (i * 8 + j)) = [Value.int .i64 d.b, .int .i64 d.e, .int .i64 d.k, .int .i64 d.a, .int .i64 d.x, .int .i64 d.c, .int .i64 d.n, .bool d.ok][j]? := by
      intro i hi
      obtain ⟨cs', h1, h2⟩ := hel i (by omega)
      rw [cellsDeedR] at h1
      obtain ⟨_, hlen, hcell⟩ := World.cells?_some h1
      obtain ⟨xs, k, _, _, _, hxl, hfs⟩ := DataW.trod_struct Tryd.underlying27 h2
      match xs, hxl, cs', hlen with
      | [y0, y1, y2, y3, y4, y5, y6, y7], _, [v0, v1, v2, v3, v4, v5, v6, v7], _ =>
        have g0 := hfs 0 _ rfl
        have g1 := hfs 1 _ rfl
        have g2 := hfs 2 _ rfl
        have g3 := hfs 3 _ rfl
        have g4 := hfs 4 _ rfl
        have g5 := hfs 5 _ rfl
        have g6 := hfs 6 _ rfl
        have g7 := hfs 7 _ rfl
        simp [cellsIntR, cellsBoolR] at g0 g1 g2 g3 g4 g5 g6 g7
        obtain ⟨z0, e0, _⟩ := DataW.trod_int Tryd.underlying3 g0
        obtain ⟨z1, e1, _⟩ := DataW.trod_int Tryd.underlying3 g1
        obtain ⟨z2, e2, _⟩ := DataW.trod_int Tryd.underlying3 g2
        obtain ⟨z3, e3, _⟩ := DataW.trod_int Tryd.underlying3 g3
        obtain ⟨z4, e4, _⟩ := DataW.trod_int Tryd.underlying3 g4
        obtain ⟨z5, e5, _⟩ := DataW.trod_int Tryd.underlying3 g5
        obtain ⟨z6, e6, _⟩ := DataW.trod_int Tryd.underlying3 g6
        obtain ⟨z7, e7, _⟩ := DataW.trod_bool Tryd.underlying4 g7
        simp at e0 e1 e2 e3 e4 e5 e6 e7
        subst e0 e1 e2 e3 e4 e5 e6 e7
        refine ⟨⟨z0, z1, z2, z3, z4, z5, z6, z7⟩, fun j hj => ?_⟩
        have t0 := hcell j (by simpa using hj)
        rw [add_add] at t0
        exact t0.trans (by simp)
    let f : Nat → Dd := fun i => if h : i < len then (each i h).choose else Dd.zero
    have hf' : ∀ i, i < len → ∀ j, j < 8 → W.cell? (a.add (i * 8 + j)) = [Value.int .i64 (f i).b, .int .i64 (f i).e, .int .i64 (f i).k, .int .i64 (f i).a, .int .i64 (f i).x, .int .i64 (f i).c, .int .i64 (f i).n, .bool (f i).ok][j]? := fun i hi => by
      have e : f i = (each i hi).choose := dif_pos hi
      rw [e]
      exact (each i hi).choose_spec
    refine ⟨some a, (List.range len).map f, cap, by simp, ⟨fun i d hd => ?_⟩, fun b o e => by cases e; exact hblk⟩
    have hi : i < len := by
      have := (List.getElem?_eq_some_iff.1 hd).1
      simpa using this
    have hd' : d = f i := by
      simp [hi] at hd
      exact hd.symm
    subst hd'
    obtain ⟨b, off, spot⟩ := a
    have hspot : spot = none := by simpa [Addr.add] using World.cell?_spot ((hf' 0 (by omega) 0 (by omega)).trans rfl)
    subst hspot
    have q' : ∀ j, j < 8 → W.cell? ⟨b, off + i * 8 + j, none⟩ = [Value.int .i64 (f i).b, .int .i64 (f i).e, .int .i64 (f i).k, .int .i64 (f i).a, .int .i64 (f i).x, .int .i64 (f i).c, .int .i64 (f i).n, .bool (f i).ok][j]? := fun j hj => by
      have := hf' i hi j hj
      simpa [add_plain, Nat.add_assoc] using this
    exact ⟨b, off, rfl, hblk, q' 0 (by omega), q' 1 (by omega), q' 2 (by omega), q' 3 (by omega), q' 4 (by omega), q' 5 (by omega), q' 6 (by omega), q' 7 (by omega)⟩
end
end Go.Proofs.YteflnccjhnmkpaaDoor

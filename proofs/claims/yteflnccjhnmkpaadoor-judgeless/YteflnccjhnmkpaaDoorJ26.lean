/-
  OrderLong by contract. (By the verifier; no statement.)
-/
import Derived.Test.YteflnccjhnmkpaaDoorJ25
namespace Go.Proofs.YteflnccjhnmkpaaDoor
open Go.RowKit
theorem cObj_set (v : Int → Int) {ix : Nat} (h : ix < 3) (u : Int) {x : World} {cb : Nat} (hc : x.heap[cb]? = some (cObj v)) : (x.setCell ⟨cb, ix, none⟩ (.int .i64 u)).heap[cb]? = some (cObj (updV v ix u)) := by
  rw [blk_set hc ix]
  unfold cObj updV
  rcases (by omega : ix = 0 ∨ ix = 1 ∨ ix = 2) with rfl | rfl | rfl <;> simp
theorem updV_self (v : Int → Int) (a : Int) : updV v a (v a) = v := by
  funext c
  unfold updV
  split
  · rename_i h; rw [h]
  · rfl
theorem cObj_at (v : Int → Int) {ix : Nat} (h : ix < 3) {x : World} {cb : Nat} (hc : x.heap[cb]? = some (cObj v)) : x.cell? ⟨cb, ix, none⟩ = some (.int .i64 (v ix)) ∧ x.frozen? ⟨cb, ix, none⟩ = false := by
  refine ⟨?_, froz_at hc ix⟩
  rw [cell_at hc]
  rcases (by omega : ix = 0 ∨ ix = 1 ∨ ix = 2) with rfl | rfl | rfl <;> rfl
/-- Behind a deed: its cell was written, or not; a box and what is appended were made; the row grew. -/
theorem OS.grown {w x X y : World} {tb cb : Nat} {lv lv' : Value} {D : List Dd} {d : Dd} {ix : Nat} {old : Int} (h : OS w x tb cb lv D) (hX : Turned [cb] x X) (hXc : X.heap[cb]? = some (cObj (updV (runV (v0F [0, 5, 1]) D) ix (d.next old)))) (hy : Turned lv.ownBlock.toList X y) (hr : DR w.heap.size y lv' (D ++ [d])) (hd : Tm D.length d) (ha : d.a = ix) (ho : old = runV (v0F [0, 5, 1]) D ix) (hn : d.n = d.ans old) (hk : d.ok = d.did old) : OS w y tb cb lv' (D ++ [d]) := by
  obtain ⟨t, t0, t1, t2⟩ := h.turner
  have hne : ∀ g, lv.ownBlock = some g → g ≠ cb ∧ g ≠ tb ∧ w.heap.size ≤ g := fun g hg => by
    obtain ⟨cs, hc⟩ := h.row.type hg
    exact ⟨tyne hc h.cells (by decide), tyne hc t2 (by decide), (h.row.fresh hg).1⟩
  have hT : Turned [] w X := h.tu.inner hX (by simp; exact h.base.2)
  refine h.more hd (by rw [ha]; exact ho) hn hk (hT.inner hy fun g hg => .inr (by simp only [Option.mem_toList] at hg; exact (hne g hg).2.2)) ⟨t, t0, t1, ?_⟩ ?_ hr
  · exact hy.heap (hX.heap t2 (by simpa using tyne t2 h.cells (by decide))) fun hg => by simp only [Option.mem_toList] at hg; exact (hne _ hg).2.1 rfl
  · rw [ha]
    exact hy.heap hXc fun hg => by simp only [Option.mem_toList] at hg; exact (hne _ hg).1 rfl
theorem OrP.can {D : List Dd} {F : List Int} {w w' : World} {r : Ending} (h : OrP D F w r w') (h0 : chkD F.length D = 0) (hc : Can D (bitsP 0) (v0F F)) : ∃ os v, r = .returned (.tuple #[v, .bool true, .int .i64 0]) ∧ Goes D (bitsP 0) (v0F F) os ∧ IR w.heap.size w' v (ints os) := by
  rcases h.ans with ⟨h1, _⟩ | ⟨_, ⟨os, v, h1, h2, h3⟩ | ⟨_, h2⟩⟩
  · exact absurd h0 h1
  · refine ⟨os, v, h1, h2.goes, ⟨?_⟩⟩
    rw [List.length_map, List.map_map]
    exact h3
  · exact absurd hc h2
theorem goes_len {D : List Dd} {S : Pl} {v : Int → Int} {os : List Nat} (h : Goes D S v os) : os.length ≤ outN D.length S := by
  induction h with
  | nil _ => simp
  | @cons S v i os hi hm hf _ ih =>
    have := outN_upd hi (may_iff.1 hm).1
    rw [List.length_cons]
    omega
theorem blk_newS2 {x x' : World} (h : x'.heap.size = x.heap.size) (A B : Obj) : ((x'.alloc A).alloc B).heap[x.heap.size + 1]? = some B := by rw [← h]; exact blk_new2 x' A B
structure OX (w : World) (tb cb n : Nat) (i lv : Value) (x : World) : Prop where
  ex : ∃ D : List Dd, D.length ≤ n ∧ i = .int .i64 (D.length : Nat) ∧ OS w x tb cb lv D
set_option maxRecDepth 100000 in
set_option maxHeartbeats 12800000 in
theorem cOrderLong {w : World} {seed count : Int} (hT : Tab w) (hz : 0 < w.heap.size) : Calls Tryd.prog 8 #[.int .i64 seed, .int .i64 count] w fun r w' => r = .returned (.bool true) ∧ Turned [] w w' := by
  have HT : Hid (Tab w ∧ 0 < w.heap.size) := ⟨hT, hz⟩
  clear hT hz
  go_enter Tryd.func8, Tryd.ntmps8
  go_wp2_with (fail)
  refine (cPlace w (by decide) (by decide)).mono ?_
  rintro r x1 ⟨⟨q1, rfl, h1, h2⟩, rfl⟩
  obtain ⟨n, rfl⟩ : ∃ n : Nat, q1 = n := ⟨q1.toNat, by omega⟩
  have hn : n ≤ 64 := by omega
  clear h1 h2
  go_wp2_with (fail)
  refine (cPlace x1 (by decide) (by decide)).mono ?_
  rintro r x2 ⟨⟨q2, rfl, h1, h2⟩, rfl⟩
  have HQ : Hid (0 ≤ q2 ∧ q2 < 2147483648) := ⟨h1, by omega⟩
  clear h1 h2
  go_wp2_with (fail)
  have HS0 : Hid (OS x2 ((x2.alloc (tObj q2)).alloc (.cells #[.int .i64 0, .int .i64 5, .int .i64 1] 3 (0, 0))) x2.heap.size (x2.heap.size + 1) (.slice none 0 0) []) := by
    refine ⟨((Turned.refl [] x2).alloc _).alloc _, ⟨Nat.le_refl _, by omega⟩, ⟨q2, HQ.out.1, HQ.out.2, blk_old (blk_new x2 _) _⟩, blk_new2 x2 _ _, DR.nil _ _, fun i hi => by simp at hi, trivial⟩
  have e0 : (x2.alloc (Obj.cells #[.int .i64 q2] 60 (0, 0))) = x2.alloc (tObj q2) := rfl
  rw [e0]
  clear e0
  generalize (x2.alloc (tObj q2)).alloc (Obj.cells #[.int .i64 0, .int .i64 5, .int .i64 1] 3 (0, 0)) = x0 at HS0 ⊢
  generalize x2.heap.size + 1 = cb at HS0 ⊢
  generalize hsz : x2.heap.size = tb at HS0 ⊢
  clear hsz
  go_loopw [9, 8] (fun i lv wx => OX x2 tb cb n i lv wx) (fun i _ _ => n - (intOf i).toNat)
  case atStart => exact ⟨[], by simp, rfl, HS0.out⟩
  case round =>
    obtain ⟨D, hD, rfl, hS⟩ := hrel.ex
    have HS : Hid _ := hS
    clear hrel hS HS0
    by_cases hlt : D.length < n
    · have hDl : D.length ≤ 64 := by omega
      go_wp2_with (fail)
      refine (OS.next HS.out (by decide) (by decide)).mono ?_
      rintro r y1 ⟨qb, rfl, qb0, qb1, S2⟩
      have HS1 : Hid _ := S2
      clear S2 HS
      go_wp2_with (fail)
      refine (OS.next HS1.out (by decide) (by decide)).mono ?_
      rintro r y2 ⟨qe, rfl, qe0, qe1, S2⟩
      have HS2 : Hid _ := S2
      clear S2 HS1
      go_wp2_with (fail)
      refine (OS.next HS2.out (by decide) (by decide)).mono ?_
      rintro r y3 ⟨qk, rfl, qk0, qk1, S2⟩
      have HS3 : Hid _ := S2
      clear S2 HS2
      go_wp2_with (fail)
      refine (OS.next HS3.out (by decide) (by decide)).mono ?_
      rintro r y4 ⟨qa, rfl, qa0, qa1, S2⟩
      have HS4 : Hid _ := S2
      clear S2 HS3
      go_wp2_with (fail)
      refine (OS.next HS4.out (by decide) (by decide)).mono ?_
      rintro r y5 ⟨qx, rfl, qx0, qx1, S2⟩
      have HS5 : Hid _ := S2
      clear S2 HS4
      go_wp2_with (fail)
      refine (OS.next HS5.out (by decide) (by decide)).mono ?_
      rintro r y6 ⟨qc, rfl, qc0, qc1, S2⟩
      have HS6 : Hid _ := S2
      clear S2 HS5
      obtain ⟨ix, rfl⟩ : ∃ ix : Nat, qa = ix := ⟨qa.toNat, by omega⟩
      have hix : ix < 3 := by omega
      obtain ⟨c1, c2⟩ := cObj_at _ hix HS6.out.cells
      have cl := lt_of_heap HS6.out.cells
      obtain ⟨V, hV⟩ : ∃ V, V = runV (v0F [0, 5, 1]) D ix := ⟨_, rfl⟩
      have HV : Hid (V = runV (v0F [0, 5, 1]) D ix) := hV
      rw [← hV] at c1
      clear hV
      have HTm : Hid (∀ (k n : Int) (ok : Bool), 1 ≤ k → k ≤ 7 → Tm D.length ⟨max (1 + 4 * (D.length : Int) - qb) 1, 1 + 4 * (D.length : Int) + qe, k, ix, qx, qc, n, ok⟩) := fun k n ok h1 h2 => ⟨by show 1 ≤ max _ 1; omega, by show 4 * (D.length : Int) - 8 ≤ max _ 1; omega, by show max _ 1 ≤ 1 + 4 * (D.length : Int); omega, by show 1 + 4 * (D.length : Int) ≤ 1 + 4 * (D.length : Int) + qe; omega, by show 1 + 4 * (D.length : Int) + qe ≤ 10 + 4 * (D.length : Int); omega, h1, h2, by show 0 ≤ (ix : Int); omega, by show (ix : Int) < 3; omega⟩
      have HB : Hid (x2.heap.size ≤ y6.heap.size) := HS6.out.tu.size
      rcases (by omega : qk = 0 ∨ qk = 1 ∨ qk = 2 ∨ qk = 3 ∨ qk = 4 ∨ qk = 5 ∨ qk = 6) with rfl | rfl | rfl | rfl | rfl | rfl | rfl
      · go_wp2_with (at_builtin; refine wpList_apDd (B := x2.heap.size) (v := u8) (R := D) (r := ⟨max (1 + 4 * (D.length : Int) - qb) 1, 1 + 4 * (D.length : Int) + qe, 1, ix, qx, qc, V, false⟩) (g := y6.heap.size + 1) rfl _ _ rfl rfl (HS6.out.row.keep (F := [cb]) (((Turned.refl [cb] y6).alloc _).alloc _) (fun g hg => by obtain ⟨cs, hc⟩ := HS6.out.row.type hg; simpa using tyne hc HS6.out.cells (by decide))) rfl (blk_new2 y6 _ _) (by omega) (by have := HB.out; simp; omega) ?_; intro v1 w1 hr1 ht1 ho1; have HS7 : Hid (OS x2 w1 tb cb v1 (D ++ [⟨max (1 + 4 * (D.length : Int) - qb) 1, 1 + 4 * (D.length : Int) + qe, 1, ix, qx, qc, V, false⟩])) := HS6.out.grown (ix := ix) (old := V) (((Turned.refl [cb] y6).alloc _).alloc _) (by rw [show ((⟨max (1 + 4 * (D.length : Int) - qb) 1, 1 + 4 * (D.length : Int) + qe, 1, ix, qx, qc, V, false⟩ : Dd)).next V = V by simp [Dd.next], HV.out, updV_self]; exact blk_old (blk_old HS6.out.cells _) _) ht1 hr1 (HTm.out 1 _ _ (by decide) (by decide)) rfl HV.out (by show V = Dd.ans _ V; simp [Dd.ans]) (by show false = Dd.did _ V; simp [Dd.did]); clear hr1 ht1 ho1)
        go_roundw
        case rel => exact ⟨_, by simp; omega, by simp, HS7.out⟩
        case measure => simp [intOf]; omega
      · go_wp2_with (at_builtin; refine wpList_apDd (B := x2.heap.size) (v := u8) (R := D) (r := ⟨max (1 + 4 * (D.length : Int) - qb) 1, 1 + 4 * (D.length : Int) + qe, 2, ix, qx, qc, 0, false⟩) (g := y6.heap.size + 1) rfl _ _ rfl rfl (HS6.out.row.keep (F := [cb]) ((((Turned.refl [cb] y6).set (by simp) ix (.int .i64 qx)).alloc _).alloc _) (fun g hg => by obtain ⟨cs, hc⟩ := HS6.out.row.type hg; simpa using tyne hc HS6.out.cells (by decide))) rfl (blk_newS2 (size_set y6 ⟨cb, ix, none⟩ (.int .i64 qx)) _ _) (by omega) (by have := HB.out; simp [World.setCell]; omega) ?_; intro v1 w1 hr1 ht1 ho1; have HS7 : Hid (OS x2 w1 tb cb v1 (D ++ [⟨max (1 + 4 * (D.length : Int) - qb) 1, 1 + 4 * (D.length : Int) + qe, 2, ix, qx, qc, 0, false⟩])) := HS6.out.grown (ix := ix) (old := V) ((((Turned.refl [cb] y6).set (by simp) ix (.int .i64 qx)).alloc _).alloc _) (by rw [show ((⟨max (1 + 4 * (D.length : Int) - qb) 1, 1 + 4 * (D.length : Int) + qe, 2, ix, qx, qc, 0, false⟩ : Dd)).next V = qx by simp [Dd.next]]; exact blk_old (blk_old (cObj_set _ hix qx HS6.out.cells) _) _) ht1 hr1 (HTm.out 2 _ _ (by decide) (by decide)) rfl HV.out (by show 0 = Dd.ans _ V; simp [Dd.ans]) (by show false = Dd.did _ V; simp [Dd.did]); clear hr1 ht1 ho1)
        go_roundw
        case rel => exact ⟨_, by simp; omega, by simp, HS7.out⟩
        case measure => simp [intOf]; omega
      · go_wp2_with (at_builtin; refine wpList_apDd (B := x2.heap.size) (v := u8) (R := D) (r := ⟨max (1 + 4 * (D.length : Int) - qb) 1, 1 + 4 * (D.length : Int) + qe, 3, ix, qx, qc, (wrap64 (V + qx)), false⟩) (g := y6.heap.size + 1) rfl _ _ rfl rfl (HS6.out.row.keep (F := [cb]) ((((Turned.refl [cb] y6).set (by simp) ix (.int .i64 (wrap64 (V + qx)))).alloc _).alloc _) (fun g hg => by obtain ⟨cs, hc⟩ := HS6.out.row.type hg; simpa using tyne hc HS6.out.cells (by decide))) rfl (blk_newS2 (size_set y6 ⟨cb, ix, none⟩ (.int .i64 (wrap64 (V + qx)))) _ _) (by omega) (by have := HB.out; simp [World.setCell]; omega) ?_; intro v1 w1 hr1 ht1 ho1; have HS7 : Hid (OS x2 w1 tb cb v1 (D ++ [⟨max (1 + 4 * (D.length : Int) - qb) 1, 1 + 4 * (D.length : Int) + qe, 3, ix, qx, qc, (wrap64 (V + qx)), false⟩])) := HS6.out.grown (ix := ix) (old := V) ((((Turned.refl [cb] y6).set (by simp) ix (.int .i64 (wrap64 (V + qx)))).alloc _).alloc _) (by rw [show ((⟨max (1 + 4 * (D.length : Int) - qb) 1, 1 + 4 * (D.length : Int) + qe, 3, ix, qx, qc, (wrap64 (V + qx)), false⟩ : Dd)).next V = (wrap64 (V + qx)) by simp [Dd.next]]; exact blk_old (blk_old (cObj_set _ hix (wrap64 (V + qx)) HS6.out.cells) _) _) ht1 hr1 (HTm.out 3 _ _ (by decide) (by decide)) rfl HV.out (by show (wrap64 (V + qx)) = Dd.ans _ V; simp [Dd.ans]) (by show false = Dd.did _ V; simp [Dd.did]); clear hr1 ht1 ho1)
        go_roundw
        case rel => exact ⟨_, by simp; omega, by simp, HS7.out⟩
        case measure => simp [intOf]; omega
      · go_wp2_with (at_builtin; refine wpList_apDd (B := x2.heap.size) (v := u8) (R := D) (r := ⟨max (1 + 4 * (D.length : Int) - qb) 1, 1 + 4 * (D.length : Int) + qe, 4, ix, qx, qc, V, false⟩) (g := y6.heap.size + 1) rfl _ _ rfl rfl (HS6.out.row.keep (F := [cb]) ((((Turned.refl [cb] y6).set (by simp) ix (.int .i64 qx)).alloc _).alloc _) (fun g hg => by obtain ⟨cs, hc⟩ := HS6.out.row.type hg; simpa using tyne hc HS6.out.cells (by decide))) rfl (blk_newS2 (size_set y6 ⟨cb, ix, none⟩ (.int .i64 qx)) _ _) (by omega) (by have := HB.out; simp [World.setCell]; omega) ?_; intro v1 w1 hr1 ht1 ho1; have HS7 : Hid (OS x2 w1 tb cb v1 (D ++ [⟨max (1 + 4 * (D.length : Int) - qb) 1, 1 + 4 * (D.length : Int) + qe, 4, ix, qx, qc, V, false⟩])) := HS6.out.grown (ix := ix) (old := V) ((((Turned.refl [cb] y6).set (by simp) ix (.int .i64 qx)).alloc _).alloc _) (by rw [show ((⟨max (1 + 4 * (D.length : Int) - qb) 1, 1 + 4 * (D.length : Int) + qe, 4, ix, qx, qc, V, false⟩ : Dd)).next V = qx by simp [Dd.next]]; exact blk_old (blk_old (cObj_set _ hix qx HS6.out.cells) _) _) ht1 hr1 (HTm.out 4 _ _ (by decide) (by decide)) rfl HV.out (by show V = Dd.ans _ V; simp [Dd.ans]) (by show false = Dd.did _ V; simp [Dd.did]); clear hr1 ht1 ho1)
        go_roundw
        case rel => exact ⟨_, by simp; omega, by simp, HS7.out⟩
        case measure => simp [intOf]; omega
      · by_cases ge : V = qx
        · have g1 : (V == qx) = true := by simpa using ge
          have Ge : Hid (V = qx) := ge
          clear ge
          go_wp2_with (at_builtin; refine wpList_apDd (B := x2.heap.size) (v := u8) (R := D) (r := ⟨max (1 + 4 * (D.length : Int) - qb) 1, 1 + 4 * (D.length : Int) + qe, 5, ix, qx, qc, 0, true⟩) (g := y6.heap.size + 1) rfl _ _ rfl rfl (HS6.out.row.keep (F := [cb]) ((((Turned.refl [cb] y6).set (by simp) ix (.int .i64 qc)).alloc _).alloc _) (fun g hg => by obtain ⟨cs, hc⟩ := HS6.out.row.type hg; simpa using tyne hc HS6.out.cells (by decide))) rfl (blk_newS2 (size_set y6 ⟨cb, ix, none⟩ (.int .i64 qc)) _ _) (by omega) (by have := HB.out; simp [World.setCell]; omega) ?_; intro v1 w1 hr1 ht1 ho1; have HS7 : Hid (OS x2 w1 tb cb v1 (D ++ [⟨max (1 + 4 * (D.length : Int) - qb) 1, 1 + 4 * (D.length : Int) + qe, 5, ix, qx, qc, 0, true⟩])) := HS6.out.grown (ix := ix) (old := V) ((((Turned.refl [cb] y6).set (by simp) ix (.int .i64 qc)).alloc _).alloc _) (by rw [show ((⟨max (1 + 4 * (D.length : Int) - qb) 1, 1 + 4 * (D.length : Int) + qe, 5, ix, qx, qc, 0, true⟩ : Dd)).next V = qc by simp [Dd.next, Ge.out]]; exact blk_old (blk_old (cObj_set _ hix qc HS6.out.cells) _) _) ht1 hr1 (HTm.out 5 _ _ (by decide) (by decide)) rfl HV.out (by show 0 = Dd.ans _ V; simp [Dd.ans]) (by show true = Dd.did _ V; simp [Dd.did, Ge.out]); clear hr1 ht1 ho1)
          go_roundw
          case rel => exact ⟨_, by simp; omega, by simp, HS7.out⟩
          case measure => simp [intOf]; omega
        · have g1 : (V == qx) = false := by simpa using ge
          have Ge : Hid (V ≠ qx) := ge
          clear ge
          go_wp2_with (at_builtin; refine wpList_apDd (B := x2.heap.size) (v := u8) (R := D) (r := ⟨max (1 + 4 * (D.length : Int) - qb) 1, 1 + 4 * (D.length : Int) + qe, 5, ix, qx, qc, 0, false⟩) (g := y6.heap.size + 1) rfl _ _ rfl rfl (HS6.out.row.keep (F := [cb]) (((Turned.refl [cb] y6).alloc _).alloc _) (fun g hg => by obtain ⟨cs, hc⟩ := HS6.out.row.type hg; simpa using tyne hc HS6.out.cells (by decide))) rfl (blk_new2 y6 _ _) (by omega) (by have := HB.out; simp; omega) ?_; intro v1 w1 hr1 ht1 ho1; have HS7 : Hid (OS x2 w1 tb cb v1 (D ++ [⟨max (1 + 4 * (D.length : Int) - qb) 1, 1 + 4 * (D.length : Int) + qe, 5, ix, qx, qc, 0, false⟩])) := HS6.out.grown (ix := ix) (old := V) (((Turned.refl [cb] y6).alloc _).alloc _) (by rw [show ((⟨max (1 + 4 * (D.length : Int) - qb) 1, 1 + 4 * (D.length : Int) + qe, 5, ix, qx, qc, 0, false⟩ : Dd)).next V = V by simp [Dd.next, Ge.out], HV.out, updV_self]; exact blk_old (blk_old HS6.out.cells _) _) ht1 hr1 (HTm.out 5 _ _ (by decide) (by decide)) rfl HV.out (by show 0 = Dd.ans _ V; simp [Dd.ans]) (by show false = Dd.did _ V; simp [Dd.did, Ge.out]); clear hr1 ht1 ho1)
          go_roundw
          case rel => exact ⟨_, by simp; omega, by simp, HS7.out⟩
          case measure => simp [intOf]; omega
      · go_wp2_with (at_builtin; refine wpList_apDd (B := x2.heap.size) (v := u8) (R := D) (r := ⟨max (1 + 4 * (D.length : Int) - qb) 1, 1 + 4 * (D.length : Int) + qe, 6, ix, qx, qc, (max V qx), false⟩) (g := y6.heap.size + 1) rfl _ _ rfl rfl (HS6.out.row.keep (F := [cb]) ((((Turned.refl [cb] y6).set (by simp) ix (.int .i64 (max V qx))).alloc _).alloc _) (fun g hg => by obtain ⟨cs, hc⟩ := HS6.out.row.type hg; simpa using tyne hc HS6.out.cells (by decide))) rfl (blk_newS2 (size_set y6 ⟨cb, ix, none⟩ (.int .i64 (max V qx))) _ _) (by omega) (by have := HB.out; simp [World.setCell]; omega) ?_; intro v1 w1 hr1 ht1 ho1; have HS7 : Hid (OS x2 w1 tb cb v1 (D ++ [⟨max (1 + 4 * (D.length : Int) - qb) 1, 1 + 4 * (D.length : Int) + qe, 6, ix, qx, qc, (max V qx), false⟩])) := HS6.out.grown (ix := ix) (old := V) ((((Turned.refl [cb] y6).set (by simp) ix (.int .i64 (max V qx))).alloc _).alloc _) (by rw [show ((⟨max (1 + 4 * (D.length : Int) - qb) 1, 1 + 4 * (D.length : Int) + qe, 6, ix, qx, qc, (max V qx), false⟩ : Dd)).next V = (max V qx) by simp [Dd.next]]; exact blk_old (blk_old (cObj_set _ hix (max V qx) HS6.out.cells) _) _) ht1 hr1 (HTm.out 6 _ _ (by decide) (by decide)) rfl HV.out (by show (max V qx) = Dd.ans _ V; simp [Dd.ans]) (by show false = Dd.did _ V; simp [Dd.did]); clear hr1 ht1 ho1)
        go_roundw
        case rel => exact ⟨_, by simp; omega, by simp, HS7.out⟩
        case measure => simp [intOf]; omega
      · go_wp2_with (at_builtin; refine wpList_apDd (B := x2.heap.size) (v := u8) (R := D) (r := ⟨max (1 + 4 * (D.length : Int) - qb) 1, 1 + 4 * (D.length : Int) + qe, 7, ix, qx, qc, (min V qx), false⟩) (g := y6.heap.size + 1) rfl _ _ rfl rfl (HS6.out.row.keep (F := [cb]) ((((Turned.refl [cb] y6).set (by simp) ix (.int .i64 (min V qx))).alloc _).alloc _) (fun g hg => by obtain ⟨cs, hc⟩ := HS6.out.row.type hg; simpa using tyne hc HS6.out.cells (by decide))) rfl (blk_newS2 (size_set y6 ⟨cb, ix, none⟩ (.int .i64 (min V qx))) _ _) (by omega) (by have := HB.out; simp [World.setCell]; omega) ?_; intro v1 w1 hr1 ht1 ho1; have HS7 : Hid (OS x2 w1 tb cb v1 (D ++ [⟨max (1 + 4 * (D.length : Int) - qb) 1, 1 + 4 * (D.length : Int) + qe, 7, ix, qx, qc, (min V qx), false⟩])) := HS6.out.grown (ix := ix) (old := V) ((((Turned.refl [cb] y6).set (by simp) ix (.int .i64 (min V qx))).alloc _).alloc _) (by rw [show ((⟨max (1 + 4 * (D.length : Int) - qb) 1, 1 + 4 * (D.length : Int) + qe, 7, ix, qx, qc, (min V qx), false⟩ : Dd)).next V = (min V qx) by simp [Dd.next]]; exact blk_old (blk_old (cObj_set _ hix (min V qx) HS6.out.cells) _) _) ht1 hr1 (HTm.out 7 _ _ (by decide) (by decide)) rfl HV.out (by show (min V qx) = Dd.ans _ V; simp [Dd.ans]) (by show false = Dd.did _ V; simp [Dd.did]); clear hr1 ht1 ho1)
        go_roundw
        case rel => exact ⟨_, by simp; omega, by simp, HS7.out⟩
        case measure => simp [intOf]; omega
    · have e : D.length = n := by omega
      subst e
      have hDl : D.length ≤ 64 := hn
      obtain ⟨ad, lc, rfl, hDs, hbd⟩ := HS.out.row.view
      have HDs : Hid (DsAt wr ad D) := hDs
      have HBd : Hid (∀ b o, ad = some ⟨b, o, none⟩ → b < wr.heap.size) := hbd
      have HChk : Hid (chkD 3 D = 0) := chk_run hDl HS.out.times
      have HCan : Hid (Can D (bitsP 0) (v0F [0, 5, 1])) := can_run HS.out.times HS.out.runs
      have HU : Hid (Turned [] x2 wr) := HS.out.tu
      clear hDs hbd HS
      go_wp2_with (fail)
      refine (cOrder (F := [0, 5, 1]) (iv_block (blk_new wr _) 3) (HDs.out.still ((Turned.refl [] wr).alloc _)) (by omega) (HT.out.1.keep (HU.out.alloc _) (by simp)) (by simp) (fun b o e => by have := HBd.out b o e; simp; omega)).mono ?_
      intro r z hp
      obtain ⟨os, v, rfl, hgo, hir⟩ := hp.can HChk.out HCan.out
      have HGo : Hid _ := hgo
      have HIr : Hid (IV z v (ints os)) := hir.view
      have HF : Hid (IV z (.slice (some ⟨wr.heap.size, 0, none⟩) 3 3) [0, 5, 1]) := (iv_block (l := [0, 5, 1]) (blk_new wr _) 3).still hp.tu
      have HD2 : Hid (DsAt z ad D) := (HDs.out.still ((Turned.refl [] wr).alloc _)).still hp.tu
      have HU2 : Hid (Turned [] x2 z) := (HU.out.alloc _).trans hp.tu
      have hol : (ints os).length ≤ 1000000 := by
        have h1 := goes_len hgo
        have h2 := outN_le D.length (bitsP 0)
        rw [List.length_map]
        omega
      obtain ⟨oa, oc, rfl⟩ := hir.form
      have HIr2 : Hid (IV z (.slice oa os.length oc) (ints os)) := by
        have h := HIr.out
        rw [show (ints os).length = os.length from List.length_map ..] at h
        exact h
      clear hgo hir hp HBd HDs HIr
      go_wp2_with (fail)
      refine (cFit (F := [0, 5, 1]) HF.out HD2.out HIr2.out (by simp) (by simp) (by omega) hol (chk_ok HChk.out).2.2.2).mono ?_
      rintro r z2 ⟨rfl, t2⟩
      rw [goes_fitGo HGo.out]
      have HU3 : Hid (Turned [] x2 z2) := HU2.out.trans t2
      clear t2
      go_wp2_with (fail)
      refine (cKnown (HT.out.1.keep HU3.out (by simp))).mono ?_
      rintro r z3 ⟨rfl, t3⟩
      have HU4 : Hid (Turned [] x2 z3) := HU3.out.trans t3
      clear t3
      go_wp2
      go_ret
      exact ⟨rfl, HU4.out⟩
end Go.Proofs.YteflnccjhnmkpaaDoor

/- The document's words and its thread alone: Load, Store, Cas, Line, Fresh, Kept, Get, Put. -/
import Derived.Test.YtaalohcldoakoaaGreatDoorJ16
namespace Go.Proofs.YtaalohcldoakoaaGreatDoor
open Go.RowKit
/-- The document's words. -/
structure MemAt (w : World) (mb g N : Nat) (ws : Nat → Int) : Prop where
  ex : ∃ (cap : Nat) (cs : Array Value), w.heap[mb]? = some (.cells #[.slice (some ⟨g, 0, none⟩) N cap] 128 (0, 0)) ∧ w.heap[g]? = some (.cells cs 3 (0, 0)) ∧ N ≤ cs.size ∧ ∀ j, j < N → cs[j]? = some (.int .i64 (ws j))
def updI (f : Nat → Int) (i : Nat) (v : Int) : Nat → Int := fun j => if j = i then v else f j
section
variable {tb mb g c N : Nat} {w w' w2 : World} {ws : Nat → Int} {l T T' : List Nat}
theorem Th.m0 (h : Th T w tb mb c) : w.cell? ⟨tb, 0, none⟩ = some (.pointer (some ⟨mb, 0, none⟩)) := by
  obtain ⟨own, left, k, lv, n, xs, hb, -⟩ := h.ex
  have := cell_at hb 0
  simpa using this
theorem Th.m2 (h : Th T w tb mb c) : w.cell? ⟨tb, 2, none⟩ = some (.bool false) := by
  obtain ⟨own, left, k, lv, n, xs, hb, -⟩ := h.ex
  have := cell_at hb 2
  simpa using this
theorem Th.turned (h : Th T w tb mb c) (ht : Turned l w w') (hl : ∀ x, x ∈ l → x ∉ T) : Th T w' tb mb c := by
  obtain ⟨own, left, k, lv, n, xs, hb, hw, h1, h2, h3, h4, h5, rfl⟩ := h.ex
  exact ⟨own, left, k, lv, n, xs, ht.heap hb (fun hm => hl tb hm (by simp)), Row.keep hw ht (fun g hg e => hl g e (by simp [hg])), h1, h2, h3, h4, h5, rfl⟩
theorem Th.set {r o : Nat} {v : Value} (h : Th T w tb mb c) (hr : r ∉ T) : Did [r] T w tb mb c T (w.setCell ⟨r, o, none⟩ v) := by
  have ht : Turned [r] w (w.setCell ⟨r, o, none⟩ v) := (Turned.refl [r] w).set (.inl (by simp)) _ _
  exact ⟨h.turned ht (by simpa using hr), fun x hx => .inl hx, ht.mono (by simp)⟩
theorem Th.drew (h : Th T w tb mb c) : Th T w.drew tb mb c := h.turned (Turned.refl [] w).drew (by simp)
theorem Th.lt (h : Th T w tb mb c) : ∀ x, x ∈ T → x < w.heap.size := fun x hx => by
  obtain ⟨own, left, k, lv, n, xs, hb, hr, h1, h2, h3, h4, h5, rfl⟩ := h.ex
  rcases List.mem_cons.1 hx with e | e
  · subst e
    exact lt_of_heap hb
  · obtain ⟨cur, hc⟩ := Row.obj hr (by simpa using e)
    exact lt_of_heap hc
theorem Th.start (hb : w.heap[tb]? = some (.cells #[.pointer (some ⟨mb, 0, none⟩), .int .i64 0, .bool false, .int .i64 0, .slice none 0 0, .int .i64 0, .int .i64 4611686018427387904] 134 (0, 0))) : Th [tb] w tb mb 0 :=
  ⟨0, 4611686018427387904, 0, .slice none 0 0, 0, [], hb, World.ownsRow_nil _ _ _ _, by omega, by omega, by omega, by omega, by omega, rfl⟩
theorem MemAt.same (h : MemAt w mb g N ws) (h1 : w'.heap[mb]? = w.heap[mb]?) (h2 : w'.heap[g]? = w.heap[g]?) : MemAt w' mb g N ws := by
  obtain ⟨cap, cs, e1, e2, e3⟩ := h.ex
  exact ⟨cap, cs, h1.trans e1, h2.trans e2, e3⟩
theorem MemAt.ltm (h : MemAt w mb g N ws) : mb < w.heap.size := by
  obtain ⟨cap, cs, e1, e2, e3⟩ := h.ex
  exact lt_of_heap e1
theorem MemAt.ltg (h : MemAt w mb g N ws) : g < w.heap.size := by
  obtain ⟨cap, cs, e1, e2, e3⟩ := h.ex
  exact lt_of_heap e2
theorem MemAt.mT (h : MemAt w mb g N ws) (hT : Th T w tb mb c) : mb ∉ T := by
  obtain ⟨cap, cs, e1, e2, e3⟩ := h.ex
  exact hT.ty e1 (by decide) (by decide)
/-- Lines that turned no word. -/
theorem MemAt.did {c' : Nat} (h : MemAt w mb g N ws) (hT : Th T w tb mb c) (hg : g ∉ T) (hd : Did [] T w tb mb c' T' w') : MemAt w' mb g N ws ∧ g ∉ T' :=
  ⟨h.same (hd.turned.block _ h.ltm (by simpa using h.mT hT)) (hd.turned.block _ h.ltg (by simpa using hg)), hd.wide.out h.ltg hg⟩
theorem MemAt.cell0 (h : MemAt w mb g N ws) : ∃ cap, w.cell? ⟨mb, 0, none⟩ = some (.slice (some ⟨g, 0, none⟩) N cap) := by
  obtain ⟨cap, cs, e1, -⟩ := h.ex
  have := cell_at e1 0
  exact ⟨cap, by simpa using this⟩
theorem MemAt.cell (h : MemAt w mb g N ws) {j : Nat} (hj : j < N) : w.cell? ⟨g, j, none⟩ = some (.int .i64 (ws j)) := by
  obtain ⟨cap, cs, -, e2, -, e4⟩ := h.ex
  rw [cell_at e2 j]
  exact e4 j hj
theorem MemAt.froz (h : MemAt w mb g N ws) (j : Nat) : w.frozen? ⟨g, j, none⟩ = false := by
  obtain ⟨cap, cs, -, e2, -⟩ := h.ex
  exact froz_at e2 j
theorem MemAt.put (h : MemAt w mb g N ws) {j : Nat} (hj : j < N) (v : Int) : MemAt (w.setCell ⟨g, j, none⟩ (.int .i64 v)) mb g N (updI ws j v) := by
  obtain ⟨cap, cs, e1, e2, e3, e4⟩ := h.ex
  have hne : mb ≠ g := fun e => by
    subst e
    rw [e1] at e2
    simp at e2
  have ht : Turned [g] w (w.setCell ⟨g, j, none⟩ (.int .i64 v)) := (Turned.refl [g] w).set (.inl (by simp)) _ _
  refine ⟨cap, _, ht.heap e1 (by simpa using hne), blk_set e2 j _, by simpa using e3, fun i hi => ?_⟩
  unfold updI
  rw [Array.getElem?_setIfInBounds]
  by_cases e : j = i
  · subst e
    rw [if_pos rfl, if_pos (by omega), if_pos rfl]
  · rw [if_neg e, if_neg (fun x => e x.symm)]
    exact e4 i hi
set_option maxRecDepth 100000 in
theorem cRLoad {a : Nat} (hT : Th T w tb mb c) (hM : MemAt w mb g N ws) (hc : c ≤ 900000) (hg : g ∉ T) (ha : a < N) :
    Calls Tryz.prog 117 #[.pointer (some ⟨tb, 0, none⟩), .int .i64 (a : Nat)] w fun e w' => e = .returned (.int .i64 (ws a)) ∧ ∃ T', Did [] T w tb mb (c + 2) T' w' := by
  have HT : Hid _ := hT
  have HM : Hid _ := hM
  clear hT hM
  have hlt : (a : Int) < (N : Int) := by omega
  go_enter Tryz.func117, Tryz.ntmps117
  go_wp2_with (first
    | (go_at_call 121; refine (cGoes HT.out (by omega)).mono ?_; rintro e w1 ⟨rfl, d1⟩; have t1 := d1.th; obtain ⟨m1, hg1⟩ := HM.out.did HT.out hg d1; have c0 := t1.m0; obtain ⟨cap, cm⟩ := m1.cell0; have ca := m1.cell ha; have z := m1.froz; have HT1 : Hid _ := t1; have HD1 : Hid _ := d1; have HM1 : Hid _ := m1; have HG1 : Hid _ := hg1; clear t1 d1 m1 hg1)
    | (go_at_call 120; refine (cRTold HT1.out (by omega)).mono ?_; rintro e w2 ⟨rfl, T2, d2⟩; have HD2 : Hid _ := d2; clear d2))
  go_ret
  exact ⟨rfl, _, HD1.out.trans HD2.out⟩
set_option maxRecDepth 100000 in
theorem cRStore {a : Nat} {v : Int} (hT : Th T w tb mb c) (hM : MemAt w mb g N ws) (hc : c ≤ 900000) (hg : g ∉ T) (ha : a < N) :
    Calls Tryz.prog 123 #[.pointer (some ⟨tb, 0, none⟩), .int .i64 (a : Nat), .int .i64 v] w fun e w' => e = .returned (.tuple #[]) ∧ MemAt w' mb g N (updI ws a v) ∧ ∃ T', Did [g] T w tb mb (c + 2) T' w' := by
  have HT : Hid _ := hT
  have HM : Hid _ := hM
  clear hT hM
  have hlt : (a : Int) < (N : Int) := by omega
  go_enter Tryz.func123, Tryz.ntmps123
  go_wp2_with (first
    | (go_at_call 121; refine (cGoes HT.out (by omega)).mono ?_; rintro e w1 ⟨rfl, d1⟩; have t1 := d1.th; obtain ⟨m1, hg1⟩ := HM.out.did HT.out hg d1; have c0 := t1.m0; obtain ⟨cap, cm⟩ := m1.cell0; have ca := m1.cell ha; have z := m1.froz; have HT1 : Hid _ := t1; have HD1 : Hid _ := d1; have HM1 : Hid _ := m1; have HG1 : Hid _ := hg1; clear t1 d1 m1 hg1)
    | (go_at_call 120; refine (cRTold (HT1.out.set (o := a) (v := .int .i64 v) HG1.out).th (by omega)).mono ?_; rintro e w2 ⟨rfl, T2, d2⟩; have HD2 : Hid _ := d2; clear d2))
  refine bodyPost_end (results_none rfl _ _ _) rfl ⟨rfl, ((HM1.out.put ha v).did (HT1.out.set (o := a) (v := .int .i64 v) HG1.out).th HG1.out HD2.out).1, _, (HD1.out.mono (by simp)).trans ((HT1.out.set HG1.out).trans (HD2.out.mono (by simp)))⟩
set_option maxRecDepth 100000 in
theorem cRCas {a : Nat} {old v : Int} (ho : ws a = old) (hT : Th T w tb mb c) (hM : MemAt w mb g N ws) (hc : c ≤ 900000) (hg : g ∉ T) (ha : a < N) :
    Calls Tryz.prog 80 #[.pointer (some ⟨tb, 0, none⟩), .int .i64 (a : Nat), .int .i64 old, .int .i64 v] w fun e w' => e = .returned (.bool true) ∧ MemAt w' mb g N (updI ws a v) ∧ ∃ T', Did [g] T w tb mb (c + 2) T' w' := by
  have HT : Hid _ := hT
  have HM : Hid _ := hM
  clear hT hM
  have hlt : (a : Int) < (N : Int) := by omega
  have dn : (ws a != old) = false := by simp [ho]
  clear ho
  go_enter Tryz.func80, Tryz.ntmps80
  go_wp2_with (first
    | (go_at_call 121; refine (cGoes HT.out (by omega)).mono ?_; rintro e w1 ⟨rfl, d1⟩; have t1 := d1.th; obtain ⟨m1, hg1⟩ := HM.out.did HT.out hg d1; have c0 := t1.m0; obtain ⟨cap, cm⟩ := m1.cell0; have ca := m1.cell ha; have z := m1.froz; have HT1 : Hid _ := t1; have HD1 : Hid _ := d1; have HM1 : Hid _ := m1; have HG1 : Hid _ := hg1; clear t1 d1 m1 hg1)
    | (go_at_call 120; refine (cRTold (HT1.out.set (o := a) (v := .int .i64 v) HG1.out).th (by omega)).mono ?_; rintro e w2 ⟨rfl, T2, d2⟩; have HD2 : Hid _ := d2; clear d2))
  go_ret
  exact ⟨rfl, ((HM1.out.put ha v).did (HT1.out.set (o := a) (v := .int .i64 v) HG1.out).th HG1.out HD2.out).1, _, (HD1.out.mono (by simp)).trans ((HT1.out.set HG1.out).trans (HD2.out.mono (by simp)))⟩
set_option maxRecDepth 100000 in
theorem cRCasNot {a : Nat} {old v : Int} (ho : ws a ≠ old) (hT : Th T w tb mb c) (hM : MemAt w mb g N ws) (hc : c ≤ 900000) (hg : g ∉ T) (ha : a < N) :
    Calls Tryz.prog 80 #[.pointer (some ⟨tb, 0, none⟩), .int .i64 (a : Nat), .int .i64 old, .int .i64 v] w fun e w' => e = .returned (.bool false) ∧ ∃ T', Did [] T w tb mb (c + 2) T' w' := by
  have HT : Hid _ := hT
  have HM : Hid _ := hM
  clear hT hM
  have hlt : (a : Int) < (N : Int) := by omega
  have dn : (ws a != old) = true := by simp [ho]
  clear ho
  go_enter Tryz.func80, Tryz.ntmps80
  go_wp2_with (first
    | (go_at_call 121; refine (cGoes HT.out (by omega)).mono ?_; rintro e w1 ⟨rfl, d1⟩; have t1 := d1.th; obtain ⟨m1, hg1⟩ := HM.out.did HT.out hg d1; have c0 := t1.m0; obtain ⟨cap, cm⟩ := m1.cell0; have ca := m1.cell ha; have z := m1.froz; have HT1 : Hid _ := t1; have HD1 : Hid _ := d1; have HM1 : Hid _ := m1; have HG1 : Hid _ := hg1; clear t1 d1 m1 hg1)
    | (go_at_call 120; refine (cRTold HT1.out (by omega)).mono ?_; rintro e w2 ⟨rfl, T2, d2⟩; have HD2 : Hid _ := d2; clear d2))
  go_ret
  exact ⟨rfl, _, HD1.out.trans HD2.out⟩
set_option maxRecDepth 100000 in
theorem cRLine (hT : Th T w tb mb c) (hc : c ≤ 900000) : Calls Tryz.prog 77 #[.pointer (some ⟨tb, 0, none⟩)] w fun e w' => e = .returned (.tuple #[]) ∧ ∃ T', Did [] T w tb mb (c + 2) T' w' := by
  have HT : Hid _ := hT
  clear hT
  go_enter Tryz.func77, Tryz.ntmps77
  go_wp2_with (first
    | (go_at_call 121; refine (cGoes HT.out (by omega)).mono ?_; rintro e w1 ⟨rfl, d1⟩; have HT1 : Hid _ := d1.th; have HD1 : Hid _ := d1; clear d1)
    | (go_at_call 120; refine (cRTold HT1.out (by omega)).mono ?_; rintro e w2 ⟨rfl, T2, d2⟩; have HD2 : Hid _ := d2; clear d2))
  refine bodyPost_end (results_none rfl _ _ _) rfl ⟨rfl, _, HD1.out.trans HD2.out⟩
set_option maxRecDepth 100000 in
theorem cRFresh (hT : Th T w tb mb c) (hc : c ≤ 900000) : Calls Tryz.prog 71 #[.pointer (some ⟨tb, 0, none⟩)] w fun e w' => e = .returned (.bool true) ∧ ∃ T', Did [] T w tb mb (c + 1) T' w' := by
  obtain ⟨own, left, k, lv, n, xs, hb, hr, -⟩ := hT.ex
  obtain ⟨la, lc, rfl⟩ := Row.shape hr
  have c2 := cell_at hb 2
  have c4 := cell_at hb 4
  have c5 := cell_at hb 5
  simp at c2 c4 c5
  clear hb hr
  have HT1 : Hid (Th T w.drew tb mb c) := hT.drew
  clear hT
  go_enter Tryz.func71, Tryz.ntmps71
  go_wp2
  go_region
  go_wp2_with ((go_at_call 120; refine (cRTold HT1.out (by omega)).mono ?_; rintro e w2 ⟨rfl, T2, d2⟩; have HD2 : Hid _ := d2; clear d2))
  go_ret
  exact ⟨rfl, _, HD2.out.th, HD2.out.wide, (Turned.refl T w).drew.trans HD2.out.turned⟩
set_option maxRecDepth 100000 in
theorem cRKept {v : Int} (hT : Th T w tb mb c) (hc : c ≤ 900000) : Calls Tryz.prog 75 #[.pointer (some ⟨tb, 0, none⟩), .int .i64 v] w fun e w' => e = .returned (.int .i64 v) ∧ ∃ T', Did [] T w tb mb (c + 1) T' w' := by
  obtain ⟨own, left, k, lv, n, xs, hb, hr, -⟩ := hT.ex
  obtain ⟨la, lc, rfl⟩ := Row.shape hr
  have c2 := cell_at hb 2
  have c4 := cell_at hb 4
  have c5 := cell_at hb 5
  simp at c2 c4 c5
  clear hb hr
  have HT1 : Hid (Th T w.drew tb mb c) := hT.drew
  clear hT
  go_enter Tryz.func75, Tryz.ntmps75
  go_wp2
  go_region
  go_wp2_with ((go_at_call 120; refine (cRTold HT1.out (by omega)).mono ?_; rintro e w2 ⟨rfl, T2, d2⟩; have HD2 : Hid _ := d2; clear d2))
  go_ret
  exact ⟨rfl, _, HD2.out.th, HD2.out.wide, (Turned.refl T w).drew.trans HD2.out.turned⟩
theorem cRGet {a : Nat} (hM : MemAt w mb g N ws) (ha : a < N) : Calls Tryz.prog 73 #[.pointer (some ⟨mb, 0, none⟩), .int .i64 (a : Nat)] w fun e w' => e = .returned (.int .i64 (ws a)) ∧ w' = w := by
  obtain ⟨cap, cm⟩ := hM.cell0
  have ca := hM.cell ha
  clear hM
  have hlt : (a : Int) < (N : Int) := by omega
  go_enter Tryz.func73, Tryz.ntmps73
  go_wp2
  go_ret
  exact ⟨rfl, rfl⟩
theorem cRPut {a : Nat} {v : Int} (hM : MemAt w mb g N ws) (ha : a < N) : Calls Tryz.prog 72 #[.pointer (some ⟨mb, 0, none⟩), .int .i64 (a : Nat), .int .i64 v] w fun e w' => e = .returned (.tuple #[]) ∧ w' = w.setCell ⟨g, a, none⟩ (.int .i64 v) ∧ MemAt w' mb g N (updI ws a v) := by
  obtain ⟨cap, cm⟩ := hM.cell0
  have ca := hM.cell ha
  have z := hM.froz
  have HM : Hid _ := hM.put ha v
  clear hM
  have hlt : (a : Int) < (N : Int) := by omega
  go_enter Tryz.func72, Tryz.ntmps72
  go_wp2
  refine bodyPost_end (results_none rfl _ _ _) rfl ⟨rfl, rfl, HM.out⟩
end
end Go.Proofs.YtaalohcldoakoaaGreatDoor

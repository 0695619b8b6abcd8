/-
  Blames in their order: what is compared, by contract. (By the verifier; no statement.)
-/
import Derived.Test.YtbielnehggcaoaaDoorL18
import Derived.Test.YtbielnehggcaoaaDoorL19
import Derived.Test.YtbielnehggcaoaaDoorL07
import Derived.Test.YtbielnehggcaoaaDoorL06
namespace Go.Proofs.YtbielnehggcaoaaDoor
open Go.RowKit
def cmpI (a b : Int) : Int := if a < b then -1 else if b < a then 1 else 0
def orI (a b c : Int) : Int := if a ≠ 0 then a else if b ≠ 0 then b else c
def cmpBm (x y : Bm) : Int := orI (cmpI x.1 y.1) (cmpI x.2.1 y.2.1) (cmpI x.2.2 y.2.2)
set_option maxHeartbeats 400000 in
theorem cNaN (a : Int) (w : World) : Calls Tryd.prog 104 #[.int .i64 a] w fun r w' => r = .returned (.bool false) ∧ w' = w := by
  go_enter Tryd.func104, Tryd.ntmps104
  go_wp2
  go_ret
  exact ⟨by simp, rfl⟩
set_option maxHeartbeats 800000 in
theorem cCmpI (a b : Int) (w : World) : Calls Tryd.prog 89 #[.int .i64 a, .int .i64 b] w fun r w' => r = .returned (.int .i64 (cmpI a b)) ∧ w' = w := by
  have P := fun a w => cNaN a w
  rcases (by omega : a < b ∨ (¬ a < b ∧ b < a) ∨ (¬ a < b ∧ ¬ b < a)) with h | ⟨h, h2⟩ | ⟨h, h2⟩
  · have d1 : decide (a < b) = true := decide_eq_true h
    rw [show cmpI a b = -1 by unfold cmpI; rw [if_pos h]]
    go_enter Tryd.func89, Tryd.ntmps89
    go_wp2_with (go_at_call 104; refine (P _ _).mono ?_; rintro r x1 ⟨rfl, rfl⟩)
    go_ret
    exact ⟨rfl, rfl⟩
  · have d1 : decide (a < b) = false := decide_eq_false h
    have d2 : decide (b < a) = true := decide_eq_true h2
    rw [show cmpI a b = 1 by unfold cmpI; rw [if_neg h, if_pos h2]]
    go_enter Tryd.func89, Tryd.ntmps89
    go_wp2_with (go_at_call 104; refine (P _ _).mono ?_; rintro r x1 ⟨rfl, rfl⟩)
    go_ret
    exact ⟨rfl, rfl⟩
  · have d1 : decide (a < b) = false := decide_eq_false h
    have d2 : decide (b < a) = false := decide_eq_false h2
    rw [show cmpI a b = 0 by unfold cmpI; rw [if_neg h, if_neg h2]]
    go_enter Tryd.func89, Tryd.ntmps89
    go_wp2_with (go_at_call 104; refine (P _ _).mono ?_; rintro r x1 ⟨rfl, rfl⟩)
    go_ret
    exact ⟨rfl, rfl⟩
set_option maxHeartbeats 1600000 in
theorem cOr {w : World} {g : Nat} {a b c : Int} {T : TypeId} (h : w.heap[g]? = some (.cells #[.int .i64 a, .int .i64 b, .int .i64 c] T (0, 0))) : Calls Tryd.prog 88 #[.slice (some ⟨g, 0, none⟩) 3 3] w fun r w' => r = .returned (.int .i64 (orI a b c)) ∧ w' = w := by
  have h0 : w.cell? ⟨g, 0, none⟩ = some (.int .i64 a) := by rw [cell_at h]; rfl
  have h1 : w.cell? ⟨g, 1, none⟩ = some (.int .i64 b) := by rw [cell_at h]; rfl
  have h2 : w.cell? ⟨g, 2, none⟩ = some (.int .i64 c) := by rw [cell_at h]; rfl
  have hl := lt_of_heap h
  clear h
  have HO : Hid (∀ a b c, orI a b c = if a ≠ 0 then a else if b ≠ 0 then b else c) := fun _ _ _ => rfl
  generalize hor : orI a b c = r0
  have HR : Hid (orI a b c = r0) := hor
  clear hor
  go_enter Tryd.func88, Tryd.ntmps88
  go_wp2
  go_loopw [8, 5] (fun i _ wx => ∃ k : Nat, k ≤ 3 ∧ i = .int .i64 k ∧ Hid ((1 ≤ k → a = 0) ∧ (2 ≤ k → b = 0) ∧ (3 ≤ k → c = 0)) ∧ SameW w wx) (fun i _ _ => 3 - (intOf i).toNat)
  case atStart => exact ⟨0, by omega, rfl, ⟨fun h => by omega, fun h => by omega, fun h => by omega⟩, rfl⟩
  case round =>
    obtain ⟨k, hk, rfl, HA, HW⟩ := hrel
    have ew : w = wr := HW
    subst ew
    rcases (by omega : k = 0 ∨ k = 1 ∨ k = 2 ∨ k = 3) with rfl | rfl | rfl | rfl
    · by_cases g1 : a = 0
      · have d1 : (a != 0) = false := by simpa using g1
        go_wp2
        go_roundw
        case rel => exact ⟨1, by omega, by go_num, ⟨fun _ => g1, fun h => by omega, fun h => by omega⟩, rfl⟩
        case measure => simp [intOf]
      · have d1 : (a != 0) = true := by simpa using g1
        go_wp2
        go_ret
        refine ⟨?_, rfl⟩
        rw [← HR.out, HO.out, if_pos g1]
        rfl
    · have ha := HA.out.1 (by omega)
      have Ha : Hid (a = 0) := ha
      clear ha
      by_cases g1 : b = 0
      · have d1 : (b != 0) = false := by simpa using g1
        go_wp2
        go_roundw
        case rel => exact ⟨2, by omega, by go_num, ⟨fun _ => Ha.out, fun _ => g1, fun h => by omega⟩, rfl⟩
        case measure => simp [intOf]
      · have d1 : (b != 0) = true := by simpa using g1
        go_wp2
        go_ret
        refine ⟨?_, rfl⟩
        rw [← HR.out, HO.out, if_neg (fun h => h Ha.out), if_pos g1]
        rfl
    · have Ha : Hid (a = 0) := HA.out.1 (by omega)
      have Hb : Hid (b = 0) := HA.out.2.1 (by omega)
      by_cases g1 : c = 0
      · have d1 : (c != 0) = false := by simpa using g1
        go_wp2
        go_roundw
        case rel => exact ⟨3, by omega, by go_num, ⟨fun _ => Ha.out, fun _ => Hb.out, fun _ => g1⟩, rfl⟩
        case measure => simp [intOf]
      · have d1 : (c != 0) = true := by simpa using g1
        go_wp2
        go_ret
        refine ⟨?_, rfl⟩
        rw [← HR.out, HO.out, if_neg (fun h => h Ha.out), if_neg (fun h => h Hb.out)]
        rfl
    · have Ha : Hid (a = 0) := HA.out.1 (by omega)
      have Hb : Hid (b = 0) := HA.out.2.1 (by omega)
      have Hc : Hid (c = 0) := HA.out.2.2 (by omega)
      go_wp2
      go_ret
      refine ⟨?_, rfl⟩
      rw [← HR.out, HO.out, if_neg (fun h => h Ha.out), if_neg (fun h => h Hb.out), Hc.out]
      rfl
end Go.Proofs.YtbielnehggcaoaaDoor
/- A frame, spelled out. -/
namespace Go.Proofs.YtbielnehggcaoaaDoor
open Go.RowKit
def lit22 (c : Nat → Value) : Array Value := #[c 0, c 1, c 2, c 3, c 4, c 5, c 6, c 7, c 8, c 9, c 10, c 11, c 12, c 13, c 14, c 15, c 16, c 17, c 18, c 19, c 20, c 21]
set_option maxRecDepth 100000 in
theorem lit22_eq (c : Nat → Value) : lit22 c = ((List.range 22).map c).toArray := by rfl
theorem expand22 {a : Act} (hs : a.tmps.size = 22) (hd : a.defers = []) : ∃ c : Nat → Value, a = ⟨lit22 c, []⟩ ∧ ∀ s, c s = a.eval (.tmp s) := by
  refine ⟨fun s => a.tmps.getD s undef, ?_, fun s => rfl⟩
  obtain ⟨t, d⟩ := a
  simp only at hs hd
  subst hd
  congr 1
  rw [lit22_eq]
  refine Array.ext (by simp [hs]) fun i h1 h2 => ?_
  simp [Array.getD, h1]
theorem expand22d {a : Act} {ds : List Deferred} (hs : a.tmps.size = 22) (hd : a.defers = ds) : ∃ c : Nat → Value, a = ⟨lit22 c, ds⟩ ∧ ∀ s, c s = a.eval (.tmp s) := by
  refine ⟨fun s => a.tmps.getD s undef, ?_, fun s => rfl⟩
  obtain ⟨t, d⟩ := a
  simp only at hs hd
  subst hd
  congr 1
  rw [lit22_eq]
  refine Array.ext (by simp [hs]) fun i h1 h2 => ?_
  simp [Array.getD, h1]
end Go.Proofs.YtbielnehggcaoaaDoor
/-
  Blames in their order: byPlaces by contract. (By the verifier; no statement.)
-/
namespace Go.Proofs.YtbielnehggcaoaaDoor
open Go.RowKit
set_option maxRecDepth 100000 in
set_option maxHeartbeats 3200000 in
theorem by_r1 {w : World} {gx gy : Nat} {x1 x2 x3 y1 y2 y3 a b c r : Int} {a0 : Act} {K : Act → World → Prop} {Q : Exit → Act → World → Prop} (hs : a0.tmps.size = 22) (p2 : a0.eval (.tmp 2) = pa gx 0) (p3 : a0.eval (.tmp 3) = pa gy 0) (hx : w.heap[gx]? = some (.cells #[.int .i64 x1, .int .i64 x2, .int .i64 x3] 55 (0, 0))) (hy : w.heap[gy]? = some (.cells #[.int .i64 y1, .int .i64 y2, .int .i64 y3] 55 (0, 0)))
    (P1 : ∀ z, Calls Tryd.prog 89 #[.int .i64 x1, .int .i64 y1] z fun e w' => e = .returned (.int .i64 a) ∧ w' = z) (P2 : ∀ z, Calls Tryd.prog 89 #[.int .i64 x2, .int .i64 y2] z fun e w' => e = .returned (.int .i64 b) ∧ w' = z) (P3 : ∀ z, Calls Tryd.prog 89 #[.int .i64 x3, .int .i64 y3] z fun e w' => e = .returned (.int .i64 c) ∧ w' = z)
    (PO : ∀ z g, z.heap[g]? = some (.cells #[.int .i64 a, .int .i64 b, .int .i64 c] 3 (0, 0)) → Calls Tryd.prog 88 #[.slice (some ⟨g, 0, none⟩) 3 3] z fun e w' => e = .returned (.int .i64 r) ∧ w' = z)
    (hEnd : ∀ a', a'.tmps.size = a0.tmps.size → a'.defers = a0.defers → a'.eval (.tmp 4) = .int .i64 r → K a' (w.drew.alloc (.cells #[.int .i64 a, .int .i64 b, .int .i64 c] 3 (0, 0)))) : (Code.region 1 (opsOf 1 Tryd.f67.body) true).wp Tryd.prog (Exit.then K Q) a0 w := by
  have hx0 : w.drew.cell? ⟨gx, 0, none⟩ = some (.int .i64 x1) := by show w.cell? _ = _; rw [cell_at hx]; rfl
  have hx1 : w.drew.cell? ⟨gx, 1, none⟩ = some (.int .i64 x2) := by show w.cell? _ = _; rw [cell_at hx]; rfl
  have hx2 : w.drew.cell? ⟨gx, 2, none⟩ = some (.int .i64 x3) := by show w.cell? _ = _; rw [cell_at hx]; rfl
  have hy0 : w.drew.cell? ⟨gy, 0, none⟩ = some (.int .i64 y1) := by show w.cell? _ = _; rw [cell_at hy]; rfl
  have hy1 : w.drew.cell? ⟨gy, 1, none⟩ = some (.int .i64 y2) := by show w.cell? _ = _; rw [cell_at hy]; rfl
  have hy2 : w.drew.cell? ⟨gy, 2, none⟩ = some (.int .i64 y3) := by show w.cell? _ = _; rw [cell_at hy]; rfl
  have gxl : gx < w.drew.heap.size := lt_of_heap hx
  have gyl : gy < w.drew.heap.size := lt_of_heap hy
  refine wp_region_two (w1 := w.drew.alloc (.cells #[.int .i64 a, .int .i64 b, .int .i64 c] 3 (0, 0))) (w2 := w.drew.alloc (.cells #[.int .i64 a, .int .i64 b, .int .i64 c] 3 (0, 0))) (by kernel_rfl) [some 5, some 6, some 7, some 8, some 9, some 10, some 11, some 12, some 13, some 14, some 15, some 16, some 17, some 18, some 19, some 20, some 21, some 4] (fun k => match k with | 0 => pa gx 0 | 1 => (Value.int .i64 x1) | 2 => pa gy 0 | 3 => (Value.int .i64 y1) | 4 => (Value.int .i64 a) | 5 => pa gx 1 | 6 => (Value.int .i64 x2) | 7 => pa gy 1 | 8 => (Value.int .i64 y2) | 9 => (Value.int .i64 b) | 10 => pa gx 2 | 11 => (Value.int .i64 x3) | 12 => pa gy 2 | 13 => (Value.int .i64 y3) | 14 => (Value.int .i64 c) | 15 => (Value.slice (some ⟨w.heap.size, 0, none⟩) 3 3) | 16 => (Value.int .i64 r) | _ => (Value.int .i64 r)) (by rw [hs]; kernel_rfl) 15 16 (by decide) (by decide) (by decide) (by decide +kernel) ?_ ?_ ?_
  · intro k g b' h
    exact (no_guard (by kernel_rfl) h).elim
  · intro k hk o ac wa wb K ho hd _ hoff hv hL hK
    rcases (by simp at hk; omega : k = 0 ∨ k = 1 ∨ k = 2 ∨ k = 3 ∨ k = 4 ∨ k = 5 ∨ k = 6 ∨ k = 7 ∨ k = 8 ∨ k = 9 ∨ k = 10 ∨ k = 11 ∨ k = 12 ∨ k = 13 ∨ k = 14 ∨ k = 15 ∨ k = 16 ∨ k = 17) with rfl | rfl | rfl | rfl | rfl | rfl | rfl | rfl | rfl | rfl | rfl | rfl | rfl | rfl | rfl | rfl | rfl | rfl
    case inl =>
      obtain ⟨rfl, rfl⟩ : wa = w.drew ∧ wb = w.drew := by
        rcases hL with ⟨h1, -⟩ | ⟨h1, -⟩ | ⟨-, -, h2, h3 | ⟨h4, -⟩ | ⟨h4, -⟩⟩
        · exact absurd h1 (by decide)
        · exact absurd h1 (by decide)
        · exact ⟨h3, h2.trans h3⟩
        · exact absurd h4 (by decide +kernel)
        · exact absurd h4 (by decide +kernel)
      exact l_val hd (x_field (op_is rfl ho) (by rw [(hoff 2 (by decide)).trans p2]; show (Instr.fieldAt _ (pa _ _) _).run _ _ = .ok (pa _ _) _; unfold pa; go_simp)) hK
    case inr.inl =>
      obtain ⟨rfl, rfl⟩ : wa = w.drew ∧ wb = w.drew := by
        rcases hL with ⟨h1, -⟩ | ⟨h1, -⟩ | ⟨-, -, h2, h3 | ⟨h4, -⟩ | ⟨h4, -⟩⟩
        · exact absurd h1 (by decide)
        · exact absurd h1 (by decide)
        · exact ⟨h3, h2.trans h3⟩
        · exact absurd h4 (by decide +kernel)
        · exact absurd h4 (by decide +kernel)
      exact l_val hd (x_load (op_is rfl ho) (by rw [hv 0 5 rfl (by kernel_rfl)]; show (Instr.loadAt _ (pa _ _)).run _ _ = _; unfold pa; go_simp)) hK
    case inr.inr.inl =>
      obtain ⟨rfl, rfl⟩ : wa = w.drew ∧ wb = w.drew := by
        rcases hL with ⟨h1, -⟩ | ⟨h1, -⟩ | ⟨-, -, h2, h3 | ⟨h4, -⟩ | ⟨h4, -⟩⟩
        · exact absurd h1 (by decide)
        · exact absurd h1 (by decide)
        · exact ⟨h3, h2.trans h3⟩
        · exact absurd h4 (by decide +kernel)
        · exact absurd h4 (by decide +kernel)
      exact l_val hd (x_field (op_is rfl ho) (by rw [(hoff 3 (by decide)).trans p3]; show (Instr.fieldAt _ (pa _ _) _).run _ _ = .ok (pa _ _) _; unfold pa; go_simp)) hK
    case inr.inr.inr.inl =>
      obtain ⟨rfl, rfl⟩ : wa = w.drew ∧ wb = w.drew := by
        rcases hL with ⟨h1, -⟩ | ⟨h1, -⟩ | ⟨-, -, h2, h3 | ⟨h4, -⟩ | ⟨h4, -⟩⟩
        · exact absurd h1 (by decide)
        · exact absurd h1 (by decide)
        · exact ⟨h3, h2.trans h3⟩
        · exact absurd h4 (by decide +kernel)
        · exact absurd h4 (by decide +kernel)
      exact l_val hd (x_load (op_is rfl ho) (by rw [hv 2 7 rfl (by kernel_rfl)]; show (Instr.loadAt _ (pa _ _)).run _ _ = _; unfold pa; go_simp)) hK
    case inr.inr.inr.inr.inl =>
      obtain ⟨rfl, rfl⟩ : wa = w.drew ∧ wb = w.drew := by
        rcases hL with ⟨h1, -⟩ | ⟨h1, -⟩ | ⟨-, -, h2, h3 | ⟨h4, -⟩ | ⟨h4, -⟩⟩
        · exact absurd h1 (by decide)
        · exact absurd h1 (by decide)
        · exact ⟨h3, h2.trans h3⟩
        · exact absurd h4 (by decide +kernel)
        · exact absurd h4 (by decide +kernel)
      exact l_call hd (op_is rfl ho) (by simp only [List.map_toArray, List.map_cons, List.map_nil]; rw [hv 1 6 rfl (by kernel_rfl), hv 3 8 rfl (by kernel_rfl)]; rfl) Tryd.func89 (by kernel_rfl) rfl (P1 _) hK
    case inr.inr.inr.inr.inr.inl =>
      obtain ⟨rfl, rfl⟩ : wa = w.drew ∧ wb = w.drew := by
        rcases hL with ⟨h1, -⟩ | ⟨h1, -⟩ | ⟨-, -, h2, h3 | ⟨h4, -⟩ | ⟨h4, -⟩⟩
        · exact absurd h1 (by decide)
        · exact absurd h1 (by decide)
        · exact ⟨h3, h2.trans h3⟩
        · exact absurd h4 (by decide +kernel)
        · exact absurd h4 (by decide +kernel)
      exact l_val hd (x_field (op_is rfl ho) (by rw [(hoff 2 (by decide)).trans p2]; show (Instr.fieldAt _ (pa _ _) _).run _ _ = .ok (pa _ _) _; unfold pa; go_simp)) hK
    case inr.inr.inr.inr.inr.inr.inl =>
      obtain ⟨rfl, rfl⟩ : wa = w.drew ∧ wb = w.drew := by
        rcases hL with ⟨h1, -⟩ | ⟨h1, -⟩ | ⟨-, -, h2, h3 | ⟨h4, -⟩ | ⟨h4, -⟩⟩
        · exact absurd h1 (by decide)
        · exact absurd h1 (by decide)
        · exact ⟨h3, h2.trans h3⟩
        · exact absurd h4 (by decide +kernel)
        · exact absurd h4 (by decide +kernel)
      exact l_val hd (x_load (op_is rfl ho) (by rw [hv 5 10 rfl (by kernel_rfl)]; show (Instr.loadAt _ (pa _ _)).run _ _ = _; unfold pa; go_simp)) hK
    case inr.inr.inr.inr.inr.inr.inr.inl =>
      obtain ⟨rfl, rfl⟩ : wa = w.drew ∧ wb = w.drew := by
        rcases hL with ⟨h1, -⟩ | ⟨h1, -⟩ | ⟨-, -, h2, h3 | ⟨h4, -⟩ | ⟨h4, -⟩⟩
        · exact absurd h1 (by decide)
        · exact absurd h1 (by decide)
        · exact ⟨h3, h2.trans h3⟩
        · exact absurd h4 (by decide +kernel)
        · exact absurd h4 (by decide +kernel)
      exact l_val hd (x_field (op_is rfl ho) (by rw [(hoff 3 (by decide)).trans p3]; show (Instr.fieldAt _ (pa _ _) _).run _ _ = .ok (pa _ _) _; unfold pa; go_simp)) hK
    case inr.inr.inr.inr.inr.inr.inr.inr.inl =>
      obtain ⟨rfl, rfl⟩ : wa = w.drew ∧ wb = w.drew := by
        rcases hL with ⟨h1, -⟩ | ⟨h1, -⟩ | ⟨-, -, h2, h3 | ⟨h4, -⟩ | ⟨h4, -⟩⟩
        · exact absurd h1 (by decide)
        · exact absurd h1 (by decide)
        · exact ⟨h3, h2.trans h3⟩
        · exact absurd h4 (by decide +kernel)
        · exact absurd h4 (by decide +kernel)
      exact l_val hd (x_load (op_is rfl ho) (by rw [hv 7 12 rfl (by kernel_rfl)]; show (Instr.loadAt _ (pa _ _)).run _ _ = _; unfold pa; go_simp)) hK
    case inr.inr.inr.inr.inr.inr.inr.inr.inr.inl =>
      obtain ⟨rfl, rfl⟩ : wa = w.drew ∧ wb = w.drew := by
        rcases hL with ⟨h1, -⟩ | ⟨h1, -⟩ | ⟨-, -, h2, h3 | ⟨h4, -⟩ | ⟨h4, -⟩⟩
        · exact absurd h1 (by decide)
        · exact absurd h1 (by decide)
        · exact ⟨h3, h2.trans h3⟩
        · exact absurd h4 (by decide +kernel)
        · exact absurd h4 (by decide +kernel)
      exact l_call hd (op_is rfl ho) (by simp only [List.map_toArray, List.map_cons, List.map_nil]; rw [hv 6 11 rfl (by kernel_rfl), hv 8 13 rfl (by kernel_rfl)]; rfl) Tryd.func89 (by kernel_rfl) rfl (P2 _) hK
    case inr.inr.inr.inr.inr.inr.inr.inr.inr.inr.inl =>
      obtain ⟨rfl, rfl⟩ : wa = w.drew ∧ wb = w.drew := by
        rcases hL with ⟨h1, -⟩ | ⟨h1, -⟩ | ⟨-, -, h2, h3 | ⟨h4, -⟩ | ⟨h4, -⟩⟩
        · exact absurd h1 (by decide)
        · exact absurd h1 (by decide)
        · exact ⟨h3, h2.trans h3⟩
        · exact absurd h4 (by decide +kernel)
        · exact absurd h4 (by decide +kernel)
      exact l_val hd (x_field (op_is rfl ho) (by rw [(hoff 2 (by decide)).trans p2]; show (Instr.fieldAt _ (pa _ _) _).run _ _ = .ok (pa _ _) _; unfold pa; go_simp)) hK
    case inr.inr.inr.inr.inr.inr.inr.inr.inr.inr.inr.inl =>
      obtain ⟨rfl, rfl⟩ : wa = w.drew ∧ wb = w.drew := by
        rcases hL with ⟨h1, -⟩ | ⟨h1, -⟩ | ⟨-, -, h2, h3 | ⟨h4, -⟩ | ⟨h4, -⟩⟩
        · exact absurd h1 (by decide)
        · exact absurd h1 (by decide)
        · exact ⟨h3, h2.trans h3⟩
        · exact absurd h4 (by decide +kernel)
        · exact absurd h4 (by decide +kernel)
      exact l_val hd (x_load (op_is rfl ho) (by rw [hv 10 15 rfl (by kernel_rfl)]; show (Instr.loadAt _ (pa _ _)).run _ _ = _; unfold pa; go_simp)) hK
    case inr.inr.inr.inr.inr.inr.inr.inr.inr.inr.inr.inr.inl =>
      obtain ⟨rfl, rfl⟩ : wa = w.drew ∧ wb = w.drew := by
        rcases hL with ⟨h1, -⟩ | ⟨h1, -⟩ | ⟨-, -, h2, h3 | ⟨h4, -⟩ | ⟨h4, -⟩⟩
        · exact absurd h1 (by decide)
        · exact absurd h1 (by decide)
        · exact ⟨h3, h2.trans h3⟩
        · exact absurd h4 (by decide +kernel)
        · exact absurd h4 (by decide +kernel)
      exact l_val hd (x_field (op_is rfl ho) (by rw [(hoff 3 (by decide)).trans p3]; show (Instr.fieldAt _ (pa _ _) _).run _ _ = .ok (pa _ _) _; unfold pa; go_simp)) hK
    case inr.inr.inr.inr.inr.inr.inr.inr.inr.inr.inr.inr.inr.inl =>
      obtain ⟨rfl, rfl⟩ : wa = w.drew ∧ wb = w.drew := by
        rcases hL with ⟨h1, -⟩ | ⟨h1, -⟩ | ⟨-, -, h2, h3 | ⟨h4, -⟩ | ⟨h4, -⟩⟩
        · exact absurd h1 (by decide)
        · exact absurd h1 (by decide)
        · exact ⟨h3, h2.trans h3⟩
        · exact absurd h4 (by decide +kernel)
        · exact absurd h4 (by decide +kernel)
      exact l_val hd (x_load (op_is rfl ho) (by rw [hv 12 17 rfl (by kernel_rfl)]; show (Instr.loadAt _ (pa _ _)).run _ _ = _; unfold pa; go_simp)) hK
    case inr.inr.inr.inr.inr.inr.inr.inr.inr.inr.inr.inr.inr.inr.inl =>
      obtain ⟨rfl, rfl⟩ : wa = w.drew ∧ wb = w.drew := by
        rcases hL with ⟨h1, -⟩ | ⟨h1, -⟩ | ⟨-, -, h2, h3 | ⟨h4, -⟩ | ⟨h4, -⟩⟩
        · exact absurd h1 (by decide)
        · exact absurd h1 (by decide)
        · exact ⟨h3, h2.trans h3⟩
        · exact absurd h4 (by decide +kernel)
        · exact absurd h4 (by decide +kernel)
      exact l_call hd (op_is rfl ho) (by simp only [List.map_toArray, List.map_cons, List.map_nil]; rw [hv 11 16 rfl (by kernel_rfl), hv 13 18 rfl (by kernel_rfl)]; rfl) Tryd.func89 (by kernel_rfl) rfl (P3 _) hK
    case inr.inr.inr.inr.inr.inr.inr.inr.inr.inr.inr.inr.inr.inr.inr.inl =>
      obtain ⟨rfl, rfl⟩ : wa = w.drew ∧ wb = w.drew.alloc (.cells #[.int .i64 a, .int .i64 b, .int .i64 c] 3 (0, 0)) := by
        rcases hL with ⟨-, h2, h3⟩ | ⟨h1, -⟩ | ⟨h1, -⟩
        · exact ⟨h2, h3⟩
        · exact absurd h1 (by decide)
        · exact absurd rfl h1
      exact l_val hd (x_bslice (op_is rfl ho) (qs := #[(0, .int .i64 a), (1, .int .i64 b), (2, .int .i64 c)]) (by simp only [List.map_toArray, List.map_cons, List.map_nil]; rw [hv 4 9 rfl (by kernel_rfl), hv 9 14 rfl (by kernel_rfl), hv 14 19 rfl (by kernel_rfl)]; rfl) (by go_simp)) hK
    case inr.inr.inr.inr.inr.inr.inr.inr.inr.inr.inr.inr.inr.inr.inr.inr.inl =>
      obtain ⟨rfl, rfl⟩ : wa = w.drew.alloc (.cells #[.int .i64 a, .int .i64 b, .int .i64 c] 3 (0, 0)) ∧ wb = w.drew.alloc (.cells #[.int .i64 a, .int .i64 b, .int .i64 c] 3 (0, 0)) := by
        rcases hL with ⟨h1, -⟩ | ⟨-, h2, h3⟩ | ⟨-, h1, -⟩
        · exact absurd h1 (by decide)
        · exact ⟨h2, h3⟩
        · exact absurd rfl h1
      exact l_call hd (op_is rfl ho) (by simp only [List.map_toArray, List.map_cons, List.map_nil]; rw [hv 15 20 rfl (by kernel_rfl)]; rfl) Tryd.func88 (by kernel_rfl) rfl (PO _ _ (blk_new w.drew _)) hK
    case inr.inr.inr.inr.inr.inr.inr.inr.inr.inr.inr.inr.inr.inr.inr.inr.inr =>
      obtain rfl : wb = wa := by
        rcases hL with ⟨h1, -⟩ | ⟨h1, -⟩ | ⟨-, -, h2, -⟩
        · exact absurd h1 (by decide)
        · exact absurd h1 (by decide)
        · exact h2
      exact l_val hd ((x_assign (op_is rfl ho)).trans (by rw [hv 16 21 rfl (by kernel_rfl)]; rfl)) hK
  · intro a' hsz hdf hoff hval
    exact hEnd a' hsz hdf (hval 17 4 rfl)
set_option maxRecDepth 100000 in
set_option maxHeartbeats 1600000 in
theorem cByPlaces (x y : Bm) (W : World) : Calls Tryd.prog 67 #[.agg #[.int .i64 x.1, .int .i64 x.2.1, .int .i64 x.2.2], .agg #[.int .i64 y.1, .int .i64 y.2.1, .int .i64 y.2.2]] W fun e w' => e = .returned (.int .i64 (cmpBm x y)) ∧ ∃ q os', w' = Sort.grow (W.drewN q) os' := by
  have P1 := fun w => cCmpI x.1 y.1 w
  have P2 := fun w => cCmpI x.2.1 y.2.1 w
  have P3 := fun w => cCmpI x.2.2 y.2.2 w
  have PO := fun (z : World) (g : Nat) (h : z.heap[g]? = some (.cells #[.int .i64 (cmpI x.1 y.1), .int .i64 (cmpI x.2.1 y.2.1), .int .i64 (cmpI x.2.2 y.2.2)] 3 (0, 0))) => cOr h
  unfold cmpBm
  generalize cmpI x.1 y.1 = a at *
  generalize cmpI x.2.1 y.2.1 = b at *
  generalize cmpI x.2.2 y.2.2 = c at *
  generalize x.1 = x1 at *
  generalize x.2.1 = x2 at *
  generalize x.2.2 = x3 at *
  generalize y.1 = y1 at *
  generalize y.2.1 = y2 at *
  generalize y.2.2 = y3 at *
  have HP1 : Hid (∀ w, Calls Tryd.prog 89 #[.int .i64 x1, .int .i64 y1] w fun e w' => e = .returned (.int .i64 a) ∧ w' = w) := P1
  have HP2 : Hid (∀ w, Calls Tryd.prog 89 #[.int .i64 x2, .int .i64 y2] w fun e w' => e = .returned (.int .i64 b) ∧ w' = w) := P2
  have HP3 : Hid (∀ w, Calls Tryd.prog 89 #[.int .i64 x3, .int .i64 y3] w fun e w' => e = .returned (.int .i64 c) ∧ w' = w) := P3
  have HPO : Hid (∀ z g, z.heap[g]? = some (.cells #[.int .i64 a, .int .i64 b, .int .i64 c] 3 (0, 0)) → Calls Tryd.prog 88 #[.slice (some ⟨g, 0, none⟩) 3 3] z fun e w' => e = .returned (.int .i64 (orI a b c)) ∧ w' = z) := PO
  clear P1 P2 P3 PO
  go_enter Tryd.func67, Tryd.ntmps67
  go_wp2
  refine by_r1 (gx := W.heap.size) (gy := W.heap.size + 1) rfl rfl rfl (blk_old (blk_new W _) _) (blk_new2 W _ _) HP1.out HP2.out HP3.out HPO.out ?_
  intro a' hsz hdf h4
  obtain ⟨cc, hcc, hce⟩ := expand22 (a := a') hsz hdf
  have q4 := (hce 4).trans h4
  clear hce h4 hsz hdf
  subst hcc
  simp only [lit22, q4]
  go_wp2
  go_ret
  refine ⟨rfl, 1, #[Obj.cells #[.int .i64 x1, .int .i64 x2, .int .i64 x3] 55 (0, 0), Obj.cells #[.int .i64 y1, .int .i64 y2, .int .i64 y3] 55 (0, 0), Obj.cells #[.int .i64 a, .int .i64 b, .int .i64 c] 3 (0, 0)], ?_⟩
  rw [show (#[Obj.cells #[.int .i64 x1, .int .i64 x2, .int .i64 x3] 55 (0, 0), Obj.cells #[.int .i64 y1, .int .i64 y2, .int .i64 y3] 55 (0, 0), Obj.cells #[.int .i64 a, .int .i64 b, .int .i64 c] 3 (0, 0)] : Array Obj) = #[Obj.cells #[.int .i64 x1, .int .i64 x2, .int .i64 x3] 55 (0, 0)] ++ #[Obj.cells #[.int .i64 y1, .int .i64 y2, .int .i64 y3] 55 (0, 0)] ++ #[Obj.cells #[.int .i64 a, .int .i64 b, .int .i64 c] 3 (0, 0)] from rfl, ← Sort.grow_grow, ← Sort.grow_grow, ← Sort.alloc_eq_grow, ← Sort.alloc_eq_grow, ← Sort.alloc_eq_grow]
  rfl
end Go.Proofs.YtbielnehggcaoaaDoor
/-
  Blames are sorted: slices.SortFunc by contract, at none and at any. (By the verifier; no statement.)
-/
namespace Go.Proofs.YtbielnehggcaoaaDoor
open Go.RowKit
theorem wp_loopO {P : Program} {c : Code} {Q : Exit → Act → World → Prop} {a : Act} {w : World} (h : c.wp P (Exit.then (fun a' w' => (a' = a ∧ w' = w) ∧ 0 < 0) Q) a w) : (Code.loop c).wp P Q a w :=
  wp_loop (fun a' x => a' = a ∧ x = w) (fun _ _ => 0) ⟨rfl, rfl⟩ (by rintro _ _ ⟨rfl, rfl⟩; exact h)
set_option maxRecDepth 100000 in
set_option maxHeartbeats 1600000 in
theorem cIns0 (p : Option Addr) (cap : Nat) (fv : Value) (w : World) : Calls Tryd.prog 94 #[.slice p 0 cap, .int .i64 0, .int .i64 0, fv] w fun e w' => e = .returned (.tuple #[]) ∧ w' = w := by
  go_enter Tryd.func94, Tryd.ntmps94
  go_wp2
  refine wp_loopO ?_
  go_wp2
  go_end0
  exact ⟨rfl, rfl⟩
set_option maxRecDepth 100000 in
set_option maxHeartbeats 1600000 in
theorem cPdq0 (p : Option Addr) (cap : Nat) (l : Int) (fv : Value) (w : World) : Calls Tryd.prog 86 #[.slice p 0 cap, .int .i64 0, .int .i64 0, .int .i64 l, fv] w fun e w' => e = .returned (.tuple #[]) ∧ w' = w := by
  have P := cIns0 p cap fv w
  go_enter Tryd.func86, Tryd.ntmps86
  go_wp2
  refine wp_loopO ?_
  go_wp2_with (go_at_call 94; refine P.mono ?_; rintro r x1 ⟨rfl, rfl⟩)
  exact bodyPost_ret (results_none rfl _ _ _) rfl ⟨rfl, rfl⟩
theorem bitsLen (n : Nat) (hn : n < 1000000000000) (w : World) : Calls Tryd.prog 87 #[.int .u64 n] w fun e w' => (∃ l : Int, e = .returned (.int .i64 l)) ∧ w' = w := by
  have h := Any.bits_Len (SlLaysF0.n15.bits (P := Tryd.prog) (ρ := Tryd.sortBm_ren) { Tryd.sortBm with }) (n : Int) w (by omega) (by omega)
  change Calls Tryd.prog 87 _ _ _ at h
  exact h.mono fun _ _ ⟨he, hw⟩ => ⟨⟨_, he⟩, hw⟩
set_option maxHeartbeats 800000 in
theorem cSort0 (p : Option Addr) (cap : Nat) (fv : Value) (w : World) : Calls Tryd.prog 66 #[.slice p 0 cap, fv] w fun e w' => e = .returned (.tuple #[]) ∧ w' = w := by
  have P := fun l => cPdq0 p cap l fv w
  have PL := bitsLen 0 (by omega) w
  go_enter Tryd.func66, Tryd.ntmps66
  go_wp2_with (first | (go_at_call 87; refine PL.mono ?_; rintro r x1 ⟨⟨l, rfl⟩, rfl⟩) | (go_at_call 86; refine (P _).mono ?_; rintro r x2 ⟨rfl, rfl⟩))
  go_end0
  exact ⟨rfl, rfl⟩
def encBm (x : Bm) : List Value := rowB x
theorem cmpI_lt {a b : Int} : cmpI a b < 0 ↔ a < b := by unfold cmpI; split <;> (try split) <;> omega
theorem cmpI_eq {a b : Int} : cmpI a b = 0 ↔ a = b := by unfold cmpI; split <;> (try split) <;> omega
def ltBm (x y : Bm) : Prop := x.1 < y.1 ∨ (x.1 = y.1 ∧ (x.2.1 < y.2.1 ∨ (x.2.1 = y.2.1 ∧ x.2.2 < y.2.2)))
theorem cmpBm_lt {x y : Bm} : cmpBm x y < 0 ↔ ltBm x y := by
  unfold cmpBm orI ltBm
  have h1 := @cmpI_lt x.1 y.1
  have h2 := @cmpI_eq x.1 y.1
  have h3 := @cmpI_lt x.2.1 y.2.1
  have h4 := @cmpI_eq x.2.1 y.2.1
  have h5 := @cmpI_lt x.2.2 y.2.2
  split
  · rename_i h
    rw [h1]
    constructor
    · exact .inl
    · rintro (h | ⟨h, _⟩)
      · exact h
      · exact absurd (h2.2 h) (by assumption)
  · rename_i h
    have e := h2.1 (by simpa using h)
    split
    · rename_i g
      rw [h3]
      constructor
      · exact fun q => .inr ⟨e, .inl q⟩
      · rintro (q | ⟨_, q | ⟨q, _⟩⟩)
        · omega
        · exact q
        · exact absurd (h4.2 q) (by assumption)
    · rename_i g
      have e2 := h4.1 (by simpa using g)
      rw [h5]
      constructor
      · exact fun q => .inr ⟨e, .inr ⟨e2, q⟩⟩
      · rintro (q | ⟨_, q | ⟨_, q⟩⟩)
        · omega
        · omega
        · exact q
theorem lt_dec (x y : Bm) : ltOf cmpBm x y = true ↔ ltBm x y := by
  unfold ltOf
  rw [decide_eq_true_eq]
  exact cmpBm_lt
theorem swoBm : Go.Sort.SWO (ltOf cmpBm) where
  irrefl x := by
    cases h : ltOf cmpBm x x with
    | false => rfl
    | true => have := (lt_dec x x).1 h; unfold ltBm at this; omega
  trans x y z h1 h2 := by
    rw [lt_dec] at *
    unfold ltBm at *
    omega
  ntrans x y z h1 h2 := by
    have e1 : ¬ ltBm x y := fun h => by rw [(lt_dec _ _).2 h] at h1; cases h1
    have e2 : ¬ ltBm y z := fun h => by rw [(lt_dec _ _).2 h] at h2; cases h2
    cases h : ltOf cmpBm x z with
    | false => rfl
    | true =>
      have := (lt_dec x z).1 h
      unfold ltBm at *
      omega
end Go.Proofs.YtbielnehggcaoaaDoor
/-
  Blames are sorted: slices.SortFunc by contract. (By the verifier; no statement.)
-/
namespace Go.Proofs.YtbielnehggcaoaaDoor
open Go.RowKit Go.Sort
theorem rowsB_at (R : List Bm) {k j : Nat} (hk : k < R.length) (hj : j < 3) : (R.flatMap rowB)[k * 3 + j]? = (rowB R[k])[j]? := by
  have e : R = R.take k ++ R[k] :: R.drop (k + 1) := by rw [← List.drop_eq_getElem_cons hk, List.take_append_drop]
  have hl : ((R.take k).flatMap rowB).length = k * 3 := by rw [rowsB_len, List.length_take, Nat.min_eq_left (by omega)]
  have : (R.flatMap rowB)[k * 3 + j]? = ((R.take k).flatMap rowB ++ (rowB R[k] ++ (R.drop (k + 1)).flatMap rowB))[k * 3 + j]? := by
    conv => lhs; rw [e]
    rw [List.flatMap_append, List.flatMap_cons]
  rw [this, List.getElem?_append_right (by omega), hl, show k * 3 + j - k * 3 = j by omega, List.getElem?_append_left (by simp only [rowB, List.length_cons, List.length_nil]; omega)]
theorem flat_rows (R : List Bm) (t : Nat) (ht : t < R.length * 3) : (R.flatMap rowB)[t]? = some (flatK encBm 3 R.toArray)[t]! := by
  have h3 : t / 3 < R.length := by omega
  have h4 : t % 3 < 3 := Nat.mod_lt _ (by decide)
  have e : t = t / 3 * 3 + t % 3 := by omega
  rw [get_flatK encBm 3 R.toArray t (by simpa using ht)]
  conv => lhs; rw [e]
  rw [rowsB_at R h3 h4]
  have : (R.toArray)[t / 3]! = R[t / 3] := by simp [h3]
  rw [this]
  unfold encBm
  have hl : t % 3 < (rowB R[t / 3]).length := by simp only [rowB, List.length_cons, List.length_nil]; omega
  rw [List.getElem?_eq_getElem hl, getElem!_pos (rowB R[t / 3]) (t % 3) hl]
theorem holds_rows {B : Nat} {w : World} {g c : Nat} {R : List Bm} (h : BR B w (.slice (some ⟨g, 0, none⟩) R.length c) R) : HoldsK encBm 3 w g 0 R.toArray := by
  intro t ht
  rw [size_flatK] at ht
  have ht2 : t < R.length * 3 := by simpa using ht
  have h1 := h.own.cellAt t ht2
  rw [flat_rows R t ht2] at h1
  rw [Nat.zero_add]
  exact ⟨h1, h.own.frozenAt t⟩
theorem heap_sortedB {w : World} {g n : Nat} {os : Array Obj} {cur : Array Value} {e : TypeId} {fr : Nat × Nat} (d : Array Bm) (hb : w.heap[g]? = some (.cells cur e fr)) :
    (sortWorldK encBm 3 w g 0 n d os).heap[g]? = some (.cells (putCells id 0 (flatK encBm 3 d) cur) e fr) := by
  have hg : g < w.heap.size := (Array.getElem?_eq_some_iff.1 hb).1
  unfold sortWorldK putRowK
  rw [heap_grow_old _ _ (by simpa using hg)]
  simp [putRow, mapBlock, Sort.ahead, Array.getElem?_modify, hb, onCells]
theorem turned_sortedB {w : World} {g n : Nat} {os : Array Obj} (d : Array Bm) : Turned [g] w (sortWorldK encBm 3 w g 0 n d os) := by
  unfold sortWorldK putRowK
  refine ⟨rfl, rfl, rfl, by simp [grow], fun k hk hne => ?_⟩
  rw [heap_grow_old _ _ (by simpa using hk)]
  have : g ≠ k := fun e => hne (by rw [e]; simp)
  simp [putRow, mapBlock, Sort.ahead, Array.getElem?_modify, this]
theorem take_sortedB (cur : Array Value) (R : List Bm) (h : R.length * 3 ≤ cur.size) : (putCells id 0 (flatK encBm 3 R.toArray) cur).toList.take (R.length * 3) = R.flatMap rowB := by
  apply List.ext_getElem?
  intro j
  by_cases hj : j < R.length * 3
  · rw [List.getElem?_take_of_lt hj, Array.getElem?_toList, flat_rows R j hj]
    have h1 : j < (flatK encBm 3 R.toArray).size := by rw [size_flatK]; simpa using hj
    unfold putCells
    rw [Array.getElem?_mapIdx, Array.getElem?_eq_getElem (show j < cur.size by omega)]
    simp [hj]
  · rw [List.getElem?_take_eq_none (by omega), List.getElem?_eq_none (by rw [rowsB_len]; omega)]
/-- What a sort leaves. -/
structure SrP (B : Nat) (v : Value) (R : List Bm) (w w' : World) : Prop where
  ex : ∃ R', R'.Perm R ∧ R'.Pairwise (fun x y => ¬ ltBm y x) ∧ BR B w' v R'
  tu : Turned v.ownBlock.toList w w'
theorem sorted_list {d : Array Bm} (h : SortedIn (ltOf cmpBm) 0 d.size d) : d.toList.Pairwise (fun x y => ¬ ltBm y x) := by
  rw [List.pairwise_iff_getElem]
  intro i j hi hj hij
  have hi2 : i < d.size := by simpa using hi
  have hj2 : j < d.size := by simpa using hj
  have h1 := h i j (Nat.zero_le _) hij hj2
  intro hl
  rw [getElem!_pos d i hi2, getElem!_pos d j hj2] at h1
  simp only [Array.getElem_toList] at hl
  rw [(lt_dec _ _).2 hl] at h1
  cases h1
theorem cSortB {B : Nat} {w : World} {v : Value} {R : List Bm} (h : BR B w v R) (hn : R.length < 4611686018427387904) : Calls Tryd.prog 66 #[v, .func (.func 67) #[] #[]] w fun e w' => e = .returned (.tuple #[]) ∧ SrP B v R w w' := by
  rcases h.form with ⟨rfl, rfl⟩ | ⟨g, c, rfl⟩
  · exact (cSort0 none 0 _ w).mono fun _ _ ⟨he, hw⟩ => ⟨he, ⟨[], List.Perm.refl _, List.Pairwise.nil, BR.nil _ _⟩, by rw [hw]; exact Turned.refl _ _⟩
  · have eg : ∀ args w, (callFunc 67 args).run Tryd.prog w = .ok (.enter 67 args) w := enters_of Tryd.func67 (by kernel_rfl) rfl
    obtain ⟨cs, hg⟩ := h.type (g := g) rfl
    have hcmp : CmpLays Tryd.prog 67 #[] encBm 3 cmpBm g 0 R.toArray.size w := fun _ _ _ _ x y => cByPlaces x y _
    have hcon := AnyQ.slices_SortFunc Tryd.sortBm 3 Tryd.isAgg55 Tryd.sizeOf55 encBm (fun _ => rfl) (fun x u hu => by
      simp only [encBm, rowB, List.mem_cons, List.not_mem_nil, or_false] at hu
      rcases hu with rfl | rfl | rfl <;> rfl) cmpBm swoBm 67 #[] g 0 c R.toArray w eg hcmp (holds_rows h) (lt_of_heap hg) (by simpa using hn)
    change Calls Tryd.prog 66 _ _ _ at hcon
    rw [List.size_toArray] at hcon
    refine hcon.mono ?_
    rintro e w' ⟨rfl, d', n, os, hp, hs, rfl⟩
    refine ⟨rfl, ⟨d'.toList, ?_, ?_, ⟨?_⟩⟩, turned_sortedB d'⟩
    · have h3 := hp.2.2
      have e1 : (d'.extract 0 R.length) = d' := by
        have := hp.1
        simp only [List.size_toArray] at this
        rw [← this]
        simp
      have e2 : (R.toArray.extract 0 R.length) = R.toArray := by simp
      rw [e1, e2] at h3
      simpa using h3
    · have hsz : d'.size = R.length := by simpa using hp.1
      exact sorted_list (by rw [hsz]; exact hs)
    · have hsz : d'.toList.length = R.length := by simpa using hp.1
      rcases h.own.2 with ⟨h0, _⟩ | ⟨g', c', cur, hv, hb, hh, h1, h2, h3, h4⟩
      · cases h0
      · cases hv
        refine ⟨rowsB_len _, .inr ⟨g, c, putCells id 0 (flatK encBm 3 d') cur, by rw [hsz], hb, heap_sortedB d' hh, by omega, h2, by simp [putCells, h3], ?_⟩⟩
        have := take_sortedB cur d'.toList (by rw [hsz]; omega)
        simpa using this
end Go.Proofs.YtbielnehggcaoaaDoor
/-
  A history judged; Versions; by contract. (By the verifier; no statement.)
-/
namespace Go.Proofs.YtbielnehggcaoaaDoor
open Go.RowKit
/-- A new court's cells. -/
def ctZ : Array Value := #[.slice none 0 0, .slice none 0 0, .slice none 0 0] ++ Array.replicate 64 (.bool false) ++ #[.map none] ++ Array.replicate 64 (.int .i64 0) ++ #[.slice none 0 0]
set_option maxRecDepth 100000 in
theorem ctZ_eq : Tryd.zeroCells127 = ctZ := by kernel_rfl
theorem ctZ_size : ctZ.size = 133 := by simp [ctZ]
theorem ctZ_a (p : Nat) (h : p < 64) : ctZ[3 + p]? = some (.bool false) := by
  unfold ctZ
  rw [Array.getElem?_append_left (by simp; omega), Array.getElem?_append_left (by simp; omega), Array.getElem?_append_left (by simp; omega), Array.getElem?_append_right (by simp), Array.getElem?_replicate, if_pos (by simp; omega)]
theorem ctZ_b (p : Nat) (h : p < 64) : ctZ[68 + p]? = some (.int .i64 0) := by
  unfold ctZ
  rw [Array.getElem?_append_left (by simp; omega), Array.getElem?_append_right (by simp), Array.getElem?_replicate, if_pos (by simp; omega)]
theorem ctZ_2 : ctZ[2]? = some (.slice none 0 0) := by
  unfold ctZ
  rw [Array.getElem?_append_left (by simp), Array.getElem?_append_left (by simp), Array.getElem?_append_left (by simp), Array.getElem?_append_left (by simp)]
  rfl
theorem ctZ_132 : ctZ[132]? = some (.slice none 0 0) := by
  unfold ctZ
  rw [Array.getElem?_append_right (by simp)]
  simp
section
variable {w : World} {sv ev : Value} {D : List Ev} {S : List (List (Int × Int))}
theorem CT.new (w : World) (sv ev : Value) (m : Int) (D : List Ev) : CT w (w.heap.size + 1) w.heap.size sv ev (.slice none 0 0) (sN m D 0) ((w.alloc (.map #[] 0)).alloc (.cells (((Tryd.zeroCells127.setIfInBounds 0 sv).setIfInBounds 1 ev).setIfInBounds 67 (.map (some w.heap.size))) 127 (0, 0))) := by
  rw [ctZ_eq]
  have h0 := ctZ_size
  have hT : Turned [] w ((w.alloc (.map #[] 0)).alloc (.cells (((ctZ.setIfInBounds 0 sv).setIfInBounds 1 ev).setIfInBounds 67 (.map (some w.heap.size))) 127 (0, 0))) := ((Turned.refl [] w).alloc _).alloc _
  refine ⟨hT.below (Below.refl _ _) (by simp) (Nat.le_refl _), ⟨by omega, Nat.le_refl _⟩, ?_, _, .slice none 0 0, blk_new2 w _ _, by simp [h0], ?_, ?_, ?_, ?_, ?_, ?_, ?_, IR.nil _ _, ?_⟩
  · have hg : (sN m D 0).pubs = fun _ => none := by
      funext k
      show pubF m D 0 k = none
      unfold pubF
      rw [if_pos (by unfold timesN pubL endL; simp)]
    rw [hg]
    exact (GM.made w).keep ((Turned.refl [] _).alloc _) (by simp)
  · rw [set_at (by simp [h0]), if_neg (by omega), set_at (by simp [h0]), if_neg (by omega), set_at (by simp [h0]), if_pos rfl]
  · rw [set_at (by simp [h0]), if_neg (by omega), set_at (by simp [h0]), if_pos rfl]
  · rw [set_at (by simp [h0]), if_neg (by omega), set_at (by simp [h0]), if_neg (by omega), set_at (by simp [h0]), if_neg (by omega)]; exact ctZ_2
  · intro p hp
    rw [set_at (by simp [h0]), if_neg (by omega), set_at (by simp [h0]), if_neg (by omega), set_at (by simp [h0]), if_neg (by omega)]
    exact ctZ_a p hp
  · rw [set_at (by simp [h0]), if_pos rfl]
  · intro p hp
    rw [set_at (by simp [h0]), if_neg (by omega), set_at (by simp [h0]), if_neg (by omega), set_at (by simp [h0]), if_neg (by omega)]
    exact ctZ_b p hp
  · rw [set_at (by simp [h0]), if_neg (by omega), set_at (by simp [h0]), if_neg (by omega), set_at (by simp [h0]), if_neg (by omega)]; exact ctZ_132
  · exact BR.nil _ _
theorem tellL_len (m : Int) (D : List Ev) (p : Int) : ∀ (g u : Nat) (f : Hold), (tellL m D p g u f).1.length ≤ (g + 1) * D.length
  | 0, u, f => by
    unfold tellL
    have h1 := heldL_len (D := D) (p := p) (u := u) (f := f) (endL m D D.length)
    have h2 := endL_len m D D.length
    simp only [Nat.zero_add, Nat.one_mul]
    omega
  | g + 1, u, f => by
    have h1 := heldL_len (D := D) (p := p) (u := u) (f := f) (endL m D D.length)
    have h2 := endL_len m D D.length
    have e : (g + 1 + 1) * D.length = (g + 1) * D.length + D.length := by rw [Nat.add_mul (g + 1) 1, Nat.one_mul]
    unfold tellL
    split
    · have ih := tellL_len m D p g (u + 1) (f.chg (eAt D (placeN m D D.length p (u + 1))))
      simp only [List.length_append]
      omega
    · simp only
      have : 0 ≤ (g + 1) * D.length := Nat.zero_le _
      omega
theorem partT_len (S : List (List (Int × Int))) {D : List Ev} (hD : D.length ≤ 1024) (p : Nat) : (partT S D p).1.length ≤ 1050000 := by
  unfold partT
  have h := tellL_len S.length D p D.length 1 (Hold.none.lay (S.getD p []))
  have : (D.length + 1) * D.length ≤ 1025 * 1024 := Nat.mul_le_mul (by omega) hD
  omega
theorem flat_len {α β : Type} (f : α → List β) (n : Nat) (hf : ∀ x, (f x).length ≤ n) : ∀ l : List α, (l.flatMap f).length ≤ l.length * n
  | [] => by simp
  | x :: l => by
    rw [List.flatMap_cons, List.length_append, List.length_cons, Nat.add_mul, Nat.one_mul]
    have := flat_len f n hf l
    have := hf x
    omega
theorem cmpL_len (D : List Ev) (i j : Nat) : (cmpL D i j).length ≤ 4 := by
  unfold cmpL
  simp only [List.length_append]
  have h : ∀ (c : Bool) (x : Bm), (if c = true then [x] else []).length ≤ 1 := fun c x => by cases c <;> simp
  have h1 := h (decide (j < i) && twiceB (eAt D i) (eAt D j)) ((i : Int), (j : Int), 2)
  have h2 := h (wasA (eAt D j).e (eAt D i).b && backB (eAt D i) (eAt D j)) ((i : Int), (j : Int), 5)
  have h3 := h (wasA (eAt D j).e (eAt D i).b && (wlateB (eAt D i) (eAt D j) || slateB (eAt D i) (eAt D j))) ((i : Int), (j : Int), 6)
  have h4 := h (decide (j < i) && apartB (eAt D i) (eAt D j)) ((i : Int), (j : Int), 7)
  omega
theorem eachL_len {D : List Ev} (hD : D.length ≤ 1024) (m : Int) (la : Int → Int) (i : Nat) : (eachL m D la i).length ≤ 5000 := by
  unfold eachL
  have h1 := flat_len (cmpL D i) 4 (cmpL_len D i) (endL m D D.length)
  have h2 := endL_len m D D.length
  have h3 : (if untoldB m D la i = true then [((i : Int), (-1 : Int), (3 : Int))] else []).length ≤ 1 := by split <;> simp
  have h4 : (endL m D D.length).length * 4 ≤ 1024 * 4 := Nat.mul_le_mul (by omega) (Nat.le_refl 4)
  rw [List.length_append]
  omega
/-- The court's state when p parts are told. -/
def sP (S : List (List (Int × Int))) (D : List Ev) (p : Nat) : Ct := { sN S.length D D.length with bl := wrongL S.length D D.length ++ (List.range p).flatMap (fun q => (partT S D q).1), last := fun q => if 0 ≤ q ∧ q < (p : Int) then lastF S D q else 0 }
theorem sP_zero : sP S D 0 = sN S.length D D.length := by
  unfold sP sN
  simp only [List.range_zero, List.flatMap_nil, List.append_nil, Ct.mk.injEq, true_and, and_true]
  funext q
  rw [if_neg (by omega)]
theorem sP_succ (p : Nat) : sP S D (p + 1) = { sP S D p with bl := (sP S D p).bl ++ (partT S D p).1, last := fun q => if q = (p : Int) then ((partT S D p).2 : Nat) else (sP S D p).last q } := by
  unfold sP
  simp only [Ct.mk.injEq, true_and]
  constructor
  · funext q
    by_cases e : q = p
    · rw [if_pos e, if_pos (by omega), e]
      unfold lastF
      simp
    · rw [if_neg e]
      by_cases h : 0 ≤ q ∧ q < (p : Int)
      · rw [if_pos h, if_pos (by omega)]
      · rw [if_neg h, if_neg (by omega)]
  · rw [List.range_succ, List.flatMap_append]
    simp
theorem sP_len (hD : D.length ≤ 1024) (p : Nat) (hp : p ≤ 64) : (sP S D p).bl.length ≤ 70000000 := by
  show (wrongL S.length D D.length ++ (List.range p).flatMap (fun q => (partT S D q).1)).length ≤ _
  have h1 := wrongL_len S.length D D.length
  have h2 := flat_len (fun q => (partT S D q).1) 1050000 (fun q => partT_len S hD q) (List.range p)
  rw [List.length_range] at h2
  have h3 : p * 1050000 ≤ 64 * 1050000 := Nat.mul_le_mul hp (Nat.le_refl _)
  rw [List.length_append]
  omega
/-- .. when k of the ended are held against all. -/
def sE (S : List (List (Int × Int))) (D : List Ev) (k : Nat) : Ct := { sP S D S.length with bl := (sP S D S.length).bl ++ ((endL S.length D D.length).take k).flatMap (eachL S.length D (lastF S D)) }
/-- .. and the next one against j of them. -/
def sI2 (S : List (List (Int × Int))) (D : List Ev) (k i j : Nat) : Ct := { sP S D S.length with bl := (sE S D k).bl ++ ((if untoldB S.length D (lastF S D) i then [((i : Int), -1, 3)] else []) ++ ((endL S.length D D.length).take j).flatMap (cmpL D i)) }
theorem sE_zero : sE S D 0 = sP S D S.length := by
  unfold sE
  simp
theorem sE_len (hD : D.length ≤ 1024) (h64 : S.length ≤ 64) (k : Nat) : (sE S D k).bl.length ≤ 80000000 := by
  show ((sP S D S.length).bl ++ ((endL S.length D D.length).take k).flatMap (eachL S.length D (lastF S D))).length ≤ _
  have h1 := sP_len (S := S) hD S.length h64
  have h2 := flat_len (eachL S.length D (lastF S D)) 5000 (fun i => eachL_len hD _ _ i) ((endL S.length D D.length).take k)
  have h3 := endL_len S.length D D.length
  have h4 : ((endL S.length D D.length).take k).length ≤ 1024 := by rw [List.length_take]; omega
  have h5 : ((endL S.length D D.length).take k).length * 5000 ≤ 1024 * 5000 := Nat.mul_le_mul h4 (Nat.le_refl _)
  rw [List.length_append]
  omega
theorem sI_len (hD : D.length ≤ 1024) (h64 : S.length ≤ 64) (k i j : Nat) : (sI2 S D k i j).bl.length ≤ 90000000 := by
  show ((sE S D k).bl ++ ((if untoldB S.length D (lastF S D) i then [((i : Int), -1, 3)] else []) ++ ((endL S.length D D.length).take j).flatMap (cmpL D i))).length ≤ _
  have h1 := sE_len (S := S) hD h64 k
  have h2 := flat_len (cmpL D i) 4 (cmpL_len D i) ((endL S.length D D.length).take j)
  have h3 := endL_len S.length D D.length
  have h4 : ((endL S.length D D.length).take j).length ≤ 1024 := by rw [List.length_take]; omega
  have h5 : ((endL S.length D D.length).take j).length * 4 ≤ 1024 * 4 := Nat.mul_le_mul h4 (Nat.le_refl _)
  have h6 : (if untoldB S.length D (lastF S D) i = true then [((i : Int), (-1 : Int), (3 : Int))] else []).length ≤ 1 := by split <;> simp
  rw [List.length_append, List.length_append]
  omega
theorem untold_last {i : Nat} (h : endB S.length (eAt D i) = true) : untoldB S.length D (sP S D S.length).last i = untoldB S.length D (lastF S D) i := by
  unfold untoldB
  cases hs : (eAt D i).snap with
  | true => rfl
  | false =>
    have := good_inPart (end_good h).1 hs
    show (!false && decide ((if 0 ≤ (eAt D i).p ∧ (eAt D i).p < (S.length : Int) then lastF S D (eAt D i).p else 0) < _) && _) = _
    rw [if_pos this]
theorem sI_start {k i : Nat} (h : endB S.length (eAt D i) = true) : sI2 S D k i 0 = { sE S D k with bl := (sE S D k).bl ++ (if untoldB S.length D (sE S D k).last i then [((i : Int), -1, 3)] else []) } := by
  rw [show (sE S D k).last = (sP S D S.length).last from rfl, untold_last h]
  unfold sI2 sE
  simp
theorem sI_next {k i j q : Nat} (h : (endL S.length D D.length)[j]? = some q) : sI2 S D k i (j + 1) = { sI2 S D k i j with bl := (sI2 S D k i j).bl ++ cmpL D i q } := by
  unfold sI2
  rw [List.take_add_one, h, Option.toList_some, List.flatMap_append]
  simp
theorem sE_next {k i : Nat} (h : (endL S.length D D.length)[k]? = some i) : sE S D (k + 1) = sI2 S D k i (endL S.length D D.length).length := by
  unfold sI2 sE
  rw [List.take_add_one, h, Option.toList_some, List.flatMap_append, List.take_length]
  simp [eachL]
theorem sE_all : (sE S D (endL S.length D D.length).length).bl = allBm S D := by
  show (wrongL S.length D D.length ++ (List.range S.length).flatMap (fun q => (partT S D q).1)) ++ ((endL S.length D D.length).take (endL S.length D D.length).length).flatMap (eachL S.length D (lastF S D)) = _
  rw [List.take_length]
  unfold allBm
  rw [List.append_assoc]
structure JX (w : World) (cb kb : Nat) (sv ev : Value) (f : Nat → Ct) (n : Nat) (i : Value) (x : World) : Prop where
  ex : ∃ k, k ≤ n ∧ i = .int .i64 (k : Nat) ∧ ∃ ve, CT w cb kb sv ev ve (f k) x
structure JY (w : World) (cb kb : Nat) (sv ev ve : Value) (f : Nat → Ct) (n : Nat) (i : Value) (x : World) : Prop where
  ex : ∃ k, k ≤ n ∧ i = .int .i64 (k : Nat) ∧ CT w cb kb sv ev ve (f k) x
set_option maxRecDepth 100000 in
set_option maxHeartbeats 6400000 in
theorem cJudged (hE : EsAt w ev D) (hS : SsAt w sv S) (h64 : S.length ≤ 64) (hD : D.length ≤ 1024) :
    Calls Tryd.prog 41 #[sv, ev] w fun r w' => ∃ v R, r = .returned v ∧ R.Perm (allBm S D) ∧ R.Pairwise (fun x y => ¬ ltBm y x) ∧ BR w.heap.size w' v R ∧ Turned [] w w' := by
  have HEs : Hid (EsAt w ev D) := hE
  have HSs : Hid (SsAt w sv S) := hS
  obtain ⟨ea, ec, rfl⟩ : ∃ ea ec, ev = .slice ea D.length ec := by
    obtain ⟨a, c, e, _⟩ := hE.ex
    exact ⟨a, c, e⟩
  obtain ⟨sa, sc, rfl⟩ : ∃ sa sc, sv = .slice sa S.length sc := by
    obtain ⟨a, c, e, _⟩ := hS.ex
    exact ⟨a, c, e⟩
  have HCn : Hid _ := CT.new w (.slice sa S.length sc) (.slice ea D.length ec) S.length D
  clear hE hS
  have HH : Hid (S.length ≤ 64 ∧ D.length ≤ 1024) := ⟨h64, hD⟩
  have HEn : Hid (∀ (k : Nat) (hk : k < (endL S.length D D.length).length), endB S.length (eAt D (endL S.length D D.length)[k]) = true ∧ (endL S.length D D.length)[k] < D.length) := fun k hk => by
    have := mem_endL.1 (List.getElem_mem hk)
    exact ⟨this.2, this.1⟩
  have hmm := @run_makeMap Tryd.prog
  go_enter Tryd.func41, Tryd.ntmps41
  go_wp2
  clear hmm
  generalize (w.alloc (Obj.map #[] 0)).alloc (Obj.cells (((Tryd.zeroCells127.setIfInBounds 0 (Value.slice sa S.length sc)).setIfInBounds 1 (Value.slice ea D.length ec)).setIfInBounds 67 (Value.map (some w.heap.size))) 127 (0, 0)) = x0 at HCn ⊢
  generalize w.heap.size + 1 = cb at HCn ⊢
  generalize w.heap.size = kb at HCn ⊢
  go_loopw [19, 6] (fun i _ wx => JX w cb kb (.slice sa S.length sc) (.slice ea D.length ec) (sN S.length D) D.length i wx) (fun i _ _ => D.length - (intOf i).toNat)
  case atStart => exact ⟨0, Nat.zero_le _, rfl, _, HCn.out⟩
  case round =>
    obtain ⟨k, hk, rfl, ve, hC⟩ := hrel.ex
    have HC : Hid _ := hC
    clear hrel HCn
    by_cases hlt : k < D.length
    · have PC := cCall HEs.out HH.out.1 hC hlt
      clear hC
      go_wp2_with (go_at_call 62; refine PC.mono ?_; rintro r x1 ⟨rfl, ve1, C1⟩; have HC1 : Hid _ := C1; clear C1)
      go_roundw
      case rel => exact ⟨k + 1, by omega, by go_num, _, HC1.out⟩
      case measure => simp [intOf]; omega
    · have e : k = D.length := by omega
      subst e
      clear hC hlt hk x0
      obtain ⟨w1, rfl⟩ : ∃ w1, w1 = wr := ⟨wr, rfl⟩
      go_wp2
      go_loopw [28, 7] (fun i _ wx => JY w cb kb (.slice sa S.length sc) (.slice ea D.length ec) ve (sP S D) S.length i wx) (fun i _ _ => S.length - (intOf i).toNat)
      case atStart => exact ⟨0, Nat.zero_le _, rfl, by rw [sP_zero]; exact HC.out⟩
      case round =>
        obtain ⟨p, hp, rfl, hC⟩ := hrel.ex
        have HC2 : Hid _ := hC
        clear hrel HC
        by_cases hlt : p < S.length
        · have PC := cTell HEs.out HSs.out hC rfl rfl hlt HH.out.1 (Nat.le_trans (sP_len HH.out.2 p (by omega)) (by decide)) (by omega)
          rw [← sP_succ] at PC
          clear hC
          go_wp2_with (go_at_call 63; refine PC.mono ?_; rintro r x1 ⟨rfl, C1⟩; have HC1 : Hid _ := C1; clear C1)
          go_roundw
          case rel => exact ⟨p + 1, by omega, by go_num, HC1.out⟩
          case measure => simp [intOf]; omega
        · have e : p = S.length := by omega
          subst e
          clear hC hlt hp
          obtain ⟨w2, rfl⟩ : ∃ w2, w2 = wr := ⟨wr, rfl⟩
          obtain ⟨n, hn⟩ : ∃ n, n = (endL S.length D D.length).length := ⟨_, rfl⟩
          have HN : Hid (n = (endL S.length D D.length).length) := hn
          have hn6 : n ≤ 1024 := by rw [hn]; exact Nat.le_trans (endL_len _ _ _) hD
          obtain ⟨qa, qc, rfl⟩ : ∃ qa qc, ve = .slice qa n qc := by
            obtain ⟨a, c, e⟩ := HC2.out.row.form
            exact ⟨a, c, by rw [e, hn, List.length_map]; rfl⟩
          clear hn
          obtain ⟨c0, -, -, c2, -, -, -, -⟩ := HC2.out.cells
          go_wp2
          clear c0 c2
          go_loopw [40, 9, 11] (fun i _ _ wx => JY w cb kb (.slice sa S.length sc) (.slice ea D.length ec) (.slice qa n qc) (sE S D) n i wx) (fun i _ _ _ => n - (intOf i).toNat)
          case atStart => exact ⟨0, Nat.zero_le _, rfl, by rw [sE_zero]; exact HC2.out⟩
          case round =>
            obtain ⟨k, hk, rfl, hC⟩ := hrel.ex
            have HC3 : Hid _ := hC
            clear hrel HC2
            by_cases hlt : k < n
            · have hkl : k < (endL S.length D D.length).length := by rw [← HN.out]; exact hlt
              obtain ⟨he, hiD⟩ := HEn.out k hkl
              obtain ⟨g, c, eg, hg, hcell⟩ := hC.endedAt (k := k) hkl
              simp only [Value.slice.injEq] at eg
              obtain ⟨rfl, -, rfl⟩ := eg
              have HEk : Hid ((endL S.length D D.length)[k]? = some (endL S.length D D.length)[k]) := List.getElem?_eq_getElem hkl
              have hcell2 : wr.cell? ⟨g, k, none⟩ = some (.int .i64 (((endL S.length D D.length)[k] : Nat) : Int)) := hcell
              clear hcell
              generalize (endL S.length D D.length)[k] = i at he hiD hcell2 HEk
              have PWT := cWantTold HEs.out hC hiD he HH.out.1 (fun p => rfl) (Nat.le_trans (sE_len HH.out.2 HH.out.1 k) (by decide))
              rw [← sI_start he] at PWT
              have He : Hid (endB S.length (eAt D i) = true) := he
              clear hC he hkl
              obtain ⟨w3, rfl⟩ : ∃ w3, w3 = wr := ⟨wr, rfl⟩
              go_wp2_with (go_at_call 64; refine PWT.mono ?_; rintro r x1 ⟨rfl, C1⟩; have HC4 : Hid _ := C1; clear C1; obtain ⟨d0, -, -, d2, -, -, -, -⟩ := HC4.out.cells)
              clear d0 d2 PWT
              go_loopw [52, 11] (fun j _ wx => JY w cb kb (.slice sa S.length sc) (.slice ea D.length ec) (.slice (some ⟨g, 0, none⟩) n qc) (sI2 S D k i) n j wx) (fun j _ _ => n - (intOf j).toNat)
              case atStart => exact ⟨0, Nat.zero_le _, rfl, HC4.out⟩
              case round =>
                obtain ⟨j, hj, rfl, hC⟩ := hrel.ex
                have HC5 : Hid _ := hC
                clear hrel HC4
                by_cases hlt2 : j < n
                · have hjl : j < (endL S.length D D.length).length := by rw [← HN.out]; exact hlt2
                  obtain ⟨he', hjD⟩ := HEn.out j hjl
                  obtain ⟨g', c', eg, hg', hcell⟩ := hC.endedAt (k := j) hjl
                  simp only [Value.slice.injEq, Option.some.injEq, Addr.mk.injEq] at eg
                  obtain ⟨⟨rfl, -, -⟩, -, rfl⟩ := eg
                  have HEj : Hid ((endL S.length D D.length)[j]? = some (endL S.length D D.length)[j]) := List.getElem?_eq_getElem hjl
                  have hcell3 : wr.cell? ⟨g, j, none⟩ = some (.int .i64 (((endL S.length D D.length)[j] : Nat) : Int)) := hcell
                  clear hcell
                  generalize (endL S.length D D.length)[j] = q at he' hjD hcell3 HEj
                  have PCm := cCompare HEs.out hC hiD hjD He.out he' HH.out.1 (Nat.le_trans (sI_len HH.out.2 HH.out.1 k i j) (by decide))
                  rw [← sI_next HEj.out] at PCm
                  clear hC he' hjl
                  go_wp2_with (go_at_call 65; refine PCm.mono ?_; rintro r x2 ⟨rfl, C1⟩; have HC6 : Hid _ := C1; clear C1)
                  go_roundw
                  case rel => exact ⟨j + 1, by omega, by go_num, HC6.out⟩
                  case measure => simp [intOf]; omega
                · have e : j = n := by omega
                  subst e
                  clear hC
                  go_wp2
                  go_roundw
                  case rel => exact ⟨k + 1, by omega, by go_num, by rw [sE_next HEk.out, ← HN.out]; exact HC5.out⟩
                  case measure => simp [intOf]; omega
            · have e : k = n := by omega
              subst e
              clear hC
              obtain ⟨cs, vb, a1, a2, a3, a4, a5, a6, a7, a8, a9, a10, a11⟩ := HC3.out.ex
              have c132 : wr.cell? ⟨cb, 132, none⟩ = some vb := by rw [cell_at a1]; exact a9
              have clt : cb < wr.heap.size := lt_of_heap a1
              have HR : Hid (BR w.heap.size wr vb (sE S D k).bl) := a11
              have HB : Hid (wr.heap[cb]? = some (.cells cs 127 (0, 0))) := a1
              have HBl : Hid (Below w.heap.size w wr) := HC3.out.below
              have PS := cSortB a11 (Nat.lt_of_le_of_lt (sE_len HH.out.2 HH.out.1 k) (by decide))
              have HAll : Hid ((sE S D k).bl = allBm S D) := by rw [Hid, HN.out]; exact sE_all
              obtain ⟨va, vn, vc, rfl⟩ : ∃ va vn vc, vb = .slice va vn vc := by
                rcases a11.form with ⟨e, _⟩ | ⟨g, c, e⟩
                · exact ⟨_, _, _, e⟩
                · exact ⟨_, _, _, e⟩
              have HNe : Hid (cb ∉ (Value.slice va vn vc).ownBlock.toList) := fun hm => by
                simp only [Option.mem_toList] at hm
                obtain ⟨c2, h2⟩ := a11.type hm
                exact tyne h2 a1 (by decide) rfl
              clear a1 a2 a3 a4 a5 a6 a7 a8 a9 a10 a11
              go_wp2_with (go_at_call 66; refine PS.mono ?_; rintro r x1 ⟨rfl, P1⟩; have HP1 : Hid _ := P1; clear P1; have k132 := HP1.out.tu.cell c132 HNe.out; have klt := Nat.lt_of_lt_of_le clt HP1.out.tu.size)
              go_ret
              obtain ⟨R', r1, r2, r3⟩ := HP1.out.ex
              rw [HAll.out] at r1
              refine ⟨_, R', rfl, r1, r2, r3, ?_⟩
              refine (Turned.of (l := []) HBl.out).inner HP1.out.tu fun y hy => .inr ?_
              simp only [Option.mem_toList] at hy
              exact (HR.out.fresh hy).1
end
end Go.Proofs.YtbielnehggcaoaaDoor
/-
  Versions by contract. (By the verifier; no statement.)
-/
namespace Go.Proofs.YtbielnehggcaoaaDoor
open Go.RowKit
def manyB (m n : Nat) : Bool := decide (1024 < n) || (decide (m = 0) || decide (64 < m))
/-- What Versions answers. -/
structure VeP (S : List (List (Int × Int))) (D : List Ev) (w : World) (r : Ending) (w' : World) : Prop where
  tu : Turned [] w w'
  ans : (manyB S.length D.length = true ∧ r = .returned (.tuple #[.slice none 0 0, .int .i64 201])) ∨ (manyB S.length D.length = false ∧ ∃ v R, r = .returned (.tuple #[v, .int .i64 0]) ∧ R.Perm (allBm S D) ∧ R.Pairwise (fun x y => ¬ ltBm y x) ∧ BR w.heap.size w' v R)
set_option maxRecDepth 100000 in
set_option maxHeartbeats 1600000 in
theorem cVersions {w : World} {sv ev : Value} {S : List (List (Int × Int))} {D : List Ev} (hE : EsAt w ev D) (hS : SsAt w sv S) (hSl : S.length ≤ 1000000) : Calls Tryd.prog 22 #[sv, ev] w fun r w' => VeP S D w r w' := by
  have hn := hE.len
  have PJ := fun h1 h2 => cJudged hE hS h1 h2
  obtain ⟨ea, ec, rfl⟩ : ∃ ea ec, ev = .slice ea D.length ec := by
    obtain ⟨a, c, e, _⟩ := hE.ex
    exact ⟨a, c, e⟩
  obtain ⟨sa, sc, rfl⟩ : ∃ sa sc, sv = .slice sa S.length sc := by
    obtain ⟨a, c, e, _⟩ := hS.ex
    exact ⟨a, c, e⟩
  clear hE hS
  have HV : Hid (∀ r w', Turned [] w w' → ((manyB S.length D.length = true ∧ r = .returned (.tuple #[.slice none 0 0, .int .i64 201])) ∨ (manyB S.length D.length = false ∧ ∃ v R, r = .returned (.tuple #[v, .int .i64 0]) ∧ R.Perm (allBm S D) ∧ R.Pairwise (fun x y => ¬ ltBm y x) ∧ BR w.heap.size w' v R)) → VeP S D w r w') := fun r w' h1 h2 => ⟨h1, h2⟩
  by_cases g1 : 1024 < D.length
  · have d1 : decide ((1024 : Int) < (D.length : Int)) = true := decide_eq_true (by omega)
    have HM : Hid (manyB S.length D.length = true) := by rw [Hid]; unfold manyB; rw [decide_eq_true g1]; rfl
    clear PJ
    go_enter Tryd.func22, Tryd.ntmps22
    go_wp2
    go_ret2
    exact HV.out _ _ (Turned.refl _ _) (.inl ⟨HM.out, rfl⟩)
  by_cases g2 : S.length = 0
  · have HM : Hid (manyB S.length D.length = true) := by rw [Hid]; unfold manyB; rw [decide_eq_true g2]; simp
    have d1 : decide ((1024 : Int) < (D.length : Int)) = false := decide_eq_false (by omega)
    rw [g2]
    clear PJ
    go_enter Tryd.func22, Tryd.ntmps22
    go_wp2
    go_ret2
    exact HV.out _ _ (Turned.refl _ _) (.inl ⟨HM.out, rfl⟩)
  by_cases g3 : 64 < S.length
  · have HM : Hid (manyB S.length D.length = true) := by rw [Hid]; unfold manyB; rw [decide_eq_true g3]; simp
    have d1 : decide ((1024 : Int) < (D.length : Int)) = false := decide_eq_false (by omega)
    have d2 : ((S.length : Int) == 0) = false := by simpa using g2
    have d3 : decide ((64 : Int) < (S.length : Int)) = true := decide_eq_true (by omega)
    clear PJ
    go_enter Tryd.func22, Tryd.ntmps22
    go_wp2
    go_ret2
    exact HV.out _ _ (Turned.refl _ _) (.inl ⟨HM.out, rfl⟩)
  · have HM : Hid (manyB S.length D.length = false) := by rw [Hid]; unfold manyB; rw [decide_eq_false g1, decide_eq_false g2, decide_eq_false g3]; rfl
    have d1 : decide ((1024 : Int) < (D.length : Int)) = false := decide_eq_false (by omega)
    have d2 : ((S.length : Int) == 0) = false := by simpa using g2
    have d3 : decide ((64 : Int) < (S.length : Int)) = false := decide_eq_false (by omega)
    have PJ2 := PJ (by omega) (by omega)
    clear PJ
    go_enter Tryd.func22, Tryd.ntmps22
    go_wp2_with (go_at_call 41; refine PJ2.mono ?_; rintro r x1 ⟨v, R, rfl, r1, r2, r3, t1⟩; have HR : Hid (R.Perm (allBm S D) ∧ R.Pairwise (fun x y => ¬ ltBm y x) ∧ BR w.heap.size x1 v R ∧ Turned [] w x1) := ⟨r1, r2, r3, t1⟩; clear r1 r2 r3 t1)
    go_ret2
    exact HV.out _ _ HR.out.2.2.2 (.inr ⟨HM.out, v, R, rfl, HR.out.1, HR.out.2.1, HR.out.2.2.1⟩)
end Go.Proofs.YtbielnehggcaoaaDoor

/- The drawn regions of package chain's First and Push. (Written by tools/gen/genchn.py.) -/
import Derived.Test.YtaaibhgbkdnlbaaJ06
import Derived.Test.YtaaibhgbkdnlbaaJ19
import Derived.Test.YtaaibhgbkdnlbaaJ03
namespace Go.Proofs.Ytaaibhgbkdnlbaa
open Go.RowKit
def first_r1V (cb p : Nat) (xa xb xc xd r1 r2 : Int) : Nat × (Nat → Value) → Nat → Value := fun _ j => match j with | 0 => (pa cb 0) | 1 => (pa cb 0) | 2 => (pa cb 0) | 3 => (pa p 0) | 4 => (Value.pointer none) | 5 => (Value.agg #[.int .i64 xa, .int .i64 xb, .int .i64 xc, .int .i64 xd]) | 6 => (Value.tuple #[.int .i64 r1, .int .i64 r2]) | 7 => (Value.tuple #[.int .i64 r1, .int .i64 r2]) | 8 => (.int .i64 r1) | 9 => (.int .i64 r2) | 10 => (.int .i64 r1) | 11 => (.int .i64 r2) | _ => undef
set_option maxRecDepth 100000 in
set_option maxHeartbeats 1600000 in
theorem first_r1 {cb p nb : Nat} {xa xb xc xd r1 r2 : Int} {Ph : Nat → (Nat → Value) → World → Prop} {K : Act → World → Prop} {Q : Exit → Act → World → Prop} {a0 : Act} {w : World} (hs : a0.tmps.size = 44) (x0 : a0.eval (.tmp 0) = pa cb 0) (x1 : a0.eval (.tmp 1) = .pointer none) (x5 : a0.eval (.tmp 5) = pa nb 0) (hc : ∀ g u x, Ph g u x → x.cell? ⟨cb, 0, none⟩ = some (pa p 0) ∧ (Instr.loadAt 39 (pa nb 0)).run Try.prog x = .ok (Value.agg #[.int .i64 xa, .int .i64 xb, .int .i64 xc, .int .i64 xd]) x) (hA : Ph 0 (fun _ => undef) w.drew)
    (hL0 : ∀ u x, Ph 0 u x → Calls Try.prog 31 #[pa p 0, .pointer none, (Value.agg #[.int .i64 xa, .int .i64 xb, .int .i64 xc, .int .i64 xd]), .int .i64 0] x fun e w' => e = .returned (Value.tuple #[.int .i64 r1, .int .i64 r2]) ∧ Ph 1 u w')
    (hEnd : ∀ a' x u, a'.tmps.size = a0.tmps.size → a'.defers = a0.defers → (∀ s, some s ∉ ([some 13, some 14, some 15, some 16, some 17, some 18, some 19, some 12, some 20, some 21, some 8, some 9] : List (Option Nat)) → a'.eval (.tmp s) = a0.eval (.tmp s)) → a'.eval (.tmp 8) = (.int .i64 r1) → a'.eval (.tmp 9) = (.int .i64 r2) → Ph 1 u x → K a' x) : (Code.region 1 (opsR 1 Try.f10.body) true).wp Try.prog (Exit.then K Q) a0 w := by
  refine wp_region_ghost3 (G := Nat × (Nat → Value)) (by kernel_rfl) [some 13, some 14, some 15, some 16, some 17, some 18, some 19, some 12, some 20, some 21, some 8, some 9] (by rw [hs]; kernel_rfl) (first_r1V cb p xa xb xc xd r1 r2) [6] ?_ (doneP [6]) (StP 1 Ph) ((0, fun _ => undef)) (⟨Nat.zero_le _, hA⟩) (by intro x hx; simp at hx; subst hx; rfl) (by decide) ?_ ?_
  · intro i g b h γ
    have hi : i < 12 := by
      apply Classical.byContradiction
      intro hn
      rw [show (opsR 1 Try.f10.body)[i]? = none from Array.getElem?_eq_none (by have : (opsR 1 Try.f10.body).size = 12 := (by kernel_rfl); omega)] at h
      cases h
    rcases (by omega : i = 0 ∨ i = 1 ∨ i = 2 ∨ i = 3 ∨ i = 4 ∨ i = 5 ∨ i = 6 ∨ i = 7 ∨ i = 8 ∨ i = 9 ∨ i = 10 ∨ i = 11) with rfl | rfl | rfl | rfl | rfl | rfl | rfl | rfl | rfl | rfl | rfl | rfl
    · rw [show ((opsR 1 Try.f10.body)[0]?).bind (fun o : Oper => o.guard) = none from by kernel_rfl] at h
      cases h
    · rw [show ((opsR 1 Try.f10.body)[1]?).bind (fun o : Oper => o.guard) = none from by kernel_rfl] at h
      cases h
    · rw [show ((opsR 1 Try.f10.body)[2]?).bind (fun o : Oper => o.guard) = none from by kernel_rfl] at h
      cases h
    · rw [show ((opsR 1 Try.f10.body)[3]?).bind (fun o : Oper => o.guard) = none from by kernel_rfl] at h
      cases h
    · rw [show ((opsR 1 Try.f10.body)[4]?).bind (fun o : Oper => o.guard) = none from by kernel_rfl] at h
      cases h
    · rw [show ((opsR 1 Try.f10.body)[5]?).bind (fun o : Oper => o.guard) = none from by kernel_rfl] at h
      cases h
    · rw [show ((opsR 1 Try.f10.body)[6]?).bind (fun o : Oper => o.guard) = none from by kernel_rfl] at h
      cases h
    · rw [show ((opsR 1 Try.f10.body)[7]?).bind (fun o : Oper => o.guard) = none from by kernel_rfl] at h
      cases h
    · rw [show ((opsR 1 Try.f10.body)[8]?).bind (fun o : Oper => o.guard) = none from by kernel_rfl] at h
      cases h
    · rw [show ((opsR 1 Try.f10.body)[9]?).bind (fun o : Oper => o.guard) = none from by kernel_rfl] at h
      cases h
    · rw [show ((opsR 1 Try.f10.body)[10]?).bind (fun o : Oper => o.guard) = none from by kernel_rfl] at h
      cases h
    · rw [show ((opsR 1 Try.f10.body)[11]?).bind (fun o : Oper => o.guard) = none from by kernel_rfl] at h
      cases h
  · intro i hi hgd
    rcases (by simp at hi; omega : i = 0 ∨ i = 1 ∨ i = 2 ∨ i = 3 ∨ i = 4 ∨ i = 5 ∨ i = 6 ∨ i = 7 ∨ i = 8 ∨ i = 9 ∨ i = 10 ∨ i = 11) with rfl | rfl | rfl | rfl | rfl | rfl | rfl | rfl | rfl | rfl | rfl | rfl
    · refine soft (by decide) ?_
      intro o ac wa g ho hoff hv hS hdn
      exact (x_move (op_is rfl ho)).trans (by rw [((hoff 0 (by decide)).trans x0)]; rfl)
    · refine soft (by decide) ?_
      intro o ac wa g ho hoff hv hS hdn
      exact x_nil (op_is rfl ho) ((hv 0 13 rfl (by kernel_rfl)))
    · refine soft (by decide) ?_
      intro o ac wa g ho hoff hv hS hdn
      exact x_field (op_is rfl ho) (by rw [(hv 1 14 rfl (by kernel_rfl))]; show (Instr.fieldAt _ (pa _ _) _).run _ _ = .ok (pa _ _) _; unfold pa; go_simp)
    · refine soft (by decide) ?_
      intro o ac wa g ho hoff hv hS hdn
      have hc := (hc _ _ _ hS.ph).1
      exact x_load (op_is rfl ho) (by rw [(hv 2 15 rfl (by kernel_rfl))]; show (Instr.loadAt _ (pa _ _)).run _ _ = _; unfold pa; go_simp; first | rfl | skip)
    · refine soft (by decide) ?_
      intro o ac wa g ho hoff hv hS hdn
      exact (x_move (op_is rfl ho)).trans (by rw [((hoff 1 (by decide)).trans x1)]; rfl)
    · refine soft (by decide) ?_
      intro o ac wa g ho hoff hv hS hdn
      exact x_load (op_is rfl ho) (by rw [((hoff 5 (by decide)).trans x5)]; exact (hc _ _ _ hS.ph).2)
    · intro o ac wa g K ho hd _ hoff hv hS hpre hnd hlater hK
      have h1 : g.1 ≤ 0 := by have := hnd (by simp); simpa [doneP, List.idxOf, List.findIdx, List.findIdx.go] using this
      have hg : g.1 = 0 := by omega
      obtain ⟨g1, u⟩ := g
      simp only at hg
      subst hg
      refine l_callE (op_is rfl ho) (xs := #[pa p 0, .pointer none, (Value.agg #[.int .i64 xa, .int .i64 xb, .int .i64 xc, .int .i64 xd]), .int .i64 0]) (by simp only [List.map_toArray, List.map_cons, List.map_nil]; rw [(hv 3 16 rfl (by kernel_rfl)), (hv 4 17 rfl (by kernel_rfl)), (hv 5 18 rfl (by kernel_rfl))]; rfl) Try.func31 (by kernel_rfl) rfl (hL0 u wa hS.ph) ?_
      rintro e w' ⟨rfl, hp⟩
      refine ⟨_, rfl, ?_⟩
      rw [hd]
      refine hK (1, u) w' ⟨by simp, hp⟩ (by intro x hx; simp at hx; subst hx; simp [doneP, List.idxOf, List.findIdx, List.findIdx.go]) fun j hj hr => ?_
      match j, hr with
      | 0, _ => rfl
      | 1, _ => rfl
      | 2, _ => rfl
      | 3, _ => rfl
      | 4, _ => rfl
      | 5, _ => rfl
      | 6, _ => exact absurd rfl hj
      | 7, _ => rfl
      | 8, _ => rfl
      | 9, _ => rfl
      | 10, _ => rfl
      | 11, _ => rfl
      | q + 12, _ => rfl
    · refine soft (by decide) ?_
      intro o ac wa g ho hoff hv hS hdn
      exact (x_move (op_is rfl ho)).trans (by rw [(hv 6 19 rfl (by kernel_rfl))]; rfl)
    · refine soft (by decide) ?_
      intro o ac wa g ho hoff hv hS hdn
      exact x_extrQ (op_is rfl ho) ((hv 7 12 rfl (by kernel_rfl))) rfl
    · refine soft (by decide) ?_
      intro o ac wa g ho hoff hv hS hdn
      exact x_extrQ (op_is rfl ho) ((hv 7 12 rfl (by kernel_rfl))) rfl
    · refine soft (by decide) ?_
      intro o ac wa g ho hoff hv hS hdn
      exact (x_assign (op_is rfl ho)).trans (by rw [(hv 8 20 rfl (by kernel_rfl))]; rfl)
    · refine soft (by decide) ?_
      intro o ac wa g ho hoff hv hS hdn
      exact (x_assign (op_is rfl ho)).trans (by rw [(hv 9 21 rfl (by kernel_rfl))]; rfl)
  · intro a' w' g hsz hdf hoff hS hdn hval
    obtain ⟨g1, u⟩ := g
    have hg : g1 = 1 := by have h := hdn 6 (by simp); simp [doneP, List.idxOf, List.findIdx, List.findIdx.go] at h; have := hS.le; simp only at this; omega
    subst hg
    exact hEnd a' w' u hsz hdf (fun s hs => ev_same (hoff s hs)) (hval 10 8 rfl) (hval 11 9 rfl) hS.ph
def push_r1V (cb p : Nat) (xa xb xc xd r1 r2 old : Int) : Nat × (Nat → Value) → Nat → Value := fun _ j => match j with | 0 => (pa cb 0) | 1 => (pa cb 0) | 2 => (pa cb 0) | 3 => (pa p 0) | 4 => (Value.pointer none) | 5 => (Value.agg #[.int .i64 xa, .int .i64 xb, .int .i64 xc, .int .i64 xd]) | 6 => (Value.int IntKind.i64 old) | 7 => (Value.tuple #[.int .i64 r1, .int .i64 r2]) | 8 => (Value.tuple #[.int .i64 r1, .int .i64 r2]) | 9 => (.int .i64 r1) | 10 => (.int .i64 r2) | 11 => (.int .i64 r1) | 12 => (.int .i64 r2) | _ => undef
set_option maxRecDepth 100000 in
set_option maxHeartbeats 1600000 in
theorem push_r1 {cb p nb : Nat} {xa xb xc xd r1 r2 old : Int} {Ph : Nat → (Nat → Value) → World → Prop} {K : Act → World → Prop} {Q : Exit → Act → World → Prop} {a0 : Act} {w : World} (hs : a0.tmps.size = 55) (x0 : a0.eval (.tmp 0) = pa cb 0) (x1 : a0.eval (.tmp 1) = .pointer none) (x2 : a0.eval (.tmp 2) = .int .i64 old) (x8 : a0.eval (.tmp 8) = pa nb 0) (hc : ∀ g u x, Ph g u x → x.cell? ⟨cb, 0, none⟩ = some (pa p 0) ∧ (Instr.loadAt 39 (pa nb 0)).run Try.prog x = .ok (Value.agg #[.int .i64 xa, .int .i64 xb, .int .i64 xc, .int .i64 xd]) x) (hA : Ph 0 (fun _ => undef) w.drew)
    (hL0 : ∀ u x, Ph 0 u x → Calls Try.prog 31 #[pa p 0, .pointer none, (Value.agg #[.int .i64 xa, .int .i64 xb, .int .i64 xc, .int .i64 xd]), .int .i64 old] x fun e w' => e = .returned (Value.tuple #[.int .i64 r1, .int .i64 r2]) ∧ Ph 1 u w')
    (hEnd : ∀ a' x u, a'.tmps.size = a0.tmps.size → a'.defers = a0.defers → (∀ s, some s ∉ ([some 18, some 19, some 20, some 21, some 22, some 23, some 24, some 25, some 17, some 26, some 27, some 13, some 14] : List (Option Nat)) → a'.eval (.tmp s) = a0.eval (.tmp s)) → a'.eval (.tmp 13) = (.int .i64 r1) → a'.eval (.tmp 14) = (.int .i64 r2) → Ph 1 u x → K a' x) : (Code.region 1 (opsR 1 Try.f11.body) true).wp Try.prog (Exit.then K Q) a0 w := by
  refine wp_region_ghost3 (G := Nat × (Nat → Value)) (by kernel_rfl) [some 18, some 19, some 20, some 21, some 22, some 23, some 24, some 25, some 17, some 26, some 27, some 13, some 14] (by rw [hs]; kernel_rfl) (push_r1V cb p xa xb xc xd r1 r2 old) [7] ?_ (doneP [7]) (StP 1 Ph) ((0, fun _ => undef)) (⟨Nat.zero_le _, hA⟩) (by intro x hx; simp at hx; subst hx; rfl) (by decide) ?_ ?_
  · intro i g b h γ
    have hi : i < 13 := by
      apply Classical.byContradiction
      intro hn
      rw [show (opsR 1 Try.f11.body)[i]? = none from Array.getElem?_eq_none (by have : (opsR 1 Try.f11.body).size = 13 := (by kernel_rfl); omega)] at h
      cases h
    rcases (by omega : i = 0 ∨ i = 1 ∨ i = 2 ∨ i = 3 ∨ i = 4 ∨ i = 5 ∨ i = 6 ∨ i = 7 ∨ i = 8 ∨ i = 9 ∨ i = 10 ∨ i = 11 ∨ i = 12) with rfl | rfl | rfl | rfl | rfl | rfl | rfl | rfl | rfl | rfl | rfl | rfl | rfl
    · rw [show ((opsR 1 Try.f11.body)[0]?).bind (fun o : Oper => o.guard) = none from by kernel_rfl] at h
      cases h
    · rw [show ((opsR 1 Try.f11.body)[1]?).bind (fun o : Oper => o.guard) = none from by kernel_rfl] at h
      cases h
    · rw [show ((opsR 1 Try.f11.body)[2]?).bind (fun o : Oper => o.guard) = none from by kernel_rfl] at h
      cases h
    · rw [show ((opsR 1 Try.f11.body)[3]?).bind (fun o : Oper => o.guard) = none from by kernel_rfl] at h
      cases h
    · rw [show ((opsR 1 Try.f11.body)[4]?).bind (fun o : Oper => o.guard) = none from by kernel_rfl] at h
      cases h
    · rw [show ((opsR 1 Try.f11.body)[5]?).bind (fun o : Oper => o.guard) = none from by kernel_rfl] at h
      cases h
    · rw [show ((opsR 1 Try.f11.body)[6]?).bind (fun o : Oper => o.guard) = none from by kernel_rfl] at h
      cases h
    · rw [show ((opsR 1 Try.f11.body)[7]?).bind (fun o : Oper => o.guard) = none from by kernel_rfl] at h
      cases h
    · rw [show ((opsR 1 Try.f11.body)[8]?).bind (fun o : Oper => o.guard) = none from by kernel_rfl] at h
      cases h
    · rw [show ((opsR 1 Try.f11.body)[9]?).bind (fun o : Oper => o.guard) = none from by kernel_rfl] at h
      cases h
    · rw [show ((opsR 1 Try.f11.body)[10]?).bind (fun o : Oper => o.guard) = none from by kernel_rfl] at h
      cases h
    · rw [show ((opsR 1 Try.f11.body)[11]?).bind (fun o : Oper => o.guard) = none from by kernel_rfl] at h
      cases h
    · rw [show ((opsR 1 Try.f11.body)[12]?).bind (fun o : Oper => o.guard) = none from by kernel_rfl] at h
      cases h
  · intro i hi hgd
    rcases (by simp at hi; omega : i = 0 ∨ i = 1 ∨ i = 2 ∨ i = 3 ∨ i = 4 ∨ i = 5 ∨ i = 6 ∨ i = 7 ∨ i = 8 ∨ i = 9 ∨ i = 10 ∨ i = 11 ∨ i = 12) with rfl | rfl | rfl | rfl | rfl | rfl | rfl | rfl | rfl | rfl | rfl | rfl | rfl
    · refine soft (by decide) ?_
      intro o ac wa g ho hoff hv hS hdn
      exact (x_move (op_is rfl ho)).trans (by rw [((hoff 0 (by decide)).trans x0)]; rfl)
    · refine soft (by decide) ?_
      intro o ac wa g ho hoff hv hS hdn
      exact x_nil (op_is rfl ho) ((hv 0 18 rfl (by kernel_rfl)))
    · refine soft (by decide) ?_
      intro o ac wa g ho hoff hv hS hdn
      exact x_field (op_is rfl ho) (by rw [(hv 1 19 rfl (by kernel_rfl))]; show (Instr.fieldAt _ (pa _ _) _).run _ _ = .ok (pa _ _) _; unfold pa; go_simp)
    · refine soft (by decide) ?_
      intro o ac wa g ho hoff hv hS hdn
      have hc := (hc _ _ _ hS.ph).1
      exact x_load (op_is rfl ho) (by rw [(hv 2 20 rfl (by kernel_rfl))]; show (Instr.loadAt _ (pa _ _)).run _ _ = _; unfold pa; go_simp; first | rfl | skip)
    · refine soft (by decide) ?_
      intro o ac wa g ho hoff hv hS hdn
      exact (x_move (op_is rfl ho)).trans (by rw [((hoff 1 (by decide)).trans x1)]; rfl)
    · refine soft (by decide) ?_
      intro o ac wa g ho hoff hv hS hdn
      exact x_load (op_is rfl ho) (by rw [((hoff 8 (by decide)).trans x8)]; exact (hc _ _ _ hS.ph).2)
    · refine soft (by decide) ?_
      intro o ac wa g ho hoff hv hS hdn
      exact (x_move (op_is rfl ho)).trans (by rw [((hoff 2 (by decide)).trans x2)]; rfl)
    · intro o ac wa g K ho hd _ hoff hv hS hpre hnd hlater hK
      have h1 : g.1 ≤ 0 := by have := hnd (by simp); simpa [doneP, List.idxOf, List.findIdx, List.findIdx.go] using this
      have hg : g.1 = 0 := by omega
      obtain ⟨g1, u⟩ := g
      simp only at hg
      subst hg
      refine l_callE (op_is rfl ho) (xs := #[pa p 0, .pointer none, (Value.agg #[.int .i64 xa, .int .i64 xb, .int .i64 xc, .int .i64 xd]), .int .i64 old]) (by simp only [List.map_toArray, List.map_cons, List.map_nil]; rw [(hv 3 21 rfl (by kernel_rfl)), (hv 4 22 rfl (by kernel_rfl)), (hv 5 23 rfl (by kernel_rfl)), (hv 6 24 rfl (by kernel_rfl))]; rfl) Try.func31 (by kernel_rfl) rfl (hL0 u wa hS.ph) ?_
      rintro e w' ⟨rfl, hp⟩
      refine ⟨_, rfl, ?_⟩
      rw [hd]
      refine hK (1, u) w' ⟨by simp, hp⟩ (by intro x hx; simp at hx; subst hx; simp [doneP, List.idxOf, List.findIdx, List.findIdx.go]) fun j hj hr => ?_
      match j, hr with
      | 0, _ => rfl
      | 1, _ => rfl
      | 2, _ => rfl
      | 3, _ => rfl
      | 4, _ => rfl
      | 5, _ => rfl
      | 6, _ => rfl
      | 7, _ => exact absurd rfl hj
      | 8, _ => rfl
      | 9, _ => rfl
      | 10, _ => rfl
      | 11, _ => rfl
      | 12, _ => rfl
      | q + 13, _ => rfl
    · refine soft (by decide) ?_
      intro o ac wa g ho hoff hv hS hdn
      exact (x_move (op_is rfl ho)).trans (by rw [(hv 7 25 rfl (by kernel_rfl))]; rfl)
    · refine soft (by decide) ?_
      intro o ac wa g ho hoff hv hS hdn
      exact x_extrQ (op_is rfl ho) ((hv 8 17 rfl (by kernel_rfl))) rfl
    · refine soft (by decide) ?_
      intro o ac wa g ho hoff hv hS hdn
      exact x_extrQ (op_is rfl ho) ((hv 8 17 rfl (by kernel_rfl))) rfl
    · refine soft (by decide) ?_
      intro o ac wa g ho hoff hv hS hdn
      exact (x_assign (op_is rfl ho)).trans (by rw [(hv 9 26 rfl (by kernel_rfl))]; rfl)
    · refine soft (by decide) ?_
      intro o ac wa g ho hoff hv hS hdn
      exact (x_assign (op_is rfl ho)).trans (by rw [(hv 10 27 rfl (by kernel_rfl))]; rfl)
  · intro a' w' g hsz hdf hoff hS hdn hval
    obtain ⟨g1, u⟩ := g
    have hg : g1 = 1 := by have h := hdn 7 (by simp); simp [doneP, List.idxOf, List.findIdx, List.findIdx.go] at h; have := hS.le; simp only at this; omega
    subst hg
    exact hEnd a' w' u hsz hdf (fun s hs => ev_same (hoff s hs)) (hval 11 13 rfl) (hval 12 14 rfl) hS.ph
end Go.Proofs.Ytaaibhgbkdnlbaa
/- A frame, spelled out. -/
namespace Go.Proofs.Ytaaibhgbkdnlbaa
open Go.RowKit
def lit44 (c : Nat → Value) : Array Value := #[c 0, c 1, c 2, c 3, c 4, c 5, c 6, c 7, c 8, c 9, c 10, c 11, c 12, c 13, c 14, c 15, c 16, c 17, c 18, c 19, c 20, c 21, c 22, c 23, c 24, c 25, c 26, c 27, c 28, c 29, c 30, c 31, c 32, c 33, c 34, c 35, c 36, c 37, c 38, c 39, c 40, c 41, c 42, c 43]
set_option maxRecDepth 100000 in
theorem lit44_eq (c : Nat → Value) : lit44 c = ((List.range 44).map c).toArray := by rfl
theorem expand44 {a : Act} (hs : a.tmps.size = 44) (hd : a.defers = []) : ∃ c : Nat → Value, a = ⟨lit44 c, []⟩ ∧ ∀ s, c s = a.eval (.tmp s) := by
  refine ⟨fun s => a.tmps.getD s undef, ?_, fun s => rfl⟩
  obtain ⟨t, d⟩ := a
  simp only at hs hd
  subst hd
  congr 1
  rw [lit44_eq]
  refine Array.ext (by simp [hs]) fun i h1 h2 => ?_
  simp [Array.getD, h1]
theorem expand44d {a : Act} {ds : List Deferred} (hs : a.tmps.size = 44) (hd : a.defers = ds) : ∃ c : Nat → Value, a = ⟨lit44 c, ds⟩ ∧ ∀ s, c s = a.eval (.tmp s) := by
  refine ⟨fun s => a.tmps.getD s undef, ?_, fun s => rfl⟩
  obtain ⟨t, d⟩ := a
  simp only at hs hd
  subst hd
  congr 1
  rw [lit44_eq]
  refine Array.ext (by simp [hs]) fun i h1 h2 => ?_
  simp [Array.getD, h1]
end Go.Proofs.Ytaaibhgbkdnlbaa
/- A frame, spelled out. -/
namespace Go.Proofs.Ytaaibhgbkdnlbaa
open Go.RowKit
def lit55 (c : Nat → Value) : Array Value := #[c 0, c 1, c 2, c 3, c 4, c 5, c 6, c 7, c 8, c 9, c 10, c 11, c 12, c 13, c 14, c 15, c 16, c 17, c 18, c 19, c 20, c 21, c 22, c 23, c 24, c 25, c 26, c 27, c 28, c 29, c 30, c 31, c 32, c 33, c 34, c 35, c 36, c 37, c 38, c 39, c 40, c 41, c 42, c 43, c 44, c 45, c 46, c 47, c 48, c 49, c 50, c 51, c 52, c 53, c 54]
set_option maxRecDepth 100000 in
theorem lit55_eq (c : Nat → Value) : lit55 c = ((List.range 55).map c).toArray := by rfl
theorem expand55 {a : Act} (hs : a.tmps.size = 55) (hd : a.defers = []) : ∃ c : Nat → Value, a = ⟨lit55 c, []⟩ ∧ ∀ s, c s = a.eval (.tmp s) := by
  refine ⟨fun s => a.tmps.getD s undef, ?_, fun s => rfl⟩
  obtain ⟨t, d⟩ := a
  simp only at hs hd
  subst hd
  congr 1
  rw [lit55_eq]
  refine Array.ext (by simp [hs]) fun i h1 h2 => ?_
  simp [Array.getD, h1]
theorem expand55d {a : Act} {ds : List Deferred} (hs : a.tmps.size = 55) (hd : a.defers = ds) : ∃ c : Nat → Value, a = ⟨lit55 c, ds⟩ ∧ ∀ s, c s = a.eval (.tmp s) := by
  refine ⟨fun s => a.tmps.getD s undef, ?_, fun s => rfl⟩
  obtain ⟨t, d⟩ := a
  simp only at hs hd
  subst hd
  congr 1
  rw [lit55_eq]
  refine Array.ext (by simp [hs]) fun i h1 h2 => ?_
  simp [Array.getD, h1]
end Go.Proofs.Ytaaibhgbkdnlbaa
/- Package chain's First, Push, Cut, ahead by contract. -/
namespace Go.Proofs.Ytaaibhgbkdnlbaa
open Go.RowKit
abbrev nodeO (xa xb xc xd : Int) : Obj := .cells #[.int .i64 xa, .int .i64 xb, .int .i64 xc, .int .i64 xd] 39 (0, 0)
theorem load_node {w : World} {b : Nat} {xa xb xc xd : Int} (h : w.heap[b]? = some (nodeO xa xb xc xd)) : (Instr.loadAt 39 (pa b 0)).run Try.prog w = .ok (.agg #[.int .i64 xa, .int .i64 xb, .int .i64 xc, .int .i64 xd]) w := by
  have c0 := cell_at h 0
  have c1 := cell_at h 1
  have c2 := cell_at h 2
  have c3 := cell_at h 3
  unfold pa
  go_simp
section
variable {w : World} {p kb c sb i : Nat} {F : List Nat} {s : PSt} {now head : Int} {kv : Value} {S : Nat → Option SRec}
set_option maxRecDepth 100000 in
set_option maxHeartbeats 1600000 in
theorem cFirst (H : CA w p kb F s now kv c sb 0 S) (hO : s.Ok) (hi : idxV s.h = i) (h1 : 1 ≤ i) (h2 : i ≤ s.n) (g0 : 0 ≤ (s.slot i).gen) (g1 : (s.slot i).gen ≤ 1000000000) (g2 : (s.slot i).gen % 2 = 0) (xa xb xc xd : Int) :
    Calls Try.prog 10 #[pp c, .pointer none, .agg #[.int .i64 xa, .int .i64 xb, .int .i64 xc, .int .i64 xd]] w fun e w' => e = .returned (.tuple #[.int .i64 (hnd i ((s.slot i).gen + 1)), .int .i64 0]) ∧ Turned (c :: F) w w' ∧ ∃ F', CA w' p kb F' ((s.take i xa xb xc xd 0).putMark i 1) now kv c sb (hnd i ((s.slot i).gen + 1)) S ∧ Wider F F' w := by
  have HTk : Hid (∀ x, PoolAt x p F s → Calls Try.prog 31 #[pa p 0, .pointer none, .agg #[.int .i64 xa, .int .i64 xb, .int .i64 xc, .int .i64 xd], .int .i64 0] x fun e w' => e = .returned (.tuple #[.int .i64 (hnd i ((s.slot i).gen + 1)), .int .i64 0]) ∧ Turned F x w' ∧ ∃ F', PoolAt w' p F' (s.take i xa xb xc xd 0) ∧ Wider F F' x) := fun x hx => poolLaws.take hx hO hi (by omega) g0 (by omega) xa xb xc xd 0
  have hsl : (s.take i xa xb xc xd 0).slot i = ⟨(s.slot i).gen + 1, 0, 0, xa, xb, xc, xd⟩ := upd_same _ _ _
  have HCm : Hid (∀ x F', PoolAt x p F' (s.take i xa xb xc xd 0) → Calls Try.prog 32 #[.pointer (some ⟨p, 0, none⟩), .pointer none, .int .i64 (hnd i ((s.slot i).gen + 1)), .int .i64 0, .int .i64 1] x fun e w' => e = .returned (.tuple #[.bool true, .int .i64 0]) ∧ Turned F' x w' ∧ PoolAt w' p F' ((s.take i xa xb xc xd 0).putMark i 1)) := fun x F' hx => by
    have := poolLaws.casMark (g := (s.slot i).gen + 1) hx (hO.take h2 _ _ _ _ _) h1 h2 (by omega) (by omega) (by omega) (by rw [hsl]) 0 1
    rw [hsl] at this
    simpa using this
  have HH : Hid (CA w p kb F s now kv c sb 0 S) := H
  have hcl := lt_of_heap H.obj
  generalize hnd i ((s.slot i).gen + 1) = h at *
  clear H hi g0 g1 g2 hsl
  go_enter Try.func10, Try.ntmps10
  go_wp2
  rename_i Kr hKr
  have tA : Turned [] w (w.alloc (nodeO xa xb xc xd)) := (Turned.refl _ _).alloc _
  have hA0 := HH.out.still tA
  have hnb := blk_new w (nodeO xa xb xc xd)
  have hsz : (w.alloc (nodeO xa xb xc xd)).heap.size = w.heap.size + 1 := by simp
  have HW : Hid _ := tA
  generalize hw0 : w.alloc (nodeO xa xb xc xd) = w0 at *
  have nF : w.heap.size ∉ F := poolAt_other hA0.pool hnb (by decide)
  refine first_r1 (cb := c) (p := p) (nb := w.heap.size) (xa := xa) (xb := xb) (xc := xc) (xd := xd) (r1 := h) (r2 := 0) (Ph := fun k _ y => (y.cell? ⟨c, 0, none⟩ = some (pa p 0) ∧ y.heap[w.heap.size]? = some (nodeO xa xb xc xd)) ∧ (k = 0 → Turned [] w0 y) ∧ (k = 1 → Turned F w0 y ∧ ∃ F', PoolAt y p F' (s.take i xa xb xc xd 0) ∧ Wider F F' w)) rfl rfl rfl rfl (fun k u y h => ⟨h.1.1, load_node h.1.2⟩) ⟨⟨hA0.c0, hnb⟩, fun _ => (Turned.refl _ _).drew, fun h => by cases h⟩ ?_ ?_
  · rintro u y ⟨hb, ht, -⟩
    have ht0 := ht rfl
    refine (HTk.out y (hA0.pool.still ht0)).mono ?_
    rintro e z ⟨rfl, hz, F', hA', hW'⟩
    have tz : Turned F w0 z := (ht0.mono (by simp)).trans hz
    refine ⟨rfl, ⟨?_, tz.heap hnb nF⟩, (fun h => by cases h), fun _ => ⟨tz, F', hA', fun x hx => (hW' x hx).imp id (fun q => by have := ht0.size; omega)⟩⟩
    exact tz.cell hA0.c0 hA0.nc
  · rintro a1 y u hs hd hoff x8 x9 ⟨-, -, h2'⟩
    obtain ⟨tz, F', hA', hW'⟩ := h2' rfl
    have hA1 : CA y p kb F' (s.take i xa xb xc xd 0) now kv c sb 0 S := hA0.step tz hA' rfl
    have x0 : a1.eval (.tmp 0) = .pointer (some ⟨c, 0, none⟩) := hoff 0 (by decide)
    have x1 : a1.eval (.tmp 1) = .pointer none := hoff 1 (by decide)
    have d0 := hA1.c0
    have HA1 : Hid _ := hA1
    have HT1 : Hid (Turned F w y ∧ Wider F F' w) := ⟨(HW.out.mono (by simp)).trans tz, hW'⟩
    obtain ⟨cc, hcc, hce⟩ := expand44 (hs.trans rfl) (hd.trans rfl)
    have e0 := (hce 0).trans x0
    have e1 := (hce 1).trans x1
    have e8 := (hce 8).trans x8
    have e9 := (hce 9).trans x9
    refine hKr _ _ ?_
    clear hKr hce hs hd hoff x0 x1 x8 x9 h2' tz hA' hW' hA1 hA0 hnb nF HW hw0 hsz
    subst hcc
    simp only [lit44, e0, e1, e8, e9]
    clear e0 e1 e8 e9
    go_wp2_with (first
      | (go_at_call 32; refine (HCm.out _ _ HA1.out.pool).mono ?_; rintro e y2 ⟨rfl, ht2, hA2⟩; have HA2 : Hid _ := HA1.out.step ht2 hA2 rfl; have HT2 : Hid _ := ht2; clear ht2 hA2)
      | (go_at_call 33; refine (cPublish HA2.out _).mono ?_; rintro e y3 ⟨rfl, hw3⟩; have HW3 : Hid _ := hw3; clear hw3))
    go_ret2
    rw [HW3.out]
    refine ⟨rfl, ?_, F', HA2.out.put _, HT1.out.2⟩
    refine Turned.set (Turned.inner (l := c :: F) (HT1.out.1.mono (fun z hz => by simp [hz])) HT2.out (fun z hz => ?_)) (.inl (by simp)) _ _
    rcases HT1.out.2 z hz with h | h
    · exact .inl (by simp [h])
    · exact .inr h
/-- What a Push that takes a slot leaves, ahead of its being published. -/
structure Kept (s : PSt) (S S' : Nat → Option SRec) (i : Nat) (h : Int) (l : List Int) : Prop where
  nil : l = [] → S' = upd S i none
  full : l ≠ [] → ∃ r, S' = upd S i (some r) ∧ r.h = h ∧ r.l = l
theorem cKeepAll (H : CA w p kb F s now kv c sb head S) (hn : s.n ≤ 4096) (h2 : i ≤ s.n) {g : Int} (g0 : 0 ≤ g) (g1 : g < 1099511627776) {v : Value} {l : List Int} (hv : IV w v l) (hl : l.length ≤ 10000) :
    Calls Try.prog 34 #[.slice (some ⟨sb, 0, none⟩) (s.n + 1) (s.n + 1), .int .i64 (hnd i g), v] w fun e w' => e = .returned (.tuple #[]) ∧ Turned [sb] w w' ∧ ∃ S', CA w' p kb F s now kv c sb head S' ∧ Kept s S S' i (hnd i g) l ∧ (∀ r, S' i = some r → w.heap.size ≤ r.b ∧ w.heap.size ≤ r.g) := by
  by_cases hne : l = []
  · subst hne
    refine (cKeepNone (i := i) (g := g) H.sets hn h2 g0 g1 hv).mono ?_
    rintro e w' ⟨rfl, rfl⟩
    have ht : Turned [sb] w (w.setCell ⟨sb, i, none⟩ (.pointer none)) := (Turned.refl _ _).set (.inl (by simp)) _ _
    exact ⟨rfl, ht, _, H.turn ht (H.sets.out i), ⟨fun _ => rfl, fun h => absurd rfl h⟩, fun r hr => by rw [upd_same] at hr; cases hr⟩
  · refine (cKeepSome (i := i) (g := g) H.sets hn h2 g0 g1 hv hne hl).mono ?_
    rintro e w' ⟨rfl, ht, r, hs, e1, e2, e3, e4⟩
    exact ⟨rfl, ht, _, H.turn ht hs, ⟨fun h => absurd h hne, fun _ => ⟨r, rfl, e1, e2⟩⟩, fun q hq => by rw [upd_same] at hq; cases hq; exact ⟨e3, e4⟩⟩
end
end Go.Proofs.Ytaaibhgbkdnlbaa
/- Package chain's Push by contract. (Written by tools/gen/genpush2.py.) -/
namespace Go.Proofs.Ytaaibhgbkdnlbaa
open Go.RowKit
theorem Kept.own {s : PSt} {S S' : Nat → Option SRec} {i : Nat} {h : Int} {l : List Int} (k : Kept s S S' i h l) : ∀ r, S' i = some r → r.h = h := fun r hr => by
  by_cases e : l = []
  · rw [k.nil e, upd_same] at hr; cases hr
  · obtain ⟨q, hq, e1, -⟩ := k.full e
    rw [hq, upd_same] at hr
    cases hr
    exact e1
theorem upd_twice {α : Type} (f : Nat → α) (k : Nat) (x y : α) : upd (upd f k x) k y = upd f k y := by
  funext j; unfold upd; by_cases e : j = k <;> simp [e]
theorem Kept.gone {s : PSt} {S S' : Nat → Option SRec} {i : Nat} {h : Int} {l : List Int} (k : Kept s S S' i h l) : upd S' i none = upd S i none := by
  by_cases e : l = []
  · rw [k.nil e, upd_twice]
  · obtain ⟨q, hq, -⟩ := k.full e
    rw [hq, upd_twice]
section
variable {w : World} {p kb c sb i : Nat} {F : List Nat} {s : PSt} {now head : Int} {kv : Value} {S : Nat → Option SRec} {v : Value} {l : List Int}
set_option maxRecDepth 100000 in
set_option maxHeartbeats 1600000 in
theorem cPushFull (H : CA w p kb F s now kv c sb head S) (hO : s.Ok) (hi : idxV s.h = 0) (hv : ∃ va vl vc, v = .slice va vl vc) (old xa xb xc xd : Int) :
    Calls Try.prog 11 #[pp c, .pointer none, .int .i64 old, .agg #[.int .i64 xa, .int .i64 xb, .int .i64 xc, .int .i64 xd], v] w fun e w' => e = .returned (.tuple #[.int .i64 0, .bool false, .int .i64 102]) ∧ Turned F w w' ∧ CA w' p kb F s now kv c sb head S := by
  have HTk : Hid (∀ x, PoolAt x p F s → Calls Try.prog 31 #[pa p 0, .pointer none, .agg #[.int .i64 xa, .int .i64 xb, .int .i64 xc, .int .i64 xd], .int .i64 old] x fun e w' => e = .returned (.tuple #[.int .i64 0, .int .i64 102]) ∧ Turned F x w' ∧ PoolAt w' p F s) := fun x hx => poolLaws.takeFull hx hO hi xa xb xc xd old
  have HH : Hid (CA w p kb F s now kv c sb head S) := H
  obtain ⟨va, vl, vc, rfl⟩ := hv
  clear H hi hO
  go_enter Try.func11, Try.ntmps11
  go_wp2
  rename_i Kr hKr
  have tA : Turned [] w (w.alloc (nodeO xa xb xc xd)) := (Turned.refl _ _).alloc _
  have hA0 := HH.out.still tA
  have hnb := blk_new w (nodeO xa xb xc xd)
  have hsz : (w.alloc (nodeO xa xb xc xd)).heap.size = w.heap.size + 1 := by simp
  have HW : Hid _ := tA
  generalize hw0 : w.alloc (nodeO xa xb xc xd) = w0 at *
  have nF : w.heap.size ∉ F := poolAt_other hA0.pool hnb (by decide)
  refine push_r1 (cb := c) (p := p) (nb := w.heap.size) (xa := xa) (xb := xb) (xc := xc) (xd := xd) (r1 := 0) (r2 := 102) (old := old) (Ph := fun k _ y => (y.cell? ⟨c, 0, none⟩ = some (pa p 0) ∧ y.heap[w.heap.size]? = some (nodeO xa xb xc xd)) ∧ (k = 0 → Turned [] w0 y) ∧ (k = 1 → Turned F w0 y ∧ PoolAt y p F s)) rfl rfl rfl rfl rfl (fun k u y h => ⟨h.1.1, load_node h.1.2⟩) ⟨⟨hA0.c0, hnb⟩, fun _ => (Turned.refl _ _).drew, fun h => by cases h⟩ ?_ ?_
  · rintro u y ⟨hb, ht, -⟩
    have ht0 := ht rfl
    refine (HTk.out y (hA0.pool.still ht0)).mono ?_
    rintro e z ⟨rfl, hz, hA'⟩
    have tz : Turned F w0 z := (ht0.mono (by simp)).trans hz
    exact ⟨rfl, ⟨tz.cell hA0.c0 hA0.nc, tz.heap hnb nF⟩, (fun h => by cases h), fun _ => ⟨tz, hA'⟩⟩
  · rintro a1 y u hs hd hoff x13 x14 ⟨-, -, h2'⟩
    obtain ⟨tz, hA'⟩ := h2' rfl
    have HF : Hid (Turned F w y ∧ CA y p kb F s now kv c sb head S) := ⟨(HW.out.mono (by simp)).trans tz, hA0.step tz hA' rfl⟩
    obtain ⟨cc, hcc, hce⟩ := expand55 (hs.trans rfl) (hd.trans rfl)
    have e13 := (hce 13).trans x13
    have e14 := (hce 14).trans x14
    refine hKr _ _ ?_
    clear hKr hce hs hd hoff x13 x14 h2' tz hA' hA0 hnb nF HW hw0 hsz
    subst hcc
    simp only [lit55, e13, e14]
    clear e13 e14
    go_wp2
    go_ret3
    exact ⟨rfl, HF.out.1, HF.out.2⟩
set_option maxRecDepth 100000 in
set_option maxHeartbeats 1600000 in
theorem cPushOk (H : CA w p kb F s now kv c sb head S) (hO : s.Ok) (hi : idxV s.h = i) (h1 : 1 ≤ i) (h2 : i ≤ s.n) (g0 : 0 ≤ (s.slot i).gen) (g1 : (s.slot i).gen ≤ 1000000000) (g2 : (s.slot i).gen % 2 = 0) (hv : IV w v l) (hvF : ∀ b, v.ownBlock = some b → b ∉ F) (hl : l.length ≤ 10000) (xa xb xc xd : Int) :
    Calls Try.prog 11 #[pp c, .pointer none, .int .i64 head, .agg #[.int .i64 xa, .int .i64 xb, .int .i64 xc, .int .i64 xd], v] w fun e w' => e = .returned (.tuple #[.int .i64 (hnd i ((s.slot i).gen + 1)), .bool true, .int .i64 0]) ∧ Turned (c :: sb :: F) w w' ∧ ∃ F' S', CA w' p kb F' ((s.take i xa xb xc xd head).putMark i now) now kv c sb (hnd i ((s.slot i).gen + 1)) S' ∧ Wider F F' w ∧ Kept s S S' i (hnd i ((s.slot i).gen + 1)) l ∧ (∀ r, S' i = some r → w.heap.size ≤ r.b ∧ w.heap.size ≤ r.g) := by
  have HTk : Hid (∀ x, PoolAt x p F s → Calls Try.prog 31 #[pa p 0, .pointer none, .agg #[.int .i64 xa, .int .i64 xb, .int .i64 xc, .int .i64 xd], .int .i64 head] x fun e w' => e = .returned (.tuple #[.int .i64 (hnd i ((s.slot i).gen + 1)), .int .i64 0]) ∧ Turned F x w' ∧ ∃ F', PoolAt w' p F' (s.take i xa xb xc xd head) ∧ Wider F F' x) := fun x hx => poolLaws.take hx hO hi (by omega) g0 (by omega) xa xb xc xd head
  have hsl : (s.take i xa xb xc xd head).slot i = ⟨(s.slot i).gen + 1, 0, head, xa, xb, xc, xd⟩ := upd_same _ _ _
  have hO2 : (s.take i xa xb xc xd head).Ok := hO.take h2 _ _ _ _ _
  have hn2 := hO.n2
  have HKp : Hid (∀ x F' S0, CA x p kb F' (s.take i xa xb xc xd head) now kv c sb head S0 → IV x v l → Calls Try.prog 34 #[.slice (some ⟨sb, 0, none⟩) (s.n + 1) (s.n + 1), .int .i64 (hnd i ((s.slot i).gen + 1)), v] x fun e w' => e = .returned (.tuple #[]) ∧ Turned [sb] x w' ∧ ∃ S', CA w' p kb F' (s.take i xa xb xc xd head) now kv c sb head S' ∧ Kept (s.take i xa xb xc xd head) S0 S' i (hnd i ((s.slot i).gen + 1)) l ∧ (∀ r, S' i = Option.some r → x.heap.size ≤ r.b ∧ x.heap.size ≤ r.g)) := fun x F' S0 hx hvx => cKeepAll hx hn2 h2 (by omega) (by omega) hvx hl
  have HSt : Hid (∀ x F' hd S0, CA x p kb F' (s.take i xa xb xc xd head) now kv c sb hd S0 → Calls Try.prog 28 #[pp c, .pointer none, .int .i64 (hnd i ((s.slot i).gen + 1))] x fun e w' => e = .returned (.tuple #[.int .i64 now, .int .i64 0]) ∧ Turned F' x w' ∧ CA w' p kb F' ((s.take i xa xb xc xd head).putMark i now) now kv c sb hd S0) := fun x F' hd S0 hx => cSettleNew hx hO2 h1 h2 (by omega) (by omega) (by omega) (by rw [hsl]) (by rw [hsl])
  have HH : Hid (CA w p kb F s now kv c sb head S) := H
  have HV : Hid _ := hv
  obtain ⟨va, vc, rfl, -⟩ := hv.ex
  have hcl := lt_of_heap H.obj
  generalize hnd i ((s.slot i).gen + 1) = h at *
  clear H hi g0 g1 g2 hsl hv
  go_enter Try.func11, Try.ntmps11
  go_wp2
  rename_i Kr hKr
  have tA : Turned [] w (w.alloc (nodeO xa xb xc xd)) := (Turned.refl _ _).alloc _
  have hA0 := HH.out.still tA
  have hnb := blk_new w (nodeO xa xb xc xd)
  have hsz : (w.alloc (nodeO xa xb xc xd)).heap.size = w.heap.size + 1 := by simp
  have HW : Hid _ := tA
  generalize hw0 : w.alloc (nodeO xa xb xc xd) = w0 at *
  have nF : w.heap.size ∉ F := poolAt_other hA0.pool hnb (by decide)
  have tA2 : Turned [] w w0 := HW.out
  have HVF : ∀ w0 y, Turned [] w w0 → Turned F w0 y → IV y (.slice va l.length vc) l := fun w0 y q1 q2 => (HV.out.still q1).keep q2 (fun b hb => hvF b hb)
  refine push_r1 (cb := c) (p := p) (nb := w.heap.size) (xa := xa) (xb := xb) (xc := xc) (xd := xd) (r1 := h) (r2 := 0) (old := head) (Ph := fun k _ y => (y.cell? ⟨c, 0, none⟩ = some (pa p 0) ∧ y.heap[w.heap.size]? = some (nodeO xa xb xc xd)) ∧ (k = 0 → Turned [] w0 y) ∧ (k = 1 → Turned F w0 y ∧ ∃ F', PoolAt y p F' (s.take i xa xb xc xd head) ∧ Wider F F' w)) rfl rfl rfl rfl rfl (fun k u y h => ⟨h.1.1, load_node h.1.2⟩) ⟨⟨hA0.c0, hnb⟩, fun _ => (Turned.refl _ _).drew, fun h => by cases h⟩ ?_ ?_
  · rintro u y ⟨hb, ht, -⟩
    have ht0 := ht rfl
    refine (HTk.out y (hA0.pool.still ht0)).mono ?_
    rintro e z ⟨rfl, hz, F', hA', hW'⟩
    have tz : Turned F w0 z := (ht0.mono (by simp)).trans hz
    exact ⟨rfl, ⟨tz.cell hA0.c0 hA0.nc, tz.heap hnb nF⟩, (fun h => by cases h), fun _ => ⟨tz, F', hA', fun x hx => (hW' x hx).imp id (fun q => by have := ht0.size; omega)⟩⟩
  · rintro a1 y u hs hd hoff x13 x14 ⟨-, -, h2'⟩
    obtain ⟨tz, F', hA', hW'⟩ := h2' rfl
    have hA1 : CA y p kb F' (s.take i xa xb xc xd head) now kv c sb head S := hA0.step tz hA' rfl
    have x0 : a1.eval (.tmp 0) = .pointer (some ⟨c, 0, none⟩) := hoff 0 (by decide)
    have x1 : a1.eval (.tmp 1) = .pointer none := hoff 1 (by decide)
    have x2 : a1.eval (.tmp 2) = .int .i64 head := hoff 2 (by decide)
    have x4 : a1.eval (.tmp 4) = .slice va l.length vc := hoff 4 (by decide)
    have d3 : y.cell? ⟨c, 3, none⟩ = some (.slice (some ⟨sb, 0, none⟩) (s.n + 1) (s.n + 1)) := hA1.c3
    have hvy : IV y (.slice va l.length vc) l := HVF w0 y tA2 tz
    have HA1 : Hid _ := hA1
    have HVY : Hid _ := hvy
    have HT1 : Hid (Turned F w y ∧ Wider F F' w) := ⟨(HW.out.mono (by simp)).trans tz, hW'⟩
    obtain ⟨cc, hcc, hce⟩ := expand55 (hs.trans rfl) (hd.trans rfl)
    have e0 := (hce 0).trans x0
    have e1 := (hce 1).trans x1
    have e2 := (hce 2).trans x2
    have e4 := (hce 4).trans x4
    have e13 := (hce 13).trans x13
    have e14 := (hce 14).trans x14
    refine hKr _ _ ?_
    clear hKr hce hs hd hoff x0 x1 x2 x4 x13 x14 h2' tz hA' hW' hA1 hA0 hnb nF HW hw0 hsz hvy HVF tA2
    subst hcc
    simp only [lit55, e0, e1, e2, e4, e13, e14]
    clear e0 e1 e2 e4 e13 e14
    go_wp2_with (first
      | (go_at_call 34; refine (HKp.out _ _ _ HA1.out HVY.out).mono ?_; rintro e y2 ⟨rfl, ht2, S', hA2, hK2, hS2⟩; have HA2 : Hid _ := hA2; have HX2 : Hid _ := And.intro ht2 (And.intro hK2 hS2); clear ht2 hA2 hK2 hS2)
      | (go_at_call 33; refine (cPublish HA2.out _).mono ?_; rintro e y3 ⟨rfl, hw3⟩; have hA3 := HA2.out.put h; rw [← hw3] at hA3; have HA3 : Hid _ := hA3; have HT3 : Hid (Turned [c] y2 y3) := (by rw [hw3]; exact (Turned.refl _ _).set (.inl (by simp)) _ _); clear hw3 hA3)
      | (go_at_call 28; refine (HSt.out _ _ _ _ HA3.out).mono ?_; rintro e y4 ⟨rfl, ht4, hA4⟩; have HX4 : Hid _ := And.intro ht4 hA4; clear ht4 hA4))
    go_ret3
    have wid : ∀ z, z ∈ F' → z ∈ c :: sb :: F ∨ w.heap.size ≤ z := fun z hz => by
      rcases HT1.out.2 z hz with q | q
      · exact .inl (by simp [q])
      · exact .inr q
    have t2 : Turned (c :: sb :: F) w y2 := (HT1.out.1.mono (fun z hz => by simp [hz])).trans (HX2.out.1.mono (by simp))
    have t3 : Turned (c :: sb :: F) w y3 := t2.trans (HT3.out.mono (by simp))
    have hsy := HT1.out.1.size
    exact ⟨rfl, t3.inner HX4.out.1 wid, F', S', HX4.out.2, HT1.out.2, ⟨HX2.out.2.1.nil, HX2.out.2.1.full⟩, fun r hr => by have := HX2.out.2.2 r hr; omega⟩
set_option maxRecDepth 100000 in
set_option maxHeartbeats 1600000 in
theorem cPushNot (H : CA w p kb F s now kv c sb head S) (hO : s.Ok) (hi : idxV s.h = i) (h1 : 1 ≤ i) (h2 : i ≤ s.n) (g0 : 0 ≤ (s.slot i).gen) (g1 : (s.slot i).gen ≤ 1000000000) (g2 : (s.slot i).gen % 2 = 0) (hv : IV w v l) (hvF : ∀ b, v.ownBlock = some b → b ∉ F) (hl : l.length ≤ 10000) (old : Int) (hne : ¬ head = old) (xa xb xc xd : Int) :
    Calls Try.prog 11 #[pp c, .pointer none, .int .i64 old, .agg #[.int .i64 xa, .int .i64 xb, .int .i64 xc, .int .i64 xd], v] w fun e w' => e = .returned (.tuple #[.int .i64 0, .bool false, .int .i64 0]) ∧ Turned (c :: sb :: F) w w' ∧ ∃ F', CA w' p kb F' ((s.take i xa xb xc xd old).give i (-7777777)) now kv c sb head (upd S i none) ∧ Wider F F' w := by
  have HTk : Hid (∀ x, PoolAt x p F s → Calls Try.prog 31 #[pa p 0, .pointer none, .agg #[.int .i64 xa, .int .i64 xb, .int .i64 xc, .int .i64 xd], .int .i64 old] x fun e w' => e = .returned (.tuple #[.int .i64 (hnd i ((s.slot i).gen + 1)), .int .i64 0]) ∧ Turned F x w' ∧ ∃ F', PoolAt w' p F' (s.take i xa xb xc xd old) ∧ Wider F F' x) := fun x hx => poolLaws.take hx hO hi (by omega) g0 (by omega) xa xb xc xd old
  have hsl : (s.take i xa xb xc xd old).slot i = ⟨(s.slot i).gen + 1, 0, old, xa, xb, xc, xd⟩ := upd_same _ _ _
  have hO2 : (s.take i xa xb xc xd old).Ok := hO.take h2 _ _ _ _ _
  have hn2 := hO.n2
  have HKp : Hid (∀ x F' S0, CA x p kb F' (s.take i xa xb xc xd old) now kv c sb head S0 → IV x v l → Calls Try.prog 34 #[.slice (some ⟨sb, 0, none⟩) (s.n + 1) (s.n + 1), .int .i64 (hnd i ((s.slot i).gen + 1)), v] x fun e w' => e = .returned (.tuple #[]) ∧ Turned [sb] x w' ∧ ∃ S', CA w' p kb F' (s.take i xa xb xc xd old) now kv c sb head S' ∧ Kept (s.take i xa xb xc xd old) S0 S' i (hnd i ((s.slot i).gen + 1)) l ∧ (∀ r, S' i = Option.some r → x.heap.size ≤ r.b ∧ x.heap.size ≤ r.g)) := fun x F' S0 hx hvx => cKeepAll hx hn2 h2 (by omega) (by omega) hvx hl
  have HPn : Hid (∀ x F' S0, CA x p kb F' (s.take i xa xb xc xd old) now kv c sb head S0 → (∀ r, S0 i = some r → r.h = hnd i ((s.slot i).gen + 1)) → Calls Try.prog 33 #[pp c, .pointer none, .int .i64 old, .int .i64 (hnd i ((s.slot i).gen + 1))] x fun e w' => e = .returned (.bool false) ∧ Turned (sb :: F') x w' ∧ ∃ F2, CA w' p kb F2 ((s.take i xa xb xc xd old).give i (-7777777)) now kv c sb head (upd S0 i none) ∧ Wider F' F2 x) := fun x F' S0 hx hS => cPublishNot hx hO2 h1 h2 (by omega) (by omega) (by omega) (by rw [hsl]) hne hS
  have HH : Hid (CA w p kb F s now kv c sb head S) := H
  have HV : Hid _ := hv
  obtain ⟨va, vc, rfl, -⟩ := hv.ex
  have hcl := lt_of_heap H.obj
  generalize hnd i ((s.slot i).gen + 1) = h at *
  clear H hi g0 g1 g2 hsl hv
  go_enter Try.func11, Try.ntmps11
  go_wp2
  rename_i Kr hKr
  have tA : Turned [] w (w.alloc (nodeO xa xb xc xd)) := (Turned.refl _ _).alloc _
  have hA0 := HH.out.still tA
  have hnb := blk_new w (nodeO xa xb xc xd)
  have hsz : (w.alloc (nodeO xa xb xc xd)).heap.size = w.heap.size + 1 := by simp
  have HW : Hid _ := tA
  generalize hw0 : w.alloc (nodeO xa xb xc xd) = w0 at *
  have nF : w.heap.size ∉ F := poolAt_other hA0.pool hnb (by decide)
  have tA2 : Turned [] w w0 := HW.out
  have HVF : ∀ w0 y, Turned [] w w0 → Turned F w0 y → IV y (.slice va l.length vc) l := fun w0 y q1 q2 => (HV.out.still q1).keep q2 (fun b hb => hvF b hb)
  refine push_r1 (cb := c) (p := p) (nb := w.heap.size) (xa := xa) (xb := xb) (xc := xc) (xd := xd) (r1 := h) (r2 := 0) (old := old) (Ph := fun k _ y => (y.cell? ⟨c, 0, none⟩ = some (pa p 0) ∧ y.heap[w.heap.size]? = some (nodeO xa xb xc xd)) ∧ (k = 0 → Turned [] w0 y) ∧ (k = 1 → Turned F w0 y ∧ ∃ F', PoolAt y p F' (s.take i xa xb xc xd old) ∧ Wider F F' w)) rfl rfl rfl rfl rfl (fun k u y h => ⟨h.1.1, load_node h.1.2⟩) ⟨⟨hA0.c0, hnb⟩, fun _ => (Turned.refl _ _).drew, fun h => by cases h⟩ ?_ ?_
  · rintro u y ⟨hb, ht, -⟩
    have ht0 := ht rfl
    refine (HTk.out y (hA0.pool.still ht0)).mono ?_
    rintro e z ⟨rfl, hz, F', hA', hW'⟩
    have tz : Turned F w0 z := (ht0.mono (by simp)).trans hz
    exact ⟨rfl, ⟨tz.cell hA0.c0 hA0.nc, tz.heap hnb nF⟩, (fun h => by cases h), fun _ => ⟨tz, F', hA', fun x hx => (hW' x hx).imp id (fun q => by have := ht0.size; omega)⟩⟩
  · rintro a1 y u hs hd hoff x13 x14 ⟨-, -, h2'⟩
    obtain ⟨tz, F', hA', hW'⟩ := h2' rfl
    have hA1 : CA y p kb F' (s.take i xa xb xc xd old) now kv c sb head S := hA0.step tz hA' rfl
    have x0 : a1.eval (.tmp 0) = .pointer (some ⟨c, 0, none⟩) := hoff 0 (by decide)
    have x1 : a1.eval (.tmp 1) = .pointer none := hoff 1 (by decide)
    have x2 : a1.eval (.tmp 2) = .int .i64 old := hoff 2 (by decide)
    have x4 : a1.eval (.tmp 4) = .slice va l.length vc := hoff 4 (by decide)
    have d3 : y.cell? ⟨c, 3, none⟩ = some (.slice (some ⟨sb, 0, none⟩) (s.n + 1) (s.n + 1)) := hA1.c3
    have hvy : IV y (.slice va l.length vc) l := HVF w0 y tA2 tz
    have HA1 : Hid _ := hA1
    have HVY : Hid _ := hvy
    have HT1 : Hid (Turned F w y ∧ Wider F F' w) := ⟨(HW.out.mono (by simp)).trans tz, hW'⟩
    obtain ⟨cc, hcc, hce⟩ := expand55 (hs.trans rfl) (hd.trans rfl)
    have e0 := (hce 0).trans x0
    have e1 := (hce 1).trans x1
    have e2 := (hce 2).trans x2
    have e4 := (hce 4).trans x4
    have e13 := (hce 13).trans x13
    have e14 := (hce 14).trans x14
    refine hKr _ _ ?_
    clear hKr hce hs hd hoff x0 x1 x2 x4 x13 x14 h2' tz hA' hW' hA1 hA0 hnb nF HW hw0 hsz hvy HVF tA2
    subst hcc
    simp only [lit55, e0, e1, e2, e4, e13, e14]
    clear e0 e1 e2 e4 e13 e14
    go_wp2_with (first
      | (go_at_call 34; refine (HKp.out _ _ _ HA1.out HVY.out).mono ?_; rintro e y2 ⟨rfl, ht2, S', hA2, hK2, hS2⟩; have HA2 : Hid _ := hA2; have HX2 : Hid _ := And.intro ht2 hK2; clear ht2 hA2 hK2 hS2)
      | (go_at_call 33; refine (HPn.out _ _ _ HA2.out HX2.out.2.own).mono ?_; rintro e y3 ⟨rfl, ht3, F2, hA3, hW3⟩; have HX3 : Hid _ := And.intro ht3 (And.intro hA3 hW3); clear ht3 hA3 hW3))
    go_ret3
    have wid : ∀ z, z ∈ F' → z ∈ c :: sb :: F ∨ w.heap.size ≤ z := fun z hz => by
      rcases HT1.out.2 z hz with q | q
      · exact .inl (by simp [q])
      · exact .inr q
    have t2 : Turned (c :: sb :: F) w y2 := (HT1.out.1.mono (fun z hz => by simp [hz])).trans (HX2.out.1.mono (by simp))
    have hsy := HT1.out.1.size
    have hs2 := HX2.out.1.size
    refine ⟨rfl, t2.inner HX3.out.1 (fun z hz => ?_), F2, ?_, fun z hz => ?_⟩
    · rcases List.mem_cons.1 hz with rfl | hz
      · exact .inl (by simp)
      · exact wid z hz
    · rw [← HX2.out.2.gone]; exact HX3.out.2.1
    · rcases HX3.out.2.2 z hz with q | q
      · exact HT1.out.2 z q
      · exact .inr (by omega)
end
end Go.Proofs.Ytaaibhgbkdnlbaa

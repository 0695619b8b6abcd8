/-
  JudgeLong: a write told twice. (By the verifier; no statement.)
-/
import Derived.Test.YtbielnehggcaoaaDoorL35
import Derived.ArgAppend
/-
  One event of a row, cell by cell; two rows of the same events look alike. (By the verifier; no statement.)
-/
namespace Go.Proofs.YtbielnehggcaoaaDoor
open Go.RowKit
theorem events_get {w : World} {ev : Value} {D : List Ev} {L : List (Ev × SV × SV)} (hv : VW encX w ev L) (hL : L.length = D.length) (h : ∀ i, i < D.length → ∃ sa sb, L[i]? = some (eAt D i, sa, sb) ∧ VW (fun q : Int => [Value.int .i64 q]) w (slV sa) (eAt D i).ns ∧ VW encP w (slV sb) (eAt D i).ps) {i : Nat} (hi : i < D.length) : ∃ b o c na nc pa pc, ev = .slice (some ⟨b, o, none⟩) D.length c ∧ EC w b (o + i * 13) (eAt D i) (.slice na (eAt D i).ns.length nc) (.slice pa (eAt D i).ps.length pc) ∧ VW (fun q : Int => [Value.int .i64 q]) w (.slice na (eAt D i).ns.length nc) (eAt D i).ns ∧ VW encP w (.slice pa (eAt D i).ps.length pc) (eAt D i).ps := by
  obtain ⟨sa, sb, e1, hn, hq⟩ := h i hi
  obtain ⟨b, o, c, rfl, hb, hc⟩ := hv.get enX (by decide) (i := i) (by rw [hL]; exact hi)
  have e2 : L[i]'(by rw [hL]; exact hi) = (eAt D i, sa, sb) := (List.getElem?_eq_some_iff.1 e1).2
  rw [e2] at hc
  obtain ⟨na, nl, nc⟩ := sa
  obtain ⟨pa, pl, pc⟩ := sb
  have ens : nl = (eAt D i).ns.length := by
    obtain ⟨a1, c1, h1, -⟩ := hn.ex
    simp only [slV, Value.slice.injEq] at h1
    exact h1.2.1
  have eps : pl = (eAt D i).ps.length := by
    obtain ⟨a1, c1, h1, -⟩ := hq.ex
    simp only [slV, Value.slice.injEq] at h1
    exact h1.2.1
  subst ens eps
  refine ⟨b, o, c, na, nc, pa, pc, by rw [hL], ⟨fun y hy => ?_⟩, hn, hq⟩
  have k : ∀ (j : Nat) (u : Value), (encX (eAt D i, (na, (eAt D i).ns.length, nc), (pa, (eAt D i).ps.length, pc)))[j]? = some u → y.cell? ⟨b, o + i * 13 + j, none⟩ = some u := fun j u hu => by
    rw [Nat.add_assoc]
    exact hy.cell (hc j u hu) (by simp)
  exact ⟨Nat.lt_of_lt_of_le hb hy.size, k 0 _ rfl, k 1 _ rfl, k 2 _ rfl, k 3 _ rfl, k 4 _ rfl, k 5 _ rfl, k 6 _ rfl, k 7 _ rfl, k 8 _ rfl, k 9 _ rfl, k 10 _ rfl, k 11 _ rfl, k 12 _ rfl⟩
/-- The law's own look at one event of both rows. -/
theorem cSameAt {w : World} {e : Ev} {na pa ma qa : Option Addr} {nc pc mc qc : Nat} (h1 : VW (fun q : Int => [Value.int .i64 q]) w (.slice na e.ns.length nc) e.ns) (h2 : VW encP w (.slice pa e.ps.length pc) e.ps) (h3 : VW (fun q : Int => [Value.int .i64 q]) w (.slice ma e.ns.length mc) e.ns) (h4 : VW encP w (.slice qa e.ps.length qc) e.ps) (hn : e.ns.length ≤ 140737488355328) (hp : e.ps.length ≤ 140737488355328) : Calls Tryd.prog 24 #[.agg (evA e (.slice na e.ns.length nc) (.slice pa e.ps.length pc)), .agg (evA e (.slice ma e.ns.length mc) (.slice qa e.ps.length qc))] w fun r w' => r = .returned (.bool true) ∧ Turned [] w w' :=
  cSameE (fun y hy => (cSameIE (h1.still hy).iv (h3.still hy).iv hn).mono fun r w' ⟨e1, n, e2⟩ => ⟨e1, by rw [e2]; exact (Turned.refl [] y).drewN n⟩) (fun y hy => (cSameP (h2.still hy) (h4.still hy) hp).mono fun r w' ⟨e1, n, e2⟩ => ⟨e1, by rw [e2]; exact (Turned.refl [] y).drewN n⟩)
end Go.Proofs.YtbielnehggcaoaaDoor
/- A frame, spelled out. -/
namespace Go.Proofs.YtbielnehggcaoaaDoor
open Go.RowKit
def lit236 (c : Nat → Value) : Array Value := #[c 0, c 1, c 2, c 3, c 4, c 5, c 6, c 7, c 8, c 9, c 10, c 11, c 12, c 13, c 14, c 15, c 16, c 17, c 18, c 19, c 20, c 21, c 22, c 23, c 24, c 25, c 26, c 27, c 28, c 29, c 30, c 31, c 32, c 33, c 34, c 35, c 36, c 37, c 38, c 39, c 40, c 41, c 42, c 43, c 44, c 45, c 46, c 47, c 48, c 49, c 50, c 51, c 52, c 53, c 54, c 55, c 56, c 57, c 58, c 59, c 60, c 61, c 62, c 63, c 64, c 65, c 66, c 67, c 68, c 69, c 70, c 71, c 72, c 73, c 74, c 75, c 76, c 77, c 78, c 79, c 80, c 81, c 82, c 83, c 84, c 85, c 86, c 87, c 88, c 89, c 90, c 91, c 92, c 93, c 94, c 95, c 96, c 97, c 98, c 99, c 100, c 101, c 102, c 103, c 104, c 105, c 106, c 107, c 108, c 109, c 110, c 111, c 112, c 113, c 114, c 115, c 116, c 117, c 118, c 119, c 120, c 121, c 122, c 123, c 124, c 125, c 126, c 127, c 128, c 129, c 130, c 131, c 132, c 133, c 134, c 135, c 136, c 137, c 138, c 139, c 140, c 141, c 142, c 143, c 144, c 145, c 146, c 147, c 148, c 149, c 150, c 151, c 152, c 153, c 154, c 155, c 156, c 157, c 158, c 159, c 160, c 161, c 162, c 163, c 164, c 165, c 166, c 167, c 168, c 169, c 170, c 171, c 172, c 173, c 174, c 175, c 176, c 177, c 178, c 179, c 180, c 181, c 182, c 183, c 184, c 185, c 186, c 187, c 188, c 189, c 190, c 191, c 192, c 193, c 194, c 195, c 196, c 197, c 198, c 199, c 200, c 201, c 202, c 203, c 204, c 205, c 206, c 207, c 208, c 209, c 210, c 211, c 212, c 213, c 214, c 215, c 216, c 217, c 218, c 219, c 220, c 221, c 222, c 223, c 224, c 225, c 226, c 227, c 228, c 229, c 230, c 231, c 232, c 233, c 234, c 235]
set_option maxRecDepth 100000 in
theorem lit236_eq (c : Nat → Value) : lit236 c = ((List.range 236).map c).toArray := by rfl
theorem expand236 {a : Act} (hs : a.tmps.size = 236) (hd : a.defers = []) : ∃ c : Nat → Value, a = ⟨lit236 c, []⟩ ∧ ∀ s, c s = a.eval (.tmp s) := by
  refine ⟨fun s => a.tmps.getD s undef, ?_, fun s => rfl⟩
  obtain ⟨t, d⟩ := a
  simp only at hs hd
  subst hd
  congr 1
  rw [lit236_eq]
  refine Array.ext (by simp [hs]) fun i h1 h2 => ?_
  simp [Array.getD, h1]
theorem expand236d {a : Act} {ds : List Deferred} (hs : a.tmps.size = 236) (hd : a.defers = ds) : ∃ c : Nat → Value, a = ⟨lit236 c, ds⟩ ∧ ∀ s, c s = a.eval (.tmp s) := by
  refine ⟨fun s => a.tmps.getD s undef, ?_, fun s => rfl⟩
  obtain ⟨t, d⟩ := a
  simp only at hs hd
  subst hd
  congr 1
  rw [lit236_eq]
  refine Array.ext (by simp [hs]) fun i h1 h2 => ?_
  simp [Array.getD, h1]
end Go.Proofs.YtbielnehggcaoaaDoor
/- A write told twice: JudgeLong's drawn region 31. (Written by tools/gen/genjz31.py.) -/
set_option linter.unusedVariables false
namespace Go.Proofs.YtbielnehggcaoaaDoor
open Go.RowKit
theorem x_sliceZ {ρ : Operand → Value} {o : Oper} {w w' : World} {t : TypeId} {x y z : Operand} {v : Value} (h : o.op = .slice t x none (some y) (some z)) (hr : (Instr.sliceAt t (ρ x) none (some (ρ y)) (some (ρ z))).run Tryd.prog w = .ok v w') : (execOp ρ o).run Tryd.prog w = .ok (.value v) w' := by
  simp [execOp, h, hr, Result.andThen]
def tupZ (v : Value) (k : Nat) : Value := match v with
  | .tuple vs => vs.getD k undef
  | _ => undef
theorem x_extrZ {ρ : Operand → Value} {o : Oper} {w : World} {x : Operand} {k : Nat} {a b : Value} (h : o.op = .extract x k) (hk : k < 2) (hx : ρ x = .tuple #[a, b]) : (execOp ρ o).run Tryd.prog w = .ok (.value (tupZ (ρ x) k)) w := by
  refine x_extrQ h hx ?_
  rw [hx]
  rcases (by omega : k = 0 ∨ k = 1) with rfl | rfl <;> rfl
def jl_r31V (sb stb mm n kk lb lo lc : Nat) (ev : Array Value) : Nat × (Nat → Value) → Nat → Value := fun g j => match j with | 0 => (Value.slice (some ⟨stb, 0, none⟩) mm mm) | 1 => (pa sb 0) | 2 => (pa sb 0) | 3 => (pa sb 2) | 4 => (Value.slice (some ⟨lb, lo, none⟩) n lc) | 5 => (Value.int IntKind.i64 (n : Int)) | 6 => (Value.int IntKind.i64 (n : Int)) | 7 => (Value.slice (some ⟨lb, lo, none⟩) n n) | 8 => (pa sb 0) | 9 => (pa sb 0) | 10 => (pa sb 2) | 11 => (Value.slice (some ⟨lb, lo, none⟩) n lc) | 12 => (Value.int IntKind.i64 (kk : Int)) | 13 => (pa lb (lo + kk * 13)) | 14 => (Value.agg ev) | 15 => (g.2 15) | 16 => (g.2 16) | 17 => (g.2 17) | 18 => (g.2 17) | 19 => (tupZ (g.2 17) 0) | 20 => (tupZ (g.2 17) 1) | 21 => (tupZ (g.2 17) 0) | _ => undef
set_option maxRecDepth 100000 in
set_option maxHeartbeats 1600000 in
theorem jl_r31 {sb stb mm n kk lb lo lc : Nat} {ev : Array Value} {Ph : Nat → (Nat → Value) → World → Prop} {K : Act → World → Prop} {Q : Exit → Act → World → Prop} {a0 : Act} {w : World} (hs : a0.tmps.size = 236) (x11 : a0.eval (.tmp 11) = .slice (some ⟨stb, 0, none⟩) mm mm) (x10 : a0.eval (.tmp 10) = pa sb 0) (x7 : a0.eval (.tmp 7) = .int .i64 (n : Int)) (x17 : a0.eval (.tmp 17) = .int .i64 (kk : Int)) (hq1 : (kk : Int) < (n : Int)) (hq2 : kk < n) (hq3 : 0 ≤ (kk : Int)) (hq4 : IntKind.i64.wrap (kk : Int) = (kk : Int)) (hsl : ∀ x, (Instr.sliceAt 39 (Value.slice (some ⟨lb, lo, none⟩) n lc) none (some (.int .i64 (n : Int))) (some (.int .i64 (n : Int)))).run Tryd.prog x = .ok (.slice (some ⟨lb, lo, none⟩) n n) x) (hsb : ∀ g u x, g ≤ 1 → Ph g u x → x.cell? ⟨sb, 2, none⟩ = some (.slice (some ⟨lb, lo, none⟩) n lc)) (hev : ∀ g u x, Ph g u x → (Instr.loadAt 52 (pa lb (lo + kk * 13))).run Tryd.prog x = .ok (.agg ev) x) (hU : ∀ g u x, 3 ≤ g → Ph g u x → ∃ a b, u 17 = .tuple #[a, b]) (hA : Ph 0 (fun _ => undef) w.drew)
    (hL0 : ∀ u x, Ph 0 u x → ∃ v w', (Instr.buildSlice 39 1 #[(0, (Value.agg ev))]).run Tryd.prog x = .ok v w' ∧ Ph 1 (upd u 15 v) w')
    (hL1 : ∀ u x, Ph 1 u x → ∃ v w', (Builtin.append_ #[39, 39] 39 #[(Value.slice (some ⟨lb, lo, none⟩) n n), (u 15)]).run Tryd.prog x = .ok v w' ∧ Ph 2 (upd u 16 v) w')
    (hL2 : ∀ u x, Ph 2 u x → Calls Tryd.prog 22 #[.slice (some ⟨stb, 0, none⟩) mm mm, (u 16)] x fun e w' => ∃ v, e = .returned v ∧ Ph 3 (upd u 17 v) w')
    (hEnd : ∀ a' x u, a'.tmps.size = a0.tmps.size → a'.defers = a0.defers → (∀ s, some s ∉ ([some 180, some 181, some 182, some 183, some 184, some 185, some 186, some 187, some 188, some 189, some 190, some 191, some 192, some 193, some 194, some 195, some 196, some 197, some 179, some 198, some 199, some 14] : List (Option Nat)) → a'.eval (.tmp s) = a0.eval (.tmp s)) → a'.eval (.tmp 14) = (tupZ (u 17) 0) → Ph 3 u x → K a' x) : (Code.region 31 (opsR 31 Tryd.f7.body) true).wp Tryd.prog (Exit.then K Q) a0 w := by
  refine wp_region_ghost3 (G := Nat × (Nat → Value)) (by kernel_rfl) [some 180, some 181, some 182, some 183, some 184, some 185, some 186, some 187, some 188, some 189, some 190, some 191, some 192, some 193, some 194, some 195, some 196, some 197, some 179, some 198, some 199, some 14] (by rw [hs]; kernel_rfl) (jl_r31V sb stb mm n kk lb lo lc ev) [15, 16, 17] ?_ (doneP [15, 16, 17]) (StP 3 Ph) ((0, fun _ => undef)) (⟨Nat.zero_le _, hA⟩) (by intro x hx; simp at hx; rcases hx with rfl | rfl | rfl <;> rfl) (by decide) ?_ ?_
  · intro i g b h γ
    have hi : i < 22 := by
      apply Classical.byContradiction
      intro hn
      rw [show (opsR 31 Tryd.f7.body)[i]? = none from Array.getElem?_eq_none (by have : (opsR 31 Tryd.f7.body).size = 22 := (by kernel_rfl); omega)] at h
      cases h
    rcases (by omega : i = 0 ∨ i = 1 ∨ i = 2 ∨ i = 3 ∨ i = 4 ∨ i = 5 ∨ i = 6 ∨ i = 7 ∨ i = 8 ∨ i = 9 ∨ i = 10 ∨ i = 11 ∨ i = 12 ∨ i = 13 ∨ i = 14 ∨ i = 15 ∨ i = 16 ∨ i = 17 ∨ i = 18 ∨ i = 19 ∨ i = 20 ∨ i = 21) with rfl | rfl | rfl | rfl | rfl | rfl | rfl | rfl | rfl | rfl | rfl | rfl | rfl | rfl | rfl | rfl | rfl | rfl | rfl | rfl | rfl | rfl
    · rw [show ((opsR 31 Tryd.f7.body)[0]?).bind (fun o : Oper => o.guard) = none from by kernel_rfl] at h
      cases h
    · rw [show ((opsR 31 Tryd.f7.body)[1]?).bind (fun o : Oper => o.guard) = none from by kernel_rfl] at h
      cases h
    · rw [show ((opsR 31 Tryd.f7.body)[2]?).bind (fun o : Oper => o.guard) = none from by kernel_rfl] at h
      cases h
    · rw [show ((opsR 31 Tryd.f7.body)[3]?).bind (fun o : Oper => o.guard) = none from by kernel_rfl] at h
      cases h
    · rw [show ((opsR 31 Tryd.f7.body)[4]?).bind (fun o : Oper => o.guard) = none from by kernel_rfl] at h
      cases h
    · rw [show ((opsR 31 Tryd.f7.body)[5]?).bind (fun o : Oper => o.guard) = none from by kernel_rfl] at h
      cases h
    · rw [show ((opsR 31 Tryd.f7.body)[6]?).bind (fun o : Oper => o.guard) = none from by kernel_rfl] at h
      cases h
    · rw [show ((opsR 31 Tryd.f7.body)[7]?).bind (fun o : Oper => o.guard) = none from by kernel_rfl] at h
      cases h
    · rw [show ((opsR 31 Tryd.f7.body)[8]?).bind (fun o : Oper => o.guard) = none from by kernel_rfl] at h
      cases h
    · rw [show ((opsR 31 Tryd.f7.body)[9]?).bind (fun o : Oper => o.guard) = none from by kernel_rfl] at h
      cases h
    · rw [show ((opsR 31 Tryd.f7.body)[10]?).bind (fun o : Oper => o.guard) = none from by kernel_rfl] at h
      cases h
    · rw [show ((opsR 31 Tryd.f7.body)[11]?).bind (fun o : Oper => o.guard) = none from by kernel_rfl] at h
      cases h
    · rw [show ((opsR 31 Tryd.f7.body)[12]?).bind (fun o : Oper => o.guard) = none from by kernel_rfl] at h
      cases h
    · rw [show ((opsR 31 Tryd.f7.body)[13]?).bind (fun o : Oper => o.guard) = none from by kernel_rfl] at h
      cases h
    · rw [show ((opsR 31 Tryd.f7.body)[14]?).bind (fun o : Oper => o.guard) = none from by kernel_rfl] at h
      cases h
    · rw [show ((opsR 31 Tryd.f7.body)[15]?).bind (fun o : Oper => o.guard) = none from by kernel_rfl] at h
      cases h
    · rw [show ((opsR 31 Tryd.f7.body)[16]?).bind (fun o : Oper => o.guard) = none from by kernel_rfl] at h
      cases h
    · rw [show ((opsR 31 Tryd.f7.body)[17]?).bind (fun o : Oper => o.guard) = none from by kernel_rfl] at h
      cases h
    · rw [show ((opsR 31 Tryd.f7.body)[18]?).bind (fun o : Oper => o.guard) = none from by kernel_rfl] at h
      cases h
    · rw [show ((opsR 31 Tryd.f7.body)[19]?).bind (fun o : Oper => o.guard) = none from by kernel_rfl] at h
      cases h
    · rw [show ((opsR 31 Tryd.f7.body)[20]?).bind (fun o : Oper => o.guard) = none from by kernel_rfl] at h
      cases h
    · rw [show ((opsR 31 Tryd.f7.body)[21]?).bind (fun o : Oper => o.guard) = none from by kernel_rfl] at h
      cases h
  · intro i hi hgd
    rcases (by simp at hi; omega : i = 0 ∨ i = 1 ∨ i = 2 ∨ i = 3 ∨ i = 4 ∨ i = 5 ∨ i = 6 ∨ i = 7 ∨ i = 8 ∨ i = 9 ∨ i = 10 ∨ i = 11 ∨ i = 12 ∨ i = 13 ∨ i = 14 ∨ i = 15 ∨ i = 16 ∨ i = 17 ∨ i = 18 ∨ i = 19 ∨ i = 20 ∨ i = 21) with rfl | rfl | rfl | rfl | rfl | rfl | rfl | rfl | rfl | rfl | rfl | rfl | rfl | rfl | rfl | rfl | rfl | rfl | rfl | rfl | rfl | rfl
    · refine soft (by decide) ?_
      intro o ac wa g ho hoff hv hS hdn
      exact (x_move (op_is rfl ho)).trans (by rw [((hoff 11 (by decide)).trans x11)]; rfl)
    · refine soft (by decide) ?_
      intro o ac wa g ho hoff hv hS hdn
      exact (x_move (op_is rfl ho)).trans (by rw [((hoff 10 (by decide)).trans x10)]; rfl)
    · refine soft (by decide) ?_
      intro o ac wa g ho hoff hv hS hdn
      exact x_nil (op_is rfl ho) ((hv 1 181 rfl (by kernel_rfl)))
    · refine soft (by decide) ?_
      intro o ac wa g ho hoff hv hS hdn
      exact x_field (op_is rfl ho) (by rw [(hv 2 182 rfl (by kernel_rfl))]; show (Instr.fieldAt _ (pa _ _) _).run _ _ = .ok (pa _ _) _; unfold pa; go_simp)
    · refine softL (by decide) ?_
      intro o ac wa g ho hoff hv hS hdn hlt
      have hg : g.1 ≤ 1 := by have := hlt 16 (by simp) (by kernel_rfl); simpa [doneP, List.idxOf, List.findIdx, List.findIdx.go] using this
      have hc := (hsb _ _ _ hg hS.ph)
      exact x_load (op_is rfl ho) (by rw [(hv 3 183 rfl (by kernel_rfl))]; show (Instr.loadAt _ (pa _ _)).run _ _ = _; unfold pa; go_simp; first | rfl | skip)
    · refine soft (by decide) ?_
      intro o ac wa g ho hoff hv hS hdn
      exact (x_move (op_is rfl ho)).trans (by rw [((hoff 7 (by decide)).trans x7)]; rfl)
    · refine soft (by decide) ?_
      intro o ac wa g ho hoff hv hS hdn
      exact (x_move (op_is rfl ho)).trans (by rw [((hoff 7 (by decide)).trans x7)]; rfl)
    · refine soft (by decide) ?_
      intro o ac wa g ho hoff hv hS hdn
      exact x_sliceZ (op_is rfl ho) (by rw [(hv 4 184 rfl (by kernel_rfl)), (hv 5 185 rfl (by kernel_rfl)), (hv 6 186 rfl (by kernel_rfl))]; show _ = Result.ok (Value.slice (some ⟨lb, lo, none⟩) n n) _; exact hsl _)
    · refine soft (by decide) ?_
      intro o ac wa g ho hoff hv hS hdn
      exact (x_move (op_is rfl ho)).trans (by rw [((hoff 10 (by decide)).trans x10)]; rfl)
    · refine soft (by decide) ?_
      intro o ac wa g ho hoff hv hS hdn
      exact x_nil (op_is rfl ho) ((hv 8 188 rfl (by kernel_rfl)))
    · refine soft (by decide) ?_
      intro o ac wa g ho hoff hv hS hdn
      exact x_field (op_is rfl ho) (by rw [(hv 9 189 rfl (by kernel_rfl))]; show (Instr.fieldAt _ (pa _ _) _).run _ _ = .ok (pa _ _) _; unfold pa; go_simp)
    · refine softL (by decide) ?_
      intro o ac wa g ho hoff hv hS hdn hlt
      have hg : g.1 ≤ 1 := by have := hlt 16 (by simp) (by kernel_rfl); simpa [doneP, List.idxOf, List.findIdx, List.findIdx.go] using this
      have hc := (hsb _ _ _ hg hS.ph)
      exact x_load (op_is rfl ho) (by rw [(hv 10 190 rfl (by kernel_rfl))]; show (Instr.loadAt _ (pa _ _)).run _ _ = _; unfold pa; go_simp; first | rfl | skip)
    · refine soft (by decide) ?_
      intro o ac wa g ho hoff hv hS hdn
      exact (x_move (op_is rfl ho)).trans (by rw [((hoff 17 (by decide)).trans x17)]; rfl)
    · refine soft (by decide) ?_
      intro o ac wa g ho hoff hv hS hdn
      exact x_index (op_is rfl ho) (by rw [(hv 11 191 rfl (by kernel_rfl)), (hv 12 192 rfl (by kernel_rfl))]; show (Instr.indexAt _ (Value.slice (some ⟨lb, lo, none⟩) n lc) (Value.int IntKind.i64 (kk : Int))).run _ _ = .ok (pa _ _) _; unfold pa; go_simp)
    · refine soft (by decide) ?_
      intro o ac wa g ho hoff hv hS hdn
      exact x_load (op_is rfl ho) (by rw [(hv 13 193 rfl (by kernel_rfl))]; exact hev _ _ _ hS.ph)
    · intro o ac wa g K ho hd _ hoff hv hS hpre hnd hlater hK
      have h1 : g.1 ≤ 0 := by have := hnd (by simp); simpa [doneP, List.idxOf, List.findIdx, List.findIdx.go] using this
      have hg : g.1 = 0 := by omega
      obtain ⟨g1, u⟩ := g
      simp only at hg
      subst hg
      obtain ⟨v, w', hr', hp⟩ := hL0 u wa hS.ph
      refine l_val hd (x_bsliceC (op_is rfl ho) (by simp only [List.map_toArray, List.map_cons, List.map_nil]; rw [(hv 14 194 rfl (by kernel_rfl))]; rfl) hr') ?_
      refine hK (1, upd u 15 v) w' ⟨by simp, hp⟩ (by intro x hx; simp at hx; rcases hx with rfl | rfl | rfl <;> simp [doneP, List.idxOf, List.findIdx, List.findIdx.go]) fun j hj hr => ?_
      match j, hr with
      | 0, _ => rfl
      | 1, _ => rfl
      | 2, _ => rfl
      | 3, _ => rfl
      | 4, _ => rfl
      | 5, _ => rfl
      | 6, _ => rfl
      | 7, _ => rfl
      | 8, _ => rfl
      | 9, _ => rfl
      | 10, _ => rfl
      | 11, _ => rfl
      | 12, _ => rfl
      | 13, _ => rfl
      | 14, _ => rfl
      | 15, _ => exact absurd rfl hj
      | 16, _ => rfl
      | 17, _ => rfl
      | 18, _ => rfl
      | 19, _ => rfl
      | 20, _ => rfl
      | 21, _ => rfl
      | q + 22, _ => rfl
    · intro o ac wa g K ho hd _ hoff hv hS hpre hnd hlater hK
      have h1 : g.1 ≤ 1 := by have := hnd (by simp); simpa [doneP, List.idxOf, List.findIdx, List.findIdx.go] using this
      have h2 : 1 ≤ g.1 := by have := hpre 15 (by simp) (by kernel_rfl); simp [doneP, List.idxOf, List.findIdx, List.findIdx.go] at this; omega
      have hg : g.1 = 1 := by omega
      obtain ⟨g1, u⟩ := g
      simp only at hg
      subst hg
      obtain ⟨v, w', hr', hp⟩ := hL1 u wa hS.ph
      refine l_val hd (x_appendC (op_is rfl ho) (ty_isC rfl ho) ((hv 7 187 rfl (by kernel_rfl))) ((hv 15 195 rfl (by kernel_rfl))) hr') ?_
      refine hK (2, upd u 16 v) w' ⟨by simp, hp⟩ (by intro x hx; simp at hx; rcases hx with rfl | rfl | rfl <;> simp [doneP, List.idxOf, List.findIdx, List.findIdx.go]) fun j hj hr => ?_
      match j, hr with
      | 0, _ => rfl
      | 1, _ => rfl
      | 2, _ => rfl
      | 3, _ => rfl
      | 4, _ => rfl
      | 5, _ => rfl
      | 6, _ => rfl
      | 7, _ => rfl
      | 8, _ => rfl
      | 9, _ => rfl
      | 10, _ => rfl
      | 11, _ => rfl
      | 12, _ => rfl
      | 13, _ => rfl
      | 14, _ => rfl
      | 15, _ => rfl
      | 16, _ => exact absurd rfl hj
      | 17, _ => rfl
      | 18, _ => rfl
      | 19, _ => rfl
      | 20, _ => rfl
      | 21, _ => rfl
      | q + 22, _ => rfl
    · intro o ac wa g K ho hd _ hoff hv hS hpre hnd hlater hK
      have h1 : g.1 ≤ 2 := by have := hnd (by simp); simpa [doneP, List.idxOf, List.findIdx, List.findIdx.go] using this
      have h2 : 2 ≤ g.1 := by have := hpre 16 (by simp) (by kernel_rfl); simp [doneP, List.idxOf, List.findIdx, List.findIdx.go] at this; omega
      have hg : g.1 = 2 := by omega
      obtain ⟨g1, u⟩ := g
      simp only at hg
      subst hg
      refine l_callE (op_is rfl ho) (xs := #[.slice (some ⟨stb, 0, none⟩) mm mm, (u 16)]) (by simp only [List.map_toArray, List.map_cons, List.map_nil]; rw [(hv 0 180 rfl (by kernel_rfl)), (hv 16 196 rfl (by kernel_rfl))]; rfl) Tryd.func22 (by kernel_rfl) rfl (hL2 u wa hS.ph) ?_
      rintro e w' ⟨v, rfl, hp⟩
      refine ⟨_, rfl, ?_⟩
      rw [hd]
      refine hK (3, upd u 17 v) w' ⟨by simp, hp⟩ (by intro x hx; simp at hx; rcases hx with rfl | rfl | rfl <;> simp [doneP, List.idxOf, List.findIdx, List.findIdx.go]) fun j hj hr => ?_
      match j, hr with
      | 0, _ => rfl
      | 1, _ => rfl
      | 2, _ => rfl
      | 3, _ => rfl
      | 4, _ => rfl
      | 5, _ => rfl
      | 6, _ => rfl
      | 7, _ => rfl
      | 8, _ => rfl
      | 9, _ => rfl
      | 10, _ => rfl
      | 11, _ => rfl
      | 12, _ => rfl
      | 13, _ => rfl
      | 14, _ => rfl
      | 15, _ => rfl
      | 16, _ => rfl
      | 17, _ => exact absurd rfl hj
      | 18, hr => exact absurd (hr.symm.trans (by kernel_rfl : reachB (opsR 31 Tryd.f7.body) (opsR 31 Tryd.f7.body).size 18 17 = true)) (by decide)
      | 19, hr => exact absurd (hr.symm.trans (by kernel_rfl : reachB (opsR 31 Tryd.f7.body) (opsR 31 Tryd.f7.body).size 19 17 = true)) (by decide)
      | 20, hr => exact absurd (hr.symm.trans (by kernel_rfl : reachB (opsR 31 Tryd.f7.body) (opsR 31 Tryd.f7.body).size 20 17 = true)) (by decide)
      | 21, hr => exact absurd (hr.symm.trans (by kernel_rfl : reachB (opsR 31 Tryd.f7.body) (opsR 31 Tryd.f7.body).size 21 17 = true)) (by decide)
      | q + 22, _ => rfl
    · refine soft (by decide) ?_
      intro o ac wa g ho hoff hv hS hdn
      exact (x_move (op_is rfl ho)).trans (by rw [(hv 17 197 rfl (by kernel_rfl))]; rfl)
    · refine soft (by decide) ?_
      intro o ac wa g ho hoff hv hS hdn
      have hg3 : 3 ≤ g.1 := by have := hdn 17 (by simp) (by kernel_rfl); simp [doneP, List.idxOf, List.findIdx, List.findIdx.go] at this; omega
      obtain ⟨ta, tb2, hu⟩ := hU _ _ _ hg3 hS.ph
      have hq := (hv 18 179 rfl (by kernel_rfl))
      have hr := x_extrZ (ρ := ac.eval) (w := wa) (a := ta) (b := tb2) (op_is rfl ho) (by decide) (hq.trans hu)
      rw [hq] at hr
      exact hr
    · refine soft (by decide) ?_
      intro o ac wa g ho hoff hv hS hdn
      have hg3 : 3 ≤ g.1 := by have := hdn 17 (by simp) (by kernel_rfl); simp [doneP, List.idxOf, List.findIdx, List.findIdx.go] at this; omega
      obtain ⟨ta, tb2, hu⟩ := hU _ _ _ hg3 hS.ph
      have hq := (hv 18 179 rfl (by kernel_rfl))
      have hr := x_extrZ (ρ := ac.eval) (w := wa) (a := ta) (b := tb2) (op_is rfl ho) (by decide) (hq.trans hu)
      rw [hq] at hr
      exact hr
    · refine soft (by decide) ?_
      intro o ac wa g ho hoff hv hS hdn
      exact (x_assign (op_is rfl ho)).trans (by rw [(hv 19 198 rfl (by kernel_rfl))]; rfl)
  · intro a' w' g hsz hdf hoff hS hdn hval
    obtain ⟨g1, u⟩ := g
    have hg : g1 = 3 := by have h := hdn 17 (by simp); simp [doneP, List.idxOf, List.findIdx, List.findIdx.go] at h; have := hS.le; simp only at this; omega
    subst hg
    exact hEnd a' w' u hsz hdf (fun s hs => ev_same (hoff s hs)) (hval 21 14 rfl) hS.ph
end Go.Proofs.YtbielnehggcaoaaDoor
/-
  What stands when the story is told. (By the verifier; no statement.)
-/
namespace Go.Proofs.YtbielnehggcaoaaDoor
open Go.RowKit
/-- 'append(v[:n:n], u..)': a new row. -/
theorem run_apFull {α : Type} {T Ts : TypeId} {k y : Nat} {z : Value} {enc : α → List Value} {w : World} {u : Value} {R M : List α} {b o c : Nat} (E : El T Ts k y z) (N : En k enc) {ty : TypeId} (hv : VW enc w (.slice (some ⟨b, o, none⟩) R.length c) R) (hu : VW enc w u M) (hR : R ≠ []) (hM : M ≠ []) (hby : (R.length + M.length) * y ≤ 140737488355328) :
    ∃ v' w', (Builtin.append_ #[Ts, Ts] ty #[.slice (some ⟨b, o, none⟩) R.length R.length, u]).run Tryd.prog w = .ok v' w' ∧ OW T k enc w.heap.size w' v' (R ++ M) ∧ Turned [] w w' := by
  obtain ⟨i, hi, hzz⟩ := Option.map_eq_some_iff.1 E.info
  simp only [Prod.mk.injEq] at hzz
  obtain ⟨hz, hs1, hb⟩ := hzz
  obtain ⟨a0, c0, e0, -, h0⟩ := hv.ex
  obtain ⟨b0, o0, ea, hk0⟩ := h0 hR
  simp only [Value.slice.injEq] at e0
  obtain ⟨e1, -, -⟩ := e0
  rw [← e1] at ea
  simp only [Option.some.injEq, Addr.mk.injEq] at ea
  obtain ⟨rfl, rfl, -⟩ := ea
  obtain ⟨a, m, rfl, -, h1⟩ := hu.ex
  obtain ⟨b1, o1, rfl, hk1⟩ := h1 hM
  have hadd : ∀ (b o j : Nat), (⟨b, o, none⟩ : Addr).add j = ⟨b, o + j, none⟩ := fun b o j => by unfold Addr.add; split <;> simp_all
  have hpos : 0 < M.length := by
    rcases Nat.eq_zero_or_pos M.length with e | e
    · exact absurd (List.length_eq_zero_iff.1 e) hM
    · exact e
  have hlen : R.length + M.length ≤ 140737488355328 := Nat.le_trans (Nat.le_mul_of_pos_right _ E.posy) hby
  obtain ⟨v', w', hr, ho, hg⟩ := run_append_arg_grows (P := Tryd.prog) w Ts ty T i z k y E.und hi hz hs1 hb E.zc E.pos ⟨b, o, none⟩ R.length R.length (R.flatMap enc) (rowO_len N R) (fun j v hj => by rw [hadd]; exact hk0 j v hj) ⟨b1, o1, none⟩ M.length m (M.flatMap enc) (rowO_len N M) (fun j v hj => by rw [hadd]; exact hk1 j v hj) (by omega) (by unfold maxLen; omega) hby
  refine ⟨v', w', hr, ⟨by rw [List.length_append, List.flatMap_append]; exact ho⟩, ⟨hg.os, hg.tape, hg.output, hg.size, fun q hq _ => hg.block q hq (by simp)⟩⟩
structure FN (B : Nat) (x : World) (sb stb p : Nat) (lv : Value) (D : List Ev) : Prop where
  st : ∃ c0 c1, x.heap[sb]? = some (.cells #[c0, c1, lv] 64 (0, 0))
  cp : CpAt B x lv D D.length
  sa : StA x stb p
theorem FN.still {B sb stb p : Nat} {x y : World} {lv : Value} {D : List Ev} (h : FN B x sb stb p lv D) (ht : Turned [] x y) : FN B y sb stb p lv D := by
  obtain ⟨c0, c1, h1⟩ := h.st
  obtain ⟨cs, d1, d2⟩ := h.sa.ex
  exact ⟨⟨c0, c1, ht.heap h1 (by simp)⟩, h.cp.still ht, ⟨cs, ht.heap d1 (by simp), fun i hi => by obtain ⟨g, e1, e2⟩ := d2 i hi; exact ⟨g, e1, ht.heap e2 (by simp)⟩⟩⟩
theorem FN.cell {B sb stb p : Nat} {x : World} {lv : Value} {D : List Ev} (h : FN B x sb stb p lv D) : sb < x.heap.size ∧ x.cell? ⟨sb, 2, none⟩ = some lv := by
  obtain ⟨c0, c1, h1⟩ := h.st
  exact ⟨lt_of_heap h1, by rw [cell_at h1]; rfl⟩
theorem CpAt.getZ {B : Nat} {w : World} {cv : Value} {D : List Ev} (h : CpAt B w cv D D.length) {i : Nat} (hi : i < D.length) : ∃ b o c na nc pa pc, cv = .slice (some ⟨b, o, none⟩) D.length c ∧ EC w b (o + i * 13) (eAt D i) (.slice na (eAt D i).ns.length nc) (.slice pa (eAt D i).ps.length pc) := by
  obtain ⟨L, hv, hL, hh⟩ := h.ex
  obtain ⟨b, o, c, na, nc, pa, pc, e, h1, -⟩ := events_get hv.view hL (fun i hi => by obtain ⟨sa, sb, e1, e2, e3⟩ := hh i hi; exact ⟨sa, sb, e1, e2.view, e3.view⟩) hi
  exact ⟨b, o, c, na, nc, pa, pc, e, h1⟩
end Go.Proofs.YtbielnehggcaoaaDoor
namespace Go.Proofs.YtbielnehggcaoaaDoor
open Go.RowKit
theorem eqBmZ (a b c a' b' c' : Int) (w : World) : (binOp .eql 55 (.agg #[.int .i64 a, .int .i64 b, .int .i64 c]) (.agg #[.int .i64 a', .int .i64 b', .int .i64 c'])).run Tryd.prog w = .ok (.bool (decide (a = a' ∧ b = b' ∧ c = c'))) w := by
  by_cases h1 : a = a'
  · subst h1
    by_cases h2 : b = b'
    · subst h2
      by_cases h3 : c = c'
      · subst h3
        go_simp
      · have d : (c == c') = false := by simpa using h3
        go_simp
    · have d : (b == b') = false := by simpa using h2
      go_simp
  · have d : (a == a') = false := by simpa using h1
    go_simp
theorem wp_thenZ {P : Program} {c : Code} {Q : Exit → Act → World → Prop} {a : Act} {w : World} (h : c.wp P (Exit.then (Q .normal) Q) a w) : c.wp P Q a w := wp_mono h (fun e a w h => by cases e <;> exact h)
/-- What holds behind the region's steps. -/
def Ph31 (x0 : World) (S : List (List (Int × Int))) (D : List Ev) (e : Ev) (ca : Array Value) : Nat → (Nat → Value) → World → Prop
  | 0, _, x => Turned [] x0 x
  | 1, u, x => Turned [] x0 x ∧ ∃ g, u 15 = .slice (some ⟨g, 0, none⟩) 1 1 ∧ x.heap[g]? = some (.cells ca 52 (0, 0))
  | 2, u, x => Turned [] x0 x ∧ EsAt x (u 16) (D ++ [e])
  | _, u, x => Turned [] x0 x ∧ ∃ v R, u 17 = .tuple #[v, .int .i64 0] ∧ BW x v R ∧ R.Perm (allBm S (D ++ [e]))
theorem run_slZ {b o n c : Nat} (h : n ≤ c) (hn : n ≤ 100000) (x : World) : (Instr.sliceAt 39 (Value.slice (some ⟨b, o, none⟩) n c) none (some (.int .i64 (n : Int))) (some (.int .i64 (n : Int)))).run Tryd.prog x = .ok (.slice (some ⟨b, o, none⟩) n n) x := by
  have h1 : (n : Int) ≤ (c : Int) := by omega
  have h2 : 0 ≤ (n : Int) := by omega
  go_simp
theorem run_loadX {x : World} {b o : Nat} {e : Ev} {na pa1 : Option Addr} {nl nc pl pc : Nat} (h : EC x b o e (.slice na nl nc) (.slice pa1 pl pc)) : (Instr.loadAt 52 (pa b o)).run Tryd.prog x = .ok (.agg (evA e (.slice na nl nc) (.slice pa1 pl pc))) x := by
  obtain ⟨c0, c1, c2, c3, c4, c5, c6, c7, c8, c9, c10, c11, c12, c13⟩ := h.all x (Turned.refl _ _)
  unfold pa evA
  go_simp
theorem cp_es {x : World} {B : Nat} {lv : Value} {D : List Ev} {i : Nat} (hp : ∀ i, (eAt D i).ps = []) (h : CpAt B x lv D D.length) (hi : i < D.length) (hl : D.length ≤ 2000) : ∃ b o c na nc pa pc, lv = .slice (some ⟨b, o, none⟩) D.length c ∧ D.length ≤ c ∧ EC x b (o + i * 13) (eAt D i) (.slice na (eAt D i).ns.length nc) (.slice pa (eAt D i).ps.length pc) ∧ ∀ y g, Turned [] x y → y.heap[g]? = some (.cells (evA (eAt D i) (.slice na (eAt D i).ns.length nc) (.slice pa (eAt D i).ps.length pc)) 52 (0, 0)) → ∃ v' w', (Builtin.append_ #[39, 39] 39 #[.slice (some ⟨b, o, none⟩) D.length D.length, .slice (some ⟨g, 0, none⟩) 1 1]).run Tryd.prog y = .ok v' w' ∧ Turned [] x w' ∧ EsAt w' v' (D ++ [eAt D i]) := by
  obtain ⟨L, hv, hL, hh⟩ := h.ex
  have hh2 : ∀ i, i < D.length → ∃ sa sb, L[i]? = some (eAt D i, sa, sb) ∧ VW (fun q : Int => [Value.int .i64 q]) x (slV sa) (eAt D i).ns ∧ VW encP x (slV sb) (eAt D i).ps := fun i hi => by
    obtain ⟨sa, sb, e1, e2, e3⟩ := hh i hi
    exact ⟨sa, sb, e1, e2.view, e3.view⟩
  obtain ⟨b, o, c, na, nc, pa, pc, e, h1, h2, h3⟩ := events_get hv.view hL hh2 hi
  subst e
  have hcap : D.length ≤ c := by
    rcases hv.own.2 with ⟨e, _⟩ | ⟨g', c', cs, e, hb, hg, h3, _⟩
    · cases e
    · simp only [Value.slice.injEq] at e
      rw [e.2.2, ← hL]
      exact h3
  refine ⟨b, o, c, na, nc, pa, pc, rfl, hcap, h1, fun y g hy hg => ?_⟩
  have hne : L ≠ [] := fun e => by rw [e] at hL; simp at hL; omega
  have hvw := hv.view.still hy
  rw [← hL] at hvw ⊢
  obtain ⟨v', w', hr, ho, ht⟩ := run_apFull (u := .slice (some ⟨g, 0, none⟩) 1 1) (M := [((eAt D i), ((na, (eAt D i).ns.length, nc) : SV), ((pa, (eAt D i).ps.length, pc) : SV))]) elX enX (ty := 39) hvw (VW.block (R := [((eAt D i), ((na, (eAt D i).ns.length, nc) : SV), ((pa, (eAt D i).ps.length, pc) : SV))]) (c := 1) hg (fun j u hu => by simpa [encX, slV] using hu)) hne (by simp) (by rw [hL]; simp only [List.length_cons, List.length_nil]; omega)
  refine ⟨v', w', hr, hy.trans ht, events_at ho.view (by rw [List.length_append, List.length_append, hL]; rfl) (fun j hj => ?_) (by rw [List.length_append]; simp only [List.length_cons, List.length_nil]; omega) (fun j => ?_)⟩
  · by_cases hlt : j < D.length
    · obtain ⟨sa, sb, e1, e2, e3⟩ := hh2 j hlt
      rw [eAt_app hlt]
      exact ⟨sa, sb, by rw [List.getElem?_append_left (by rw [hL]; exact hlt)]; exact e1, e2.still (hy.trans ht), e3.still (hy.trans ht)⟩
    · obtain rfl : j = D.length := by rw [List.length_append] at hj; simp only [List.length_cons, List.length_nil] at hj; omega
      rw [eAt_last]
      exact ⟨_, _, by rw [List.getElem?_append_right (by rw [hL]; exact Nat.le_refl _), hL, Nat.sub_self]; rfl, h2.still (hy.trans ht), h3.still (hy.trans ht)⟩
  · by_cases hlt : j < D.length
    · rw [eAt_app hlt, hp j]; simp
    · by_cases h4 : j = D.length
      · rw [h4, eAt_last, hp i]; simp
      · unfold eAt
        rw [List.getD_eq_getElem?_getD, List.getElem?_eq_none (by rw [List.length_append]; simp only [List.length_cons, List.length_nil]; omega)]
        simp [Ev.zero]
set_option maxRecDepth 100000 in
set_option maxHeartbeats 12800000 in
theorem jl_end {W x : World} {B sb stb p : Nat} {lv : Value} {D : List Ev} {a0 : Act} (hs : a0.tmps.size = 236) (hd : a0.defers = []) (x7 : a0.eval (.tmp 7) = .int .i64 (D.length : Nat)) (x10 : a0.eval (.tmp 10) = .pointer (some ⟨sb, 0, none⟩)) (x11 : a0.eval (.tmp 11) = .slice (some ⟨stb, 0, none⟩) p p) (hF : FN B x sb stb p lv D) (hS : SM (startS p) D) (hn : D.length < 900) (hp : 1 ≤ p ∧ p ≤ 4) (hW : Turned [] W x) : (atc Tryd.f7.body [1, 1, 1, 1, 1, 1, 1, 1, 1, 1]).wp Tryd.prog (bodyPost Tryd.prog Tryd.f7 fun r w' => r = .returned (.bool true) ∧ Turned [] W w') a0 x := by
  obtain ⟨cc, hcc, hce⟩ := expand236 hs hd
  have q7 := (hce 7).trans x7
  have q10 := (hce 10).trans x10
  have q11 := (hce 11).trans x11
  have HF : Hid _ := hF
  have HS : Hid _ := hS
  have HW : Hid _ := hW
  obtain ⟨z1, z2⟩ := hF.cell
  clear hce hs hd x7 x10 x11 hF hS hW
  subst hcc
  conv => arg 2; whnf
  unfold lit236
  simp only [q7, q10, q11]
  clear q7 q10 q11
  go_wp2
  go_loopw [17] (fun i wx => Bx (∃ k : Nat, k ≤ D.length ∧ i = .int .i64 k ∧ Hid (∀ j, j < k → (eAt D j).k ≠ 2) ∧ Hid (Turned [] x wx))) (fun i _ => D.length - (intOf i).toNat)
  case atStart => exact ⟨0, Nat.zero_le _, rfl, (fun j hj => absurd hj (Nat.not_lt_zero _)), Turned.refl _ _⟩
  case round =>
    obtain ⟨k, hk, rfl, HN, HT⟩ := hrel.ex
    clear hrel z1 z2
    have HFr : Hid _ := HF.out.still HT.out
    obtain ⟨z1, z2⟩ := HFr.out.cell
    by_cases hlt : k < D.length
    · obtain ⟨b, o, c, na, nc, pa1, pc, rfl, hcap, hec, hap⟩ := cp_es HS.out.pn HFr.out.cp hlt (by omega)
      obtain ⟨c0, c1, c2, c3, c4, c5, c6, c7, c8, c9, c10, c11, c12, c13⟩ := hec.all wr (Turned.refl _ _)
      have HAp : Hid _ := hap
      have HEc : Hid _ := hec
      obtain ⟨g1, g2, g3⟩ := in_i64 hlt (by omega)
      clear c1 c2 c3 c5 c6 c7 c8 c9 c10 c11 c12 c13 hec hap
      by_cases hk2 : (eAt D k).k = 2
      · rw [hk2] at c4
        go_upto_region 31 with fail
        have hTS : ∀ g u y, Ph31 wr (startS p) D (eAt D k) (evA (eAt D k) (.slice na (eAt D k).ns.length nc) (.slice pa1 (eAt D k).ps.length pc)) g u y → Turned [] wr y := fun g u y h => by
          match g, h with
          | 0, h => exact h
          | 1, h => exact h.1
          | 2, h => exact h.1
          | g + 3, h => exact h.1
        refine jl_r31 (ev := evA (eAt D k) (.slice na (eAt D k).ns.length nc) (.slice pa1 (eAt D k).ps.length pc)) (Ph := Ph31 wr (startS p) D (eAt D k) (evA (eAt D k) (.slice na (eAt D k).ns.length nc) (.slice pa1 (eAt D k).ps.length pc))) rfl rfl rfl rfl rfl g1 hlt g2 g3 (run_slZ hcap (by omega)) (fun g u y _ h => ((HFr.out.still (hTS g u y h)).cell).2) (fun g u y h => run_loadX ⟨fun z hz => HEc.out.all z ((hTS g u y h).trans hz)⟩) ?_ (Turned.refl _ _).drew ?_ ?_ ?_ ?_
        · intro g u y hg h
          obtain ⟨q, rfl⟩ : ∃ q, g = q + 3 := ⟨g - 3, by omega⟩
          obtain ⟨-, v, R, h1, -⟩ := h
          exact ⟨_, _, h1⟩
        · intro u y h
          have h : Turned [] wr y := h
          exact ⟨.slice (some ⟨y.heap.size, 0, none⟩) 1 1, y.alloc (.cells (evA (eAt D k) (.slice na (eAt D k).ns.length nc) (.slice pa1 (eAt D k).ps.length pc)) 52 (0, 0)), by unfold evA; go_simp, h.alloc _, y.heap.size, by simp [upd], blk_new _ _⟩
        · intro u y h
          obtain ⟨h1, g, h2, h3⟩ := h
          rw [h2]
          obtain ⟨v', w', hr, ht, he⟩ := HAp.out y g h1 h3
          exact ⟨v', w', hr, ht, by simpa [upd] using he⟩
        · intro u y h
          obtain ⟨h1, h2⟩ := h
          have hss := (HFr.out.still h1).sa.ss
          rw [startS_len] at hss
          refine (cVersions h2 hss (by rw [startS_len]; omega)).mono ?_
          intro r z hv
          rcases hv.ans with ⟨m1, -⟩ | ⟨-, v, R, rfl, pR, sR, bR⟩
          · rw [startS_len] at m1
            unfold manyB at m1
            simp only [Bool.or_eq_true, decide_eq_true_eq, List.length_append, List.length_cons, List.length_nil] at m1
            omega
          · exact ⟨_, rfl, h1.trans hv.tu, v, R, by simp [upd], bR.view, pR⟩
        · intro a' y u hsz hdf hoff h14 hPh
          obtain ⟨hT, v, R, h17, hB, hP⟩ := hPh
          rw [h17] at h14
          have h14 : a'.eval (.tmp 14) = v := h14
          obtain ⟨va, vc, rfl, hBc⟩ := hB.ex
          have HB : Hid _ := hBc
          have HTy : Hid (Turned [] W y) := (HW.out.trans HT.out).trans hT
          have HC : Hid (R.countP (threeB D.length k) = 3) := by
            rw [Hid, hP.countP_eq]
            exact HS.out.sto.two hlt hk2 (fun j hj => HN.out j hj)
          have hRl : R.length ≤ 1000000000 := by
            rw [hP.length_eq]
            exact allBm_len (by rw [List.length_append]; simp only [List.length_cons, List.length_nil]; omega) (by rw [startS_len]; omega)
          have E := act_many a' [180, 181, 182, 183, 184, 185, 186, 187, 188, 189, 190, 191, 192, 193, 194, 195, 196, 197, 179, 198, 199, 14] _ hsz.symm hdf.symm (fun s hs => hoff s (fun h => hs (by simpa using h)))
          rw [E]
          clear E hoff hsz hdf hT hP h17 hBc hTS HAp HEc HFr HN c0 c4 hcap z1 z2
          simp only [List.foldl, Act.put, List.setIfInBounds_toArray, List.set_cons_zero, List.set_cons_succ, h14]
          clear h14
          have heq := eqBmZ
          go_wp2
          go_loopw [18, 19] (fun two i wx => Bx (∃ j : Nat, j ≤ R.length ∧ i = .int .i64 j ∧ two = .int .i64 ((R.take j).countP (threeB D.length k) : Nat) ∧ wx = y)) (fun _ i _ => R.length - (intOf i).toNat)
          case atStart => exact ⟨0, Nat.zero_le _, rfl, rfl, rfl⟩
          case round =>
            obtain ⟨j, hj, rfl, rfl, rfl⟩ := hrel.ex
            clear hrel
            by_cases hjl : j < R.length
            · obtain ⟨b2, o2, rfl, r0, r1, r2⟩ := HB.out j hjl
              have kl := cell_lt r0
              have HTk : Hid ((R.take (j + 1)).countP (threeB D.length k) = (R.take j).countP (threeB D.length k) + if threeB D.length k R[j] then 1 else 0) := by
                rw [Hid, List.take_add_one, List.getElem?_eq_getElem hjl, Option.toList_some, List.countP_append, List.countP_cons, List.countP_nil, Nat.zero_add]
              have hcl : (R.take j).countP (threeB D.length k) ≤ 1000000000 := Nat.le_trans List.countP_le_length (by rw [List.length_take]; omega)
              generalize (R.take j).countP (threeB D.length k) = cnt at HTk hcl
              generalize R[j] = q at *
              obtain ⟨p1, p2, p3⟩ := q
              dsimp only at r0 r1 r2
              have hw : IntKind.i64.wrap ((cnt : Int) + 1) = (cnt : Int) + 1 := by simp [IntKind.wrap, IntKind.bits, IntKind.signed]; omega
              by_cases e1 : p1 = (D.length : Int) ∧ p2 = (k : Int) ∧ p3 = 2
              · have d1 : decide (p1 = (D.length : Int) ∧ p2 = (k : Int) ∧ p3 = 2) = true := decide_eq_true e1
                have HYes : Hid ((if threeB D.length k (p1, p2, p3) = true then 1 else 0) = 1) := by
                  obtain ⟨rfl, rfl, rfl⟩ := e1
                  rw [Hid, if_pos (by unfold threeB; simp)]
                clear e1
                go_wp2
                go_roundw
                case rel => exact ⟨j + 1, by omega, by go_num, by rw [HTk.out, HYes.out]; go_num, trivial⟩
                case measure => simp [intOf]; omega
              have d1 : decide (p1 = (D.length : Int) ∧ p2 = (k : Int) ∧ p3 = 2) = false := decide_eq_false e1
              by_cases e2 : p1 = (k : Int) ∧ p2 = -1 ∧ p3 = 3
              · have d2 : decide (p1 = (k : Int) ∧ p2 = -1 ∧ p3 = 3) = true := decide_eq_true e2
                have HYes : Hid ((if threeB D.length k (p1, p2, p3) = true then 1 else 0) = 1) := by
                  obtain ⟨rfl, rfl, rfl⟩ := e2
                  rw [Hid, if_pos (by unfold threeB; simp)]
                clear e1 e2
                go_wp2
                go_roundw
                case rel => exact ⟨j + 1, by omega, by go_num, by rw [HTk.out, HYes.out]; go_num, trivial⟩
                case measure => simp [intOf]; omega
              have d2 : decide (p1 = (k : Int) ∧ p2 = -1 ∧ p3 = 3) = false := decide_eq_false e2
              by_cases e3 : p1 = (D.length : Int) ∧ p2 = -1 ∧ p3 = 3
              · have d3 : decide (p1 = (D.length : Int) ∧ p2 = -1 ∧ p3 = 3) = true := decide_eq_true e3
                have HYes : Hid ((if threeB D.length k (p1, p2, p3) = true then 1 else 0) = 1) := by
                  obtain ⟨rfl, rfl, rfl⟩ := e3
                  rw [Hid, if_pos (by unfold threeB; simp)]
                clear e1 e2 e3
                go_wp2
                go_roundw
                case rel => exact ⟨j + 1, by omega, by go_num, by rw [HTk.out, HYes.out]; go_num, trivial⟩
                case measure => simp [intOf]; omega
              · have d3 : decide (p1 = (D.length : Int) ∧ p2 = -1 ∧ p3 = 3) = false := decide_eq_false e3
                have HNo : Hid ((if threeB D.length k (p1, p2, p3) = true then 1 else 0) = 0) := by
                  rw [Hid, if_neg]
                  unfold threeB
                  simp only [Bool.or_eq_true, decide_eq_true_eq, Prod.mk.injEq]
                  rintro (h | h | h)
                  · exact e1 h
                  · exact e2 h
                  · exact e3 h
                clear e1 e2 e3
                go_wp2
                go_roundw
                case rel => exact ⟨j + 1, by omega, by go_num, by rw [HTk.out, HNo.out]; go_num, trivial⟩
                case measure => simp [intOf]; omega
            · obtain rfl : j = R.length := by omega
              have hC3 := HC.out
              rw [List.take_length, hC3]
              go_wp2
              go_ret
              exact ⟨rfl, HTy.out⟩
      · have HN2 : Hid (∀ j, j < k + 1 → (eAt D j).k ≠ 2) := fun j hj => by
          by_cases e : j < k
          · exact HN.out j e
          · rw [show j = k by omega]
            exact hk2
        have d2 : ((eAt D k).k == 2) = false := by simpa using hk2
        generalize (eAt D k).k = kk at c4 d2
        clear hk2 HAp HEc HFr HN
        go_wp2
        go_roundw
        case rel => exact ⟨k + 1, by omega, by go_num, HN2, HT⟩
        case measure => simp [intOf]; omega
    · go_wp2
      go_ret
      exact ⟨rfl, HW.out.trans HT.out⟩
end Go.Proofs.YtbielnehggcaoaaDoor

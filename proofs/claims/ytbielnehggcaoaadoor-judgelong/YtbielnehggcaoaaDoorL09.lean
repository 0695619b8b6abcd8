/- Drawn regions of package judge. (Written by tools/gen/genju.py.) -/
import Derived.Test.YtbielnehggcaoaaDoorL04
import Derived.Test.YtbielnehggcaoaaDoorL08
import Derived.Laws.ResultCell
set_option linter.unusedVariables false
namespace Go.Proofs.YtbielnehggcaoaaDoor
open Go.RowKit
theorem x_extrQ {ρ : Operand → Value} {o : Oper} {w : World} {x : Operand} {k : Nat} {vs : Array Value} {v : Value} (h : o.op = .extract x k) (hx : ρ x = .tuple vs) (hv : vs[k]? = some v) : (execOp ρ o).run Tryd.prog w = .ok (.value v) w := by
  simp [execOp, h, hx, Instr.extract, hv]
structure GQ where
  ca : Bool
  nb : Option Nat
  st : Bool
def doneQ (c a s : Nat) (g : GQ) (i : Nat) : Bool := if i = c then g.ca else if i = a then g.nb.isSome else if i = s then g.st else false
/-- A set of places as an int. -/
def sI (m : Nat) : Int := IntKind.wrap .i64 (m : Int)
theorem sI_back {m : Nat} (hm : m < 18446744073709551616) : IntKind.wrap .u64 (sI m) = (m : Int) := by
  unfold sI
  rw [IntKind.wrap_u64, IntKind.wrap_i64]
  omega
/-- Deed i of a list, as it lies in memory. -/
structure DAt (w : World) (b o i : Nat) (d : Dd) : Prop where
  h0 : w.cell? ⟨b, o + i * 8, none⟩ = some (.int .i64 d.b)
  h1 : w.cell? ⟨b, o + i * 8 + 1, none⟩ = some (.int .i64 d.e)
  h2 : w.cell? ⟨b, o + i * 8 + 2, none⟩ = some (.int .i64 d.k)
  h3 : w.cell? ⟨b, o + i * 8 + 3, none⟩ = some (.int .i64 d.a)
  h4 : w.cell? ⟨b, o + i * 8 + 4, none⟩ = some (.int .i64 d.x)
  h5 : w.cell? ⟨b, o + i * 8 + 5, none⟩ = some (.int .i64 d.c)
  h6 : w.cell? ⟨b, o + i * 8 + 6, none⟩ = some (.int .i64 d.n)
  h7 : w.cell? ⟨b, o + i * 8 + 7, none⟩ = some (.bool d.ok)
theorem DAt.keep {w w' : World} {b o i : Nat} {d : Dd} {l : List Nat} (h : DAt w b o i d) (ht : Turned l w w') (hb : b ∉ l) : DAt w' b o i d :=
  ⟨ht.cell h.h0 hb, ht.cell h.h1 hb, ht.cell h.h2 hb, ht.cell h.h3 hb, ht.cell h.h4 hb, ht.cell h.h5 hb, ht.cell h.h6 hb, ht.cell h.h7 hb⟩
theorem DsAt.deed {w : World} {ad : Option Addr} {D : List Dd} (h : DsAt w ad D) {i : Nat} {d : Dd} (hd : D[i]? = some d) : ∃ b o, ad = some ⟨b, o, none⟩ ∧ b < w.heap.size ∧ DAt w b o i d := by
  obtain ⟨b, o, e, hb, h0, h1, h2, h3, h4, h5, h6, h7⟩ := h.all i d hd
  exact ⟨b, o, e, hb, h0, h1, h2, h3, h4, h5, h6, h7⟩
def did_r1V (sb g4 lb lo n cap ix : Nat) (v : Int) (d : Dd) (g : GQ) : Nat → Value := fun j => match j with | 0 => (pa sb 0) | 1 => (pa sb 0) | 2 => (pa sb 0) | 3 => (Value.slice (some ⟨lb, lo, none⟩) n cap) | 4 => (Value.int IntKind.i64 (ix : Int)) | 5 => (pa lb (lo + ix * 8)) | 6 => (Value.agg #[.int .i64 d.b, .int .i64 d.e, .int .i64 d.k, .int .i64 d.a, .int .i64 d.x, .int .i64 d.c, .int .i64 d.n, .bool d.ok]) | 7 => (pa g4 2) | 8 => (Value.int IntKind.i64 v) | 9 => (Value.agg #[.int .i64 (d.next v), .int .i64 (d.ans v), .bool (d.did v)]) | 10 => (pa (g.nb.getD 0) 0) | 11 => undef | _ => undef
set_option maxRecDepth 100000 in
set_option maxHeartbeats 1600000 in
theorem did_r1 {sb g4 lb lo n cap ix : Nat} {v : Int} {d : Dd} {K : Act → World → Prop} {Q : Exit → Act → World → Prop} {a0 : Act} {w : World} (hs : a0.tmps.size = 39) (x0 : a0.eval (.tmp 0) = pa sb 0) (x2 : a0.eval (.tmp 2) = .int .i64 (ix : Int)) (x4 : a0.eval (.tmp 4) = pa g4 0) (hsd : w.cell? ⟨sb, 0, none⟩ = some (.slice (some ⟨lb, lo, none⟩) n cap)) (hc : w.cell? ⟨g4, 2, none⟩ = some (.int .i64 v)) (hD : DAt w lb lo ix d) (hin : (ix : Int) < n)
    (hCall : ∀ x, Turned [] w x → Calls Tryd.prog 69 #[(Value.agg #[.int .i64 d.b, .int .i64 d.e, .int .i64 d.k, .int .i64 d.a, .int .i64 d.x, .int .i64 d.c, .int .i64 d.n, .bool d.ok]), .int .i64 v] x fun e w' => e = .returned (Value.agg #[.int .i64 (d.next v), .int .i64 (d.ans v), .bool (d.did v)]) ∧ Turned [] x w')
    (hEnd : ∀ a' x nb, a'.tmps.size = a0.tmps.size → a'.defers = a0.defers → (∀ s, some s ∉ ([some 9, some 10, some 11, some 12, some 13, some 14, some 15, some 16, some 17, some 18, some 8, none] : List (Option Nat)) → a'.eval (.tmp s) = a0.eval (.tmp s)) → a'.eval (.tmp 8) = pa nb 0 →  Turned [] w x → x.heap[nb]? = some (Obj.cells #[.int .i64 (d.next v), .int .i64 (d.ans v), .bool (d.did v)] 131 (0, 0)) → w.heap.size ≤ nb → K a' x) : (Code.region 1 (opsOf 1 Tryd.f48.body) true).wp Tryd.prog (Exit.then K Q) a0 w := by
  refine wp_region_ghost3 (G := GQ) (by kernel_rfl) [some 9, some 10, some 11, some 12, some 13, some 14, some 15, some 16, some 17, some 18, some 8, none] (by rw [hs]; kernel_rfl) (did_r1V sb g4 lb lo n cap ix v d) [9, 10, 11] ?_ (doneQ 9 10 11) (fun g x => Turned [] w x ∧ ∀ nb, g.nb = some nb → w.heap.size ≤ nb ∧ x.heap[nb]? = some (if g.st = true then Obj.cells #[.int .i64 (d.next v), .int .i64 (d.ans v), .bool (d.did v)] 131 (0, 0) else Obj.cells #[.int .i64 0, .int .i64 0, .bool false] 131 (0, 0))) (⟨false, none, false⟩) (⟨(Turned.refl _ _).drew, fun nb hnb => (by cases hnb)⟩) (by intro x hx; simp at hx; rcases hx with rfl | rfl | rfl <;> rfl) (by decide) ?_ ?_
  · intro i g b h γ
    have hi : i < 12 := by
      apply Classical.byContradiction
      intro hn
      rw [show (opsOf 1 Tryd.f48.body)[i]? = none from Array.getElem?_eq_none (by have : (opsOf 1 Tryd.f48.body).size = 12 := (by kernel_rfl); omega)] at h
      cases h
    rcases (by omega : i = 0 ∨ i = 1 ∨ i = 2 ∨ i = 3 ∨ i = 4 ∨ i = 5 ∨ i = 6 ∨ i = 7 ∨ i = 8 ∨ i = 9 ∨ i = 10 ∨ i = 11) with rfl | rfl | rfl | rfl | rfl | rfl | rfl | rfl | rfl | rfl | rfl | rfl
    · rw [show ((opsOf 1 Tryd.f48.body)[0]?).bind (fun o : Oper => o.guard) = none from by kernel_rfl] at h
      cases h
    · rw [show ((opsOf 1 Tryd.f48.body)[1]?).bind (fun o : Oper => o.guard) = none from by kernel_rfl] at h
      cases h
    · rw [show ((opsOf 1 Tryd.f48.body)[2]?).bind (fun o : Oper => o.guard) = none from by kernel_rfl] at h
      cases h
    · rw [show ((opsOf 1 Tryd.f48.body)[3]?).bind (fun o : Oper => o.guard) = none from by kernel_rfl] at h
      cases h
    · rw [show ((opsOf 1 Tryd.f48.body)[4]?).bind (fun o : Oper => o.guard) = none from by kernel_rfl] at h
      cases h
    · rw [show ((opsOf 1 Tryd.f48.body)[5]?).bind (fun o : Oper => o.guard) = none from by kernel_rfl] at h
      cases h
    · rw [show ((opsOf 1 Tryd.f48.body)[6]?).bind (fun o : Oper => o.guard) = none from by kernel_rfl] at h
      cases h
    · rw [show ((opsOf 1 Tryd.f48.body)[7]?).bind (fun o : Oper => o.guard) = none from by kernel_rfl] at h
      cases h
    · rw [show ((opsOf 1 Tryd.f48.body)[8]?).bind (fun o : Oper => o.guard) = none from by kernel_rfl] at h
      cases h
    · rw [show ((opsOf 1 Tryd.f48.body)[9]?).bind (fun o : Oper => o.guard) = none from by kernel_rfl] at h
      cases h
    · rw [show ((opsOf 1 Tryd.f48.body)[10]?).bind (fun o : Oper => o.guard) = none from by kernel_rfl] at h
      cases h
    · rw [show ((opsOf 1 Tryd.f48.body)[11]?).bind (fun o : Oper => o.guard) = none from by kernel_rfl] at h
      cases h
  · intro i hi hgd
    rcases (by simp at hi; omega : i = 0 ∨ i = 1 ∨ i = 2 ∨ i = 3 ∨ i = 4 ∨ i = 5 ∨ i = 6 ∨ i = 7 ∨ i = 8 ∨ i = 9 ∨ i = 10 ∨ i = 11) with rfl | rfl | rfl | rfl | rfl | rfl | rfl | rfl | rfl | rfl | rfl | rfl
    · refine soft (by decide) ?_
      intro o ac wa g ho hoff hv hS hdn
      exact (x_move (op_is rfl ho)).trans (by rw [((hoff 0 (by decide)).trans x0)]; rfl)
    · refine soft (by decide) ?_
      intro o ac wa g ho hoff hv hS hdn
      exact x_nil (op_is rfl ho) ((hv 0 9 rfl (by kernel_rfl)))
    · refine soft (by decide) ?_
      intro o ac wa g ho hoff hv hS hdn
      exact x_field (op_is rfl ho) (by rw [(hv 1 10 rfl (by kernel_rfl))]; show (Instr.fieldAt _ (pa _ _) _).run _ _ = .ok (pa _ _) _; unfold pa; go_simp)
    · refine soft (by decide) ?_
      intro o ac wa g ho hoff hv hS hdn
      have hc := hS.1.cell hsd (by simp)
      exact x_load (op_is rfl ho) (by rw [(hv 2 11 rfl (by kernel_rfl))]; show (Instr.loadAt _ (pa _ _)).run _ _ = _; unfold pa; go_simp; rfl)
    · refine soft (by decide) ?_
      intro o ac wa g ho hoff hv hS hdn
      exact (x_move (op_is rfl ho)).trans (by rw [((hoff 2 (by decide)).trans x2)]; rfl)
    · refine soft (by decide) ?_
      intro o ac wa g ho hoff hv hS hdn
      exact x_index (op_is rfl ho) (by rw [(hv 3 12 rfl (by kernel_rfl)), (hv 4 13 rfl (by kernel_rfl))]; show (Instr.indexAt _ (Value.slice (some ⟨lb, lo, none⟩) n cap) (Value.int IntKind.i64 (ix : Int))).run _ _ = .ok (pa _ _) _; unfold pa; go_simp)
    · refine soft (by decide) ?_
      intro o ac wa g ho hoff hv hS hdn
      obtain ⟨q0, q1, q2, q3, q4, q5, q6, q7⟩ := hD.keep hS.1 (by simp)
      exact x_load (op_is rfl ho) (by rw [(hv 5 14 rfl (by kernel_rfl))]; show (Instr.loadAt _ (pa _ _)).run _ _ = _; unfold pa; go_simp; rfl)
    · refine soft (by decide) ?_
      intro o ac wa g ho hoff hv hS hdn
      exact x_index (op_is rfl ho) (by rw [((hoff 4 (by decide)).trans x4)]; show (Instr.indexAt _ (pa _ _) _).run _ _ = .ok (pa _ _) _; unfold pa; go_simp)
    · refine soft (by decide) ?_
      intro o ac wa g ho hoff hv hS hdn
      have hc := hS.1.cell hc (by simp)
      exact x_load (op_is rfl ho) (by rw [(hv 7 16 rfl (by kernel_rfl))]; show (Instr.loadAt _ (pa _ _)).run _ _ = _; unfold pa; go_simp; rfl)
    · intro o ac wa g K ho hd _ hoff hv hS hpre hnd hlater hK
      have hst : g.st = false := by
        have := hlater 11 (by simp) (by kernel_rfl)
        simpa [doneQ] using this
      refine l_callE (op_is rfl ho) (xs := #[(Value.agg #[.int .i64 d.b, .int .i64 d.e, .int .i64 d.k, .int .i64 d.a, .int .i64 d.x, .int .i64 d.c, .int .i64 d.n, .bool d.ok]), .int .i64 v]) (by simp only [List.map_toArray, List.map_cons, List.map_nil]; rw [(hv 6 15 rfl (by kernel_rfl)), (hv 8 17 rfl (by kernel_rfl))]; rfl) Tryd.func69 (by kernel_rfl) rfl (hCall wa hS.1) ?_
      rintro e w' ⟨rfl, ht⟩
      refine ⟨_, rfl, ?_⟩
      rw [hd]
      refine hK { g with ca := true } w' ⟨hS.1.trans ht, fun nb hnb => ⟨(hS.2 nb hnb).1, ht.heap (hS.2 nb hnb).2 (by simp)⟩⟩ (by intro x hx; simp at hx; rcases hx with rfl | rfl | rfl <;> simp [doneQ]) fun j hj hr => ?_
      match j, hr with
      | 0, _ => rfl
      | 1, _ => rfl
      | 2, _ => rfl
      | 3, _ => rfl
      | 4, _ => rfl
      | 5, _ => rfl
      | 6, _ => rfl
      | 7, _ => rfl
      | 8, _ => rfl
      | 9, _ => exact absurd rfl hj
      | 10, _ => rfl
      | 11, _ => rfl
      | k + 12, _ => rfl
    · intro o ac wa g K ho hd _ hoff hv hS hpre hnd hlater hK
      have hg : g.nb = none := by have := hnd (by simp); simpa [doneQ] using this
      have hst : g.st = false := by
        have := hlater 11 (by simp) (by kernel_rfl)
        simpa [doneQ] using this
      refine l_val hd (x_alloc (op_is rfl ho) (v := pa wa.heap.size 0) (w' := wa.alloc (Obj.cells #[.int .i64 0, .int .i64 0, .bool false] 131 (0, 0))) (by unfold pa; go_simp)) ?_
      refine hK { g with nb := some wa.heap.size } _ ⟨hS.1.alloc _, fun nb hnb => ?_⟩ (by intro x hx; simp at hx; rcases hx with rfl | rfl | rfl <;> simp [doneQ, hg]) fun j hj hr => ?_
      · cases hnb
        refine ⟨hS.1.size, ?_⟩
        rw [hst]
        exact blk_new _ _
      · match j, hr with
        | 0, _ => rfl
        | 1, _ => rfl
        | 2, _ => rfl
        | 3, _ => rfl
        | 4, _ => rfl
        | 5, _ => rfl
        | 6, _ => rfl
        | 7, _ => rfl
        | 8, _ => rfl
        | 9, _ => rfl
        | 10, _ => exact absurd rfl hj
        | 11, hr => exact absurd (hr.symm.trans (by kernel_rfl : reachB (opsOf 1 Tryd.f48.body) (opsOf 1 Tryd.f48.body).size 11 10 = true)) (by decide)
        | k + 12, _ => rfl
    · intro o ac wa g K ho hd _ hoff hv hS hpre hnd hlater hK
      obtain ⟨nb, hnb⟩ := Option.isSome_iff_exists.1 (show g.nb.isSome = true from by have := hpre 10 (by simp) (by kernel_rfl); simpa [doneQ] using this)
      have hst : g.st = false := by have := hnd (by simp); simpa [doneQ] using this
      have e1 := (hv 10 8 rfl (by kernel_rfl))
      have e2 := (hv 9 18 rfl (by kernel_rfl))
      have hb := (hS.2 nb hnb).2
      have hbn := (hS.2 nb hnb).1
      rw [hst] at hb
      have c0 : wa.cell? ⟨nb, 0, none⟩ = some (Value.int IntKind.i64 0) := cell_at hb 0
      have c1 : wa.cell? ⟨nb, 1, none⟩ = some (Value.int IntKind.i64 0) := cell_at hb 1
      have c2 : wa.cell? ⟨nb, 2, none⟩ = some (Value.bool false) := cell_at hb 2
      have z := froz_at hb
      refine l_skip hd (w' := (((wa.setCell ⟨nb, 0, none⟩ (.int .i64 (d.next v))).setCell ⟨nb, 1, none⟩ (.int .i64 (d.ans v))).setCell ⟨nb, 2, none⟩ (.bool (d.did v)))) (x_store (op_is rfl ho) (by
        rw [e1, e2]
        show (Instr.storeAt _ (pa (g.nb.getD 0) 0) (Value.agg #[.int .i64 (d.next v), .int .i64 (d.ans v), .bool (d.did v)])).run _ _ = _
        rw [hnb]
        show (Instr.storeAt _ (pa nb 0) (Value.agg #[.int .i64 (d.next v), .int .i64 (d.ans v), .bool (d.did v)])).run _ _ = _
        unfold pa
        go_simp)) ?_
      have htn : Turned [nb] wa (((wa.setCell ⟨nb, 0, none⟩ (.int .i64 (d.next v))).setCell ⟨nb, 1, none⟩ (.int .i64 (d.ans v))).setCell ⟨nb, 2, none⟩ (.bool (d.did v))) := ((((Turned.refl _ _).set (.inl (by simp)) 0 _).set (.inl (by simp)) 1 _).set (.inl (by simp)) 2 _)
      refine hK { g with st := true } _ ⟨hS.1.inner htn (by intro x hx; simp at hx; subst hx; exact .inr hbn), fun nb' hnb' => ?_⟩ (by intro x hx; simp at hx; rcases hx with rfl | rfl | rfl <;> simp [doneQ]) fun j hj hr => ?_
      · have : nb' = nb := by rw [hnb] at hnb'; cases hnb'; rfl
        subst this
        refine ⟨hbn, ?_⟩
        show _ = some (if true = true then Obj.cells #[.int .i64 (d.next v), .int .i64 (d.ans v), .bool (d.did v)] 131 (0, 0) else _)
        rw [if_pos rfl, (blk_set (blk_set (blk_set hb 0 _) 1 _) 2 _)]
        rfl
      · match j, hr with
        | 0, _ => rfl
        | 1, _ => rfl
        | 2, _ => rfl
        | 3, _ => rfl
        | 4, _ => rfl
        | 5, _ => rfl
        | 6, _ => rfl
        | 7, _ => rfl
        | 8, _ => rfl
        | 9, _ => rfl
        | 10, _ => rfl
        | 11, _ => exact absurd rfl hj
        | k + 12, _ => rfl
  · intro a' w' g hsz hdf hoff hS hdn hval
    obtain ⟨nb, hnb⟩ := Option.isSome_iff_exists.1 (show g.nb.isSome = true from by have := hdn 10 (by simp); simpa [doneQ] using this)
    have hst : g.st = true := by have := hdn 11 (by simp); simpa [doneQ] using this
    have hb := (hS.2 nb hnb).2
    rw [hst, if_pos rfl] at hb
    exact hEnd a' w' nb hsz hdf (fun s hs => ev_same (hoff s hs)) ((hval 10 8 rfl).trans (by show pa (g.nb.getD 0) 0 = _; rw [hnb]; rfl))  hS.1 hb (hS.2 nb hnb).1
theorem x_conv {ρ : Operand → Value} {o : Oper} {w : World} {src dst : TypeId} {x : Operand} {v : Value} (h : o.op = .convert src dst x) (hr : (convert src dst (ρ x)).run Tryd.prog w = .ok v w) : (execOp ρ o).run Tryd.prog w = .ok (.value v) w := by
  simp [execOp, h, hr, Result.andThen]
theorem run_conv_u (x : Int) {w : World} : (convert 3 102 (.int .i64 x)).run Tryd.prog w = .ok (.int .u64 (IntKind.wrap .u64 x)) w := by go_simp
theorem run_conv_i (m : Nat) {w : World} : (convert 102 3 (.int .u64 (m : Int))).run Tryd.prog w = .ok (.int .i64 (sI m)) w := by unfold sI; go_simp
def did_r2V (sb g4 g6 g8 lb lo n cap ix m : Nat) (c v : Int) (d : Dd) (_ : Bool) : Nat → Value := fun j => match j with | 0 => (pa g4 0) | 1 => (Value.int IntKind.i64 c) | 2 => (pa g4 1) | 3 => (Value.int IntKind.i64 (sI m)) | 4 => (Value.int IntKind.u64 (m : Int)) | 5 => (Value.int IntKind.i64 (ix : Int)) | 6 => (Value.int IntKind.u64 ((m ||| 2 ^ ix : Nat) : Int)) | 7 => (Value.int IntKind.i64 (sI (m ||| 2 ^ ix))) | 8 => (pa g8 0) | 9 => (Value.int IntKind.i64 (d.next v)) | 10 => (Value.agg #[.int .i64 c, .int .i64 (sI (m ||| 2 ^ ix)), .int .i64 (d.next v)]) | 11 => (Value.agg #[.int .i64 (d.next v), .int .i64 (d.ans v), .bool (d.did v)]) | 12 => (pa sb 0) | 13 => (pa sb 0) | 14 => (pa sb 0) | 15 => (Value.slice (some ⟨lb, lo, none⟩) n cap) | 16 => (Value.int IntKind.i64 (ix : Int)) | 17 => (pa lb (lo + ix * 8)) | 18 => (Value.agg #[.int .i64 d.b, .int .i64 d.e, .int .i64 d.k, .int .i64 d.a, .int .i64 d.x, .int .i64 d.c, .int .i64 d.n, .bool d.ok]) | 19 => (Value.bool (d.fits v)) | 20 => undef | 21 => (Value.bool (d.fits v)) | _ => undef
set_option maxRecDepth 100000 in
set_option maxHeartbeats 1600000 in
theorem did_r2 {sb g4 g6 g8 lb lo n cap ix m : Nat} {c v : Int} {d : Dd} {K : Act → World → Prop} {Q : Exit → Act → World → Prop} {a0 : Act} {w : World} (hs : a0.tmps.size = 39) (x0 : a0.eval (.tmp 0) = pa sb 0) (x2 : a0.eval (.tmp 2) = .int .i64 (ix : Int)) (x4 : a0.eval (.tmp 4) = pa g4 0) (x6 : a0.eval (.tmp 6) = pa g6 0) (x8 : a0.eval (.tmp 8) = pa g8 0) (hsd : w.cell? ⟨sb, 0, none⟩ = some (.slice (some ⟨lb, lo, none⟩) n cap)) (hg4 : w.heap[g4]? = some (.cells #[.int .i64 c, .int .i64 (sI m), .int .i64 v] 109 (0, 0))) (hg8 : w.heap[g8]? = some (.cells #[.int .i64 (d.next v), .int .i64 (d.ans v), .bool (d.did v)] 131 (0, 0))) (hD : DAt w lb lo ix d) (hin : (ix : Int) < n) (hm : m < 18446744073709551616) (n1 : sb ≠ g6) (n2 : lb ≠ g6) (n3 : g4 ≠ g6) (n4 : g8 ≠ g6) (hB : w.heap[g6]? = some (Obj.cells #[.int .i64 0, .int .i64 0, .int .i64 0] 109 (0, 0)))
    (hW : ∀ x, Calls Tryd.prog 45 #[.int .u64 (m : Int), .int .i64 (ix : Int)] x fun e w' => e = .returned (Value.int IntKind.u64 ((m ||| 2 ^ ix : Nat) : Int)) ∧ Turned [] x w') (hF : ∀ x, Calls Tryd.prog 70 #[(Value.agg #[.int .i64 (d.next v), .int .i64 (d.ans v), .bool (d.did v)]), (Value.agg #[.int .i64 d.b, .int .i64 d.e, .int .i64 d.k, .int .i64 d.a, .int .i64 d.x, .int .i64 d.c, .int .i64 d.n, .bool d.ok])] x fun e w' => e = .returned (Value.bool (d.fits v)) ∧ Turned [] x w')
    (hEnd : ∀ a' x, a'.tmps.size = a0.tmps.size → a'.defers = a0.defers → (∀ s, some s ∉ ([some 19, some 20, some 21, some 22, some 23, some 24, some 25, some 26, some 27, some 28, some 29, some 30, some 31, some 32, some 33, some 34, some 35, some 36, some 37, some 38, none, some 7] : List (Option Nat)) → a'.eval (.tmp s) = a0.eval (.tmp s)) → a'.eval (.tmp 7) = (Value.bool (d.fits v)) → Turned [g6] w x → x.heap[g6]? = some (Obj.cells #[.int .i64 c, .int .i64 (sI (m ||| 2 ^ ix)), .int .i64 (d.next v)] 109 (0, 0)) → K a' x) : (Code.region 2 (opsOf 2 Tryd.f48.body) true).wp Tryd.prog (Exit.then K Q) a0 w := by
  refine wp_region_ghost3 (G := Bool) (by kernel_rfl) [some 19, some 20, some 21, some 22, some 23, some 24, some 25, some 26, some 27, some 28, some 29, some 30, some 31, some 32, some 33, some 34, some 35, some 36, some 37, some 38, none, some 7] (by rw [hs]; kernel_rfl) (did_r2V sb g4 g6 g8 lb lo n cap ix m c v d) [20] ?_ (fun g _ => g) (fun g x => Turned [g6] w x ∧ x.heap[g6]? = some (if g = true then Obj.cells #[.int .i64 c, .int .i64 (sI (m ||| 2 ^ ix)), .int .i64 (d.next v)] 109 (0, 0) else Obj.cells #[.int .i64 0, .int .i64 0, .int .i64 0] 109 (0, 0))) (false) (⟨(Turned.refl _ _).drew, hB⟩) (by intro x hx; rfl) (by decide) ?_ ?_
  · intro i g b h γ
    have hi : i < 22 := by
      apply Classical.byContradiction
      intro hn
      rw [show (opsOf 2 Tryd.f48.body)[i]? = none from Array.getElem?_eq_none (by have : (opsOf 2 Tryd.f48.body).size = 22 := (by kernel_rfl); omega)] at h
      cases h
    rcases (by omega : i = 0 ∨ i = 1 ∨ i = 2 ∨ i = 3 ∨ i = 4 ∨ i = 5 ∨ i = 6 ∨ i = 7 ∨ i = 8 ∨ i = 9 ∨ i = 10 ∨ i = 11 ∨ i = 12 ∨ i = 13 ∨ i = 14 ∨ i = 15 ∨ i = 16 ∨ i = 17 ∨ i = 18 ∨ i = 19 ∨ i = 20 ∨ i = 21) with rfl | rfl | rfl | rfl | rfl | rfl | rfl | rfl | rfl | rfl | rfl | rfl | rfl | rfl | rfl | rfl | rfl | rfl | rfl | rfl | rfl | rfl
    · rw [show ((opsOf 2 Tryd.f48.body)[0]?).bind (fun o : Oper => o.guard) = none from by kernel_rfl] at h
      cases h
    · rw [show ((opsOf 2 Tryd.f48.body)[1]?).bind (fun o : Oper => o.guard) = none from by kernel_rfl] at h
      cases h
    · rw [show ((opsOf 2 Tryd.f48.body)[2]?).bind (fun o : Oper => o.guard) = none from by kernel_rfl] at h
      cases h
    · rw [show ((opsOf 2 Tryd.f48.body)[3]?).bind (fun o : Oper => o.guard) = none from by kernel_rfl] at h
      cases h
    · rw [show ((opsOf 2 Tryd.f48.body)[4]?).bind (fun o : Oper => o.guard) = none from by kernel_rfl] at h
      cases h
    · rw [show ((opsOf 2 Tryd.f48.body)[5]?).bind (fun o : Oper => o.guard) = none from by kernel_rfl] at h
      cases h
    · rw [show ((opsOf 2 Tryd.f48.body)[6]?).bind (fun o : Oper => o.guard) = none from by kernel_rfl] at h
      cases h
    · rw [show ((opsOf 2 Tryd.f48.body)[7]?).bind (fun o : Oper => o.guard) = none from by kernel_rfl] at h
      cases h
    · rw [show ((opsOf 2 Tryd.f48.body)[8]?).bind (fun o : Oper => o.guard) = none from by kernel_rfl] at h
      cases h
    · rw [show ((opsOf 2 Tryd.f48.body)[9]?).bind (fun o : Oper => o.guard) = none from by kernel_rfl] at h
      cases h
    · rw [show ((opsOf 2 Tryd.f48.body)[10]?).bind (fun o : Oper => o.guard) = none from by kernel_rfl] at h
      cases h
    · rw [show ((opsOf 2 Tryd.f48.body)[11]?).bind (fun o : Oper => o.guard) = none from by kernel_rfl] at h
      cases h
    · rw [show ((opsOf 2 Tryd.f48.body)[12]?).bind (fun o : Oper => o.guard) = none from by kernel_rfl] at h
      cases h
    · rw [show ((opsOf 2 Tryd.f48.body)[13]?).bind (fun o : Oper => o.guard) = none from by kernel_rfl] at h
      cases h
    · rw [show ((opsOf 2 Tryd.f48.body)[14]?).bind (fun o : Oper => o.guard) = none from by kernel_rfl] at h
      cases h
    · rw [show ((opsOf 2 Tryd.f48.body)[15]?).bind (fun o : Oper => o.guard) = none from by kernel_rfl] at h
      cases h
    · rw [show ((opsOf 2 Tryd.f48.body)[16]?).bind (fun o : Oper => o.guard) = none from by kernel_rfl] at h
      cases h
    · rw [show ((opsOf 2 Tryd.f48.body)[17]?).bind (fun o : Oper => o.guard) = none from by kernel_rfl] at h
      cases h
    · rw [show ((opsOf 2 Tryd.f48.body)[18]?).bind (fun o : Oper => o.guard) = none from by kernel_rfl] at h
      cases h
    · rw [show ((opsOf 2 Tryd.f48.body)[19]?).bind (fun o : Oper => o.guard) = none from by kernel_rfl] at h
      cases h
    · rw [show ((opsOf 2 Tryd.f48.body)[20]?).bind (fun o : Oper => o.guard) = none from by kernel_rfl] at h
      cases h
    · rw [show ((opsOf 2 Tryd.f48.body)[21]?).bind (fun o : Oper => o.guard) = none from by kernel_rfl] at h
      cases h
  · intro i hi hgd
    rcases (by simp at hi; omega : i = 0 ∨ i = 1 ∨ i = 2 ∨ i = 3 ∨ i = 4 ∨ i = 5 ∨ i = 6 ∨ i = 7 ∨ i = 8 ∨ i = 9 ∨ i = 10 ∨ i = 11 ∨ i = 12 ∨ i = 13 ∨ i = 14 ∨ i = 15 ∨ i = 16 ∨ i = 17 ∨ i = 18 ∨ i = 19 ∨ i = 20 ∨ i = 21) with rfl | rfl | rfl | rfl | rfl | rfl | rfl | rfl | rfl | rfl | rfl | rfl | rfl | rfl | rfl | rfl | rfl | rfl | rfl | rfl | rfl | rfl
    · refine soft (by decide) ?_
      intro o ac wa g ho hoff hv hS hdn
      exact x_index (op_is rfl ho) (by rw [((hoff 4 (by decide)).trans x4)]; show (Instr.indexAt _ (pa _ _) _).run _ _ = .ok (pa _ _) _; unfold pa; go_simp)
    · refine soft (by decide) ?_
      intro o ac wa g ho hoff hv hS hdn
      have hc := hS.1.cell (cell_at hg4 0) (by simpa using n3)
      exact x_load (op_is rfl ho) (by rw [(hv 0 19 rfl (by kernel_rfl))]; show (Instr.loadAt _ (pa _ _)).run _ _ = _; unfold pa; go_simp; rfl)
    · refine soft (by decide) ?_
      intro o ac wa g ho hoff hv hS hdn
      exact x_index (op_is rfl ho) (by rw [((hoff 4 (by decide)).trans x4)]; show (Instr.indexAt _ (pa _ _) _).run _ _ = .ok (pa _ _) _; unfold pa; go_simp)
    · refine soft (by decide) ?_
      intro o ac wa g ho hoff hv hS hdn
      have hc := hS.1.cell (cell_at hg4 1) (by simpa using n3)
      exact x_load (op_is rfl ho) (by rw [(hv 2 21 rfl (by kernel_rfl))]; show (Instr.loadAt _ (pa _ _)).run _ _ = _; unfold pa; go_simp; rfl)
    · refine soft (by decide) ?_
      intro o ac wa g ho hoff hv hS hdn
      exact x_conv (op_is rfl ho) (by rw [(hv 3 22 rfl (by kernel_rfl))]; show (convert _ _ (Value.int IntKind.i64 (sI m))).run _ _ = _; rw [run_conv_u (sI m), sI_back hm]; rfl)
    · refine soft (by decide) ?_
      intro o ac wa g ho hoff hv hS hdn
      exact (x_move (op_is rfl ho)).trans (by rw [((hoff 2 (by decide)).trans x2)]; rfl)
    · intro o ac wa g K ho hd _ hoff hv hS _ _ _ hK
      refine l_callE (op_is rfl ho) (xs := #[.int .u64 (m : Int), .int .i64 (ix : Int)]) (by simp only [List.map_toArray, List.map_cons, List.map_nil]; rw [(hv 4 23 rfl (by kernel_rfl)), (hv 5 24 rfl (by kernel_rfl))]; rfl) Tryd.func45 (by kernel_rfl) rfl (hW wa) ?_
      rintro e w' ⟨rfl, ht⟩
      refine ⟨_, rfl, ?_⟩
      rw [hd]
      exact hK g w' ⟨hS.1.inner ht (by simp), ht.heap hS.2 (by simp)⟩ (by intro x hx; simp at hx; subst hx; simp) (fun _ _ _ => rfl)
    · refine soft (by decide) ?_
      intro o ac wa g ho hoff hv hS hdn
      exact x_conv (op_is rfl ho) (by rw [(hv 6 25 rfl (by kernel_rfl))]; show (convert _ _ (Value.int IntKind.u64 ((m ||| 2 ^ ix : Nat) : Int))).run _ _ = _; exact run_conv_i _)
    · refine soft (by decide) ?_
      intro o ac wa g ho hoff hv hS hdn
      exact x_field (op_is rfl ho) (by rw [((hoff 8 (by decide)).trans x8)]; show (Instr.fieldAt _ (pa _ _) _).run _ _ = .ok (pa _ _) _; unfold pa; go_simp)
    · refine soft (by decide) ?_
      intro o ac wa g ho hoff hv hS hdn
      have hc := hS.1.cell (cell_at hg8 0) (by simpa using n4)
      exact x_load (op_is rfl ho) (by rw [(hv 8 27 rfl (by kernel_rfl))]; show (Instr.loadAt _ (pa _ _)).run _ _ = _; unfold pa; go_simp; rfl)
    · refine soft (by decide) ?_
      intro o ac wa g ho hoff hv hS hdn
      exact x_build (op_is rfl ho) (qs := #[(0, .int .i64 c), (1, .int .i64 (sI (m ||| 2 ^ ix))), (2, .int .i64 (d.next v))]) (by simp only [List.map_toArray, List.map_cons, List.map_nil]; rw [(hv 1 20 rfl (by kernel_rfl)), (hv 7 26 rfl (by kernel_rfl)), (hv 9 28 rfl (by kernel_rfl))]; rfl) (by go_simp; rfl)
    · refine soft (by decide) ?_
      intro o ac wa g ho hoff hv hS hdn
      have q0 := hS.1.cell (cell_at hg8 0) (by simpa using n4)
      have q1 := hS.1.cell (cell_at hg8 1) (by simpa using n4)
      have q2 := hS.1.cell (cell_at hg8 2) (by simpa using n4)
      exact x_load (op_is rfl ho) (by rw [((hoff 8 (by decide)).trans x8)]; show (Instr.loadAt _ (pa _ _)).run _ _ = _; unfold pa; go_simp; rfl)
    · refine soft (by decide) ?_
      intro o ac wa g ho hoff hv hS hdn
      exact (x_move (op_is rfl ho)).trans (by rw [((hoff 0 (by decide)).trans x0)]; rfl)
    · refine soft (by decide) ?_
      intro o ac wa g ho hoff hv hS hdn
      exact x_nil (op_is rfl ho) ((hv 12 31 rfl (by kernel_rfl)))
    · refine soft (by decide) ?_
      intro o ac wa g ho hoff hv hS hdn
      exact x_field (op_is rfl ho) (by rw [(hv 13 32 rfl (by kernel_rfl))]; show (Instr.fieldAt _ (pa _ _) _).run _ _ = .ok (pa _ _) _; unfold pa; go_simp)
    · refine soft (by decide) ?_
      intro o ac wa g ho hoff hv hS hdn
      have hc := hS.1.cell hsd (by simpa using n1)
      exact x_load (op_is rfl ho) (by rw [(hv 14 33 rfl (by kernel_rfl))]; show (Instr.loadAt _ (pa _ _)).run _ _ = _; unfold pa; go_simp; rfl)
    · refine soft (by decide) ?_
      intro o ac wa g ho hoff hv hS hdn
      exact (x_move (op_is rfl ho)).trans (by rw [((hoff 2 (by decide)).trans x2)]; rfl)
    · refine soft (by decide) ?_
      intro o ac wa g ho hoff hv hS hdn
      exact x_index (op_is rfl ho) (by rw [(hv 15 34 rfl (by kernel_rfl)), (hv 16 35 rfl (by kernel_rfl))]; show (Instr.indexAt _ (Value.slice (some ⟨lb, lo, none⟩) n cap) (Value.int IntKind.i64 (ix : Int))).run _ _ = .ok (pa _ _) _; unfold pa; go_simp)
    · refine soft (by decide) ?_
      intro o ac wa g ho hoff hv hS hdn
      obtain ⟨q0, q1, q2, q3, q4, q5, q6, q7⟩ := hD.keep hS.1 (by simpa using n2)
      exact x_load (op_is rfl ho) (by rw [(hv 17 36 rfl (by kernel_rfl))]; show (Instr.loadAt _ (pa _ _)).run _ _ = _; unfold pa; go_simp; rfl)
    · intro o ac wa g K ho hd _ hoff hv hS _ _ _ hK
      refine l_callE (op_is rfl ho) (xs := #[(Value.agg #[.int .i64 (d.next v), .int .i64 (d.ans v), .bool (d.did v)]), (Value.agg #[.int .i64 d.b, .int .i64 d.e, .int .i64 d.k, .int .i64 d.a, .int .i64 d.x, .int .i64 d.c, .int .i64 d.n, .bool d.ok])]) (by simp only [List.map_toArray, List.map_cons, List.map_nil]; rw [(hv 11 30 rfl (by kernel_rfl)), (hv 18 37 rfl (by kernel_rfl))]; rfl) Tryd.func70 (by kernel_rfl) rfl (hF wa) ?_
      rintro e w' ⟨rfl, ht⟩
      refine ⟨_, rfl, ?_⟩
      rw [hd]
      exact hK g w' ⟨hS.1.inner ht (by simp), ht.heap hS.2 (by simp)⟩ (by intro x hx; simp at hx; subst hx; simp) (fun _ _ _ => rfl)
    · intro o ac wa g K ho hd _ hoff hv hS hpre hnd hlater hK
      have hst : g = false := hnd (by simp)
      subst hst
      have hb : wa.heap[g6]? = some (Obj.cells #[.int .i64 0, .int .i64 0, .int .i64 0] 109 (0, 0)) := hS.2
      refine l_skip hd (w' := (((wa.setCell ⟨g6, 0, none⟩ (.int .i64 c)).setCell ⟨g6, 1, none⟩ (.int .i64 (sI (m ||| 2 ^ ix)))).setCell ⟨g6, 2, none⟩ (.int .i64 (d.next v)))) (x_store (op_is rfl ho) (by
        have c0 := cell_at hb 0
        have c1 := cell_at hb 1
        have c2 := cell_at hb 2
        have z := froz_at hb
        rw [((hoff 6 (by decide)).trans x6), (hv 10 29 rfl (by kernel_rfl))]
        show (Instr.storeAt _ (pa _ _) (Value.agg _)).run _ _ = _
        unfold pa
        go_simp)) ?_
      exact hK true _ ⟨hS.1.trans (((( Turned.refl _ wa).set (.inl (by simp)) 0 _).set (.inl (by simp)) 1 _).set (.inl (by simp)) 2 _), by rw [if_pos rfl, blk_set (blk_set (blk_set hb 0 _) 1 _) 2 _]; rfl⟩ (by intro x hx; simp at hx; subst hx; simp) (fun _ _ _ => rfl)
    · refine soft (by decide) ?_
      intro o ac wa g ho hoff hv hS hdn
      exact (x_assign (op_is rfl ho)).trans (by rw [(hv 19 38 rfl (by kernel_rfl))]; rfl)
  · intro a' w' g hsz hdf hoff hS hdn hval
    have hst : g = true := hdn 20 (by simp)
    subst hst
    exact hEnd a' w' hsz hdf (fun s hs => ev_same (hoff s hs)) (hval 21 7 rfl) hS.1 hS.2
end Go.Proofs.YtbielnehggcaoaaDoor

/- The drawn region of ChainAlone's check. (Written by tools/gen/genchl3.py.) -/
import Derived.Test.YtaaibhgbkdnlbaaJ06
import Derived.Test.YtaaibhgbkdnlbaaJ24
namespace Go.Proofs.Ytaaibhgbkdnlbaa
open Go.RowKit
theorem x_neqE {ρ : Operand → Value} {o : Oper} {w : World} {x y : Operand} {t : TypeId} {a b : Int} (h : o.op = .binOp .neq 25 x y t) (hx : ρ x = .int .i64 a) (hy : ρ y = .int .i64 b) : (execOp ρ o).run Try.prog w = .ok (.value (.bool (a != b))) w :=
  x_bin h hx hy (by go_simp) (by go_simp)
def alone_r86V (vb rl vc gb rc c nb k sl sc : Nat) (sa : Option Addr) (lh za : Int) : Nat × (Nat → Value) → Nat → Value := fun g j => match j with | 0 => (Value.slice (some ⟨vb, 0, none⟩) rl vc) | 1 => (Value.int IntKind.i64 k) | 2 => (pa vb k) | 3 => (Value.int IntKind.i64 lh) | 4 => (Value.slice (some ⟨gb, 0, none⟩) rl rc) | 5 => (Value.int IntKind.i64 k) | 6 => (pa gb (k * 4)) | 7 => (pa gb (k * 4)) | 8 => (Value.int IntKind.i64 lh) | 9 => (Value.bool false) | 10 => (Value.bool false) | 11 => (pa c 0) | 12 => (Value.slice (some ⟨vb, 0, none⟩) rl vc) | 13 => (Value.int IntKind.i64 k) | 14 => (pa vb k) | 15 => (Value.int IntKind.i64 lh) | 16 => (g.2 16) | 17 => (Value.slice (some ⟨gb, 0, none⟩) rl rc) | 18 => (Value.int IntKind.i64 k) | 19 => (pa gb (k * 4)) | 20 => (pa gb (k * 4 + 3)) | 21 => (Value.slice sa sl sc) | 22 => (Value.bool true) | 23 => (Value.bool false) | 24 => (Value.bool false) | 25 => (Value.bool false) | 26 => (Value.int IntKind.i64 0) | 27 => (Value.bool false) | 28 => (Value.bool false) | 29 => (Value.bool false) | 30 => (pa nb 0) | 31 => (Value.int IntKind.i64 za) | 32 => (Value.slice (some ⟨gb, 0, none⟩) rl rc) | 33 => (Value.int IntKind.i64 k) | 34 => (pa gb (k * 4)) | 35 => (pa gb (k * 4 + 1)) | 36 => (Value.int IntKind.i64 za) | 37 => (Value.bool false) | 38 => (Value.bool false) | _ => undef
set_option maxRecDepth 100000 in
set_option maxHeartbeats 1600000 in
theorem alone_r86 {vb rl vc gb rc c nb k sl sc : Nat} {sa : Option Addr} {lh za : Int} {Ph : Nat → (Nat → Value) → World → Prop} {K : Act → World → Prop} {Q : Exit → Act → World → Prop} {a0 : Act} {w : World} (hs : a0.tmps.size = 477) (x39 : a0.eval (.tmp 39) = .slice (some ⟨vb, 0, none⟩) rl vc) (x40 : a0.eval (.tmp 40) = .int .i64 k) (x15 : a0.eval (.tmp 15) = .slice (some ⟨gb, 0, none⟩) rl rc) (x9 : a0.eval (.tmp 9) = pa c 0) (x41 : a0.eval (.tmp 41) = pa nb 0) (x42 : a0.eval (.tmp 42) = .int .i64 0) (hk : k < rl) (hc : ∀ g u x, Ph g u x → x.cell? ⟨vb, k, none⟩ = some (.int .i64 lh) ∧ x.cell? ⟨gb, k * 4, none⟩ = some (.int .i64 lh) ∧ x.cell? ⟨gb, k * 4 + 1, none⟩ = some (.int .i64 za) ∧ x.cell? ⟨gb, k * 4 + 3, none⟩ = some (.slice sa sl sc) ∧ x.cell? ⟨nb, 0, none⟩ = some (.int .i64 za)) (hA : Ph 0 (fun _ => undef) w.drew)
    (hL0 : ∀ u x, Ph 0 u x → Calls Try.prog 19 #[pa c 0, (Value.int IntKind.i64 lh)] x fun e w' => ∃ v, e = .returned v ∧ Ph 1 (upd u 16 v) w')
    (hL1 : ∀ u x, Ph 1 u x → Calls Try.prog 12 #[(u 16), (Value.slice sa sl sc)] x fun e w' => e = .returned (Value.bool true) ∧ Ph 2 u w')
    (hEnd : ∀ a' x u, a'.tmps.size = a0.tmps.size → a'.defers = a0.defers → (∀ s, some s ∉ ([some 435, some 436, some 437, some 438, some 439, some 440, some 441, some 442, some 443, some 444, some 445, some 446, some 447, some 448, some 449, some 450, some 451, some 452, some 453, some 454, some 455, some 456, some 457, some 458, some 459, some 460, some 461, some 462, some 463, some 464, some 465, some 466, some 467, some 468, some 469, some 470, some 471, some 472, some 473] : List (Option Nat)) → a'.eval (.tmp s) = a0.eval (.tmp s)) → a'.eval (.tmp 473) = (Value.bool false) → Ph 2 u x → K a' x) : (Code.region 86 (opsR 86 Try.f3.body) true).wp Try.prog (Exit.then K Q) a0 w := by
  refine wp_region_ghost3 (G := Nat × (Nat → Value)) (by kernel_rfl) [some 435, some 436, some 437, some 438, some 439, some 440, some 441, some 442, some 443, some 444, some 445, some 446, some 447, some 448, some 449, some 450, some 451, some 452, some 453, some 454, some 455, some 456, some 457, some 458, some 459, some 460, some 461, some 462, some 463, some 464, some 465, some 466, some 467, some 468, some 469, some 470, some 471, some 472, some 473] (by rw [hs]; kernel_rfl) (alone_r86V vb rl vc gb rc c nb k sl sc sa lh za) [16, 22] ?_ (doneP [16, 22]) (StP 2 Ph) ((0, fun _ => undef)) (⟨Nat.zero_le _, hA⟩) (by intro x hx; simp at hx; rcases hx with rfl | rfl <;> rfl) (by decide) ?_ ?_
  · intro i g b h γ
    have hi : i < 39 := by
      apply Classical.byContradiction
      intro hn
      rw [show (opsR 86 Try.f3.body)[i]? = none from Array.getElem?_eq_none (by have : (opsR 86 Try.f3.body).size = 39 := (by kernel_rfl); omega)] at h
      cases h
    rcases (by omega : i = 0 ∨ i = 1 ∨ i = 2 ∨ i = 3 ∨ i = 4 ∨ i = 5 ∨ i = 6 ∨ i = 7 ∨ i = 8 ∨ i = 9 ∨ i = 10 ∨ i = 11 ∨ i = 12 ∨ i = 13 ∨ i = 14 ∨ i = 15 ∨ i = 16 ∨ i = 17 ∨ i = 18 ∨ i = 19 ∨ i = 20 ∨ i = 21 ∨ i = 22 ∨ i = 23 ∨ i = 24 ∨ i = 25 ∨ i = 26 ∨ i = 27 ∨ i = 28 ∨ i = 29 ∨ i = 30 ∨ i = 31 ∨ i = 32 ∨ i = 33 ∨ i = 34 ∨ i = 35 ∨ i = 36 ∨ i = 37 ∨ i = 38) with rfl | rfl | rfl | rfl | rfl | rfl | rfl | rfl | rfl | rfl | rfl | rfl | rfl | rfl | rfl | rfl | rfl | rfl | rfl | rfl | rfl | rfl | rfl | rfl | rfl | rfl | rfl | rfl | rfl | rfl | rfl | rfl | rfl | rfl | rfl | rfl | rfl | rfl | rfl
    · rw [show ((opsR 86 Try.f3.body)[0]?).bind (fun o : Oper => o.guard) = none from by kernel_rfl] at h
      cases h
    · rw [show ((opsR 86 Try.f3.body)[1]?).bind (fun o : Oper => o.guard) = none from by kernel_rfl] at h
      cases h
    · rw [show ((opsR 86 Try.f3.body)[2]?).bind (fun o : Oper => o.guard) = none from by kernel_rfl] at h
      cases h
    · rw [show ((opsR 86 Try.f3.body)[3]?).bind (fun o : Oper => o.guard) = none from by kernel_rfl] at h
      cases h
    · rw [show ((opsR 86 Try.f3.body)[4]?).bind (fun o : Oper => o.guard) = none from by kernel_rfl] at h
      cases h
    · rw [show ((opsR 86 Try.f3.body)[5]?).bind (fun o : Oper => o.guard) = none from by kernel_rfl] at h
      cases h
    · rw [show ((opsR 86 Try.f3.body)[6]?).bind (fun o : Oper => o.guard) = none from by kernel_rfl] at h
      cases h
    · rw [show ((opsR 86 Try.f3.body)[7]?).bind (fun o : Oper => o.guard) = none from by kernel_rfl] at h
      cases h
    · rw [show ((opsR 86 Try.f3.body)[8]?).bind (fun o : Oper => o.guard) = none from by kernel_rfl] at h
      cases h
    · rw [show ((opsR 86 Try.f3.body)[9]?).bind (fun o : Oper => o.guard) = none from by kernel_rfl] at h
      cases h
    · rw [show ((opsR 86 Try.f3.body)[10]?).bind (fun o : Oper => o.guard) = none from by kernel_rfl] at h
      cases h
    · rw [show ((opsR 86 Try.f3.body)[11]?).bind (fun o : Oper => o.guard) = some (10, false) from by kernel_rfl] at h
      obtain ⟨rfl, rfl⟩ : 10 = g ∧ false = b := by simpa using h
      exact .inl ⟨false, rfl, fun hne => absurd rfl hne⟩
    · rw [show ((opsR 86 Try.f3.body)[12]?).bind (fun o : Oper => o.guard) = some (10, false) from by kernel_rfl] at h
      obtain ⟨rfl, rfl⟩ : 10 = g ∧ false = b := by simpa using h
      exact .inl ⟨false, rfl, fun hne => absurd rfl hne⟩
    · rw [show ((opsR 86 Try.f3.body)[13]?).bind (fun o : Oper => o.guard) = some (10, false) from by kernel_rfl] at h
      obtain ⟨rfl, rfl⟩ : 10 = g ∧ false = b := by simpa using h
      exact .inl ⟨false, rfl, fun hne => absurd rfl hne⟩
    · rw [show ((opsR 86 Try.f3.body)[14]?).bind (fun o : Oper => o.guard) = some (10, false) from by kernel_rfl] at h
      obtain ⟨rfl, rfl⟩ : 10 = g ∧ false = b := by simpa using h
      exact .inl ⟨false, rfl, fun hne => absurd rfl hne⟩
    · rw [show ((opsR 86 Try.f3.body)[15]?).bind (fun o : Oper => o.guard) = some (10, false) from by kernel_rfl] at h
      obtain ⟨rfl, rfl⟩ : 10 = g ∧ false = b := by simpa using h
      exact .inl ⟨false, rfl, fun hne => absurd rfl hne⟩
    · rw [show ((opsR 86 Try.f3.body)[16]?).bind (fun o : Oper => o.guard) = some (10, false) from by kernel_rfl] at h
      obtain ⟨rfl, rfl⟩ : 10 = g ∧ false = b := by simpa using h
      exact .inl ⟨false, rfl, fun hne => absurd rfl hne⟩
    · rw [show ((opsR 86 Try.f3.body)[17]?).bind (fun o : Oper => o.guard) = some (10, false) from by kernel_rfl] at h
      obtain ⟨rfl, rfl⟩ : 10 = g ∧ false = b := by simpa using h
      exact .inl ⟨false, rfl, fun hne => absurd rfl hne⟩
    · rw [show ((opsR 86 Try.f3.body)[18]?).bind (fun o : Oper => o.guard) = some (10, false) from by kernel_rfl] at h
      obtain ⟨rfl, rfl⟩ : 10 = g ∧ false = b := by simpa using h
      exact .inl ⟨false, rfl, fun hne => absurd rfl hne⟩
    · rw [show ((opsR 86 Try.f3.body)[19]?).bind (fun o : Oper => o.guard) = some (10, false) from by kernel_rfl] at h
      obtain ⟨rfl, rfl⟩ : 10 = g ∧ false = b := by simpa using h
      exact .inl ⟨false, rfl, fun hne => absurd rfl hne⟩
    · rw [show ((opsR 86 Try.f3.body)[20]?).bind (fun o : Oper => o.guard) = some (10, false) from by kernel_rfl] at h
      obtain ⟨rfl, rfl⟩ : 10 = g ∧ false = b := by simpa using h
      exact .inl ⟨false, rfl, fun hne => absurd rfl hne⟩
    · rw [show ((opsR 86 Try.f3.body)[21]?).bind (fun o : Oper => o.guard) = some (10, false) from by kernel_rfl] at h
      obtain ⟨rfl, rfl⟩ : 10 = g ∧ false = b := by simpa using h
      exact .inl ⟨false, rfl, fun hne => absurd rfl hne⟩
    · rw [show ((opsR 86 Try.f3.body)[22]?).bind (fun o : Oper => o.guard) = some (10, false) from by kernel_rfl] at h
      obtain ⟨rfl, rfl⟩ : 10 = g ∧ false = b := by simpa using h
      exact .inl ⟨false, rfl, fun hne => absurd rfl hne⟩
    · rw [show ((opsR 86 Try.f3.body)[23]?).bind (fun o : Oper => o.guard) = some (10, false) from by kernel_rfl] at h
      obtain ⟨rfl, rfl⟩ : 10 = g ∧ false = b := by simpa using h
      exact .inl ⟨false, rfl, fun hne => absurd rfl hne⟩
    · rw [show ((opsR 86 Try.f3.body)[24]?).bind (fun o : Oper => o.guard) = none from by kernel_rfl] at h
      cases h
    · rw [show ((opsR 86 Try.f3.body)[25]?).bind (fun o : Oper => o.guard) = none from by kernel_rfl] at h
      cases h
    · rw [show ((opsR 86 Try.f3.body)[26]?).bind (fun o : Oper => o.guard) = some (25, false) from by kernel_rfl] at h
      obtain ⟨rfl, rfl⟩ : 25 = g ∧ false = b := by simpa using h
      exact .inl ⟨false, rfl, fun hne => absurd rfl hne⟩
    · rw [show ((opsR 86 Try.f3.body)[27]?).bind (fun o : Oper => o.guard) = some (25, false) from by kernel_rfl] at h
      obtain ⟨rfl, rfl⟩ : 25 = g ∧ false = b := by simpa using h
      exact .inl ⟨false, rfl, fun hne => absurd rfl hne⟩
    · rw [show ((opsR 86 Try.f3.body)[28]?).bind (fun o : Oper => o.guard) = none from by kernel_rfl] at h
      cases h
    · rw [show ((opsR 86 Try.f3.body)[29]?).bind (fun o : Oper => o.guard) = none from by kernel_rfl] at h
      cases h
    · rw [show ((opsR 86 Try.f3.body)[30]?).bind (fun o : Oper => o.guard) = some (29, false) from by kernel_rfl] at h
      obtain ⟨rfl, rfl⟩ : 29 = g ∧ false = b := by simpa using h
      exact .inl ⟨false, rfl, fun hne => absurd rfl hne⟩
    · rw [show ((opsR 86 Try.f3.body)[31]?).bind (fun o : Oper => o.guard) = some (29, false) from by kernel_rfl] at h
      obtain ⟨rfl, rfl⟩ : 29 = g ∧ false = b := by simpa using h
      exact .inl ⟨false, rfl, fun hne => absurd rfl hne⟩
    · rw [show ((opsR 86 Try.f3.body)[32]?).bind (fun o : Oper => o.guard) = some (29, false) from by kernel_rfl] at h
      obtain ⟨rfl, rfl⟩ : 29 = g ∧ false = b := by simpa using h
      exact .inl ⟨false, rfl, fun hne => absurd rfl hne⟩
    · rw [show ((opsR 86 Try.f3.body)[33]?).bind (fun o : Oper => o.guard) = some (29, false) from by kernel_rfl] at h
      obtain ⟨rfl, rfl⟩ : 29 = g ∧ false = b := by simpa using h
      exact .inl ⟨false, rfl, fun hne => absurd rfl hne⟩
    · rw [show ((opsR 86 Try.f3.body)[34]?).bind (fun o : Oper => o.guard) = some (29, false) from by kernel_rfl] at h
      obtain ⟨rfl, rfl⟩ : 29 = g ∧ false = b := by simpa using h
      exact .inl ⟨false, rfl, fun hne => absurd rfl hne⟩
    · rw [show ((opsR 86 Try.f3.body)[35]?).bind (fun o : Oper => o.guard) = some (29, false) from by kernel_rfl] at h
      obtain ⟨rfl, rfl⟩ : 29 = g ∧ false = b := by simpa using h
      exact .inl ⟨false, rfl, fun hne => absurd rfl hne⟩
    · rw [show ((opsR 86 Try.f3.body)[36]?).bind (fun o : Oper => o.guard) = some (29, false) from by kernel_rfl] at h
      obtain ⟨rfl, rfl⟩ : 29 = g ∧ false = b := by simpa using h
      exact .inl ⟨false, rfl, fun hne => absurd rfl hne⟩
    · rw [show ((opsR 86 Try.f3.body)[37]?).bind (fun o : Oper => o.guard) = some (29, false) from by kernel_rfl] at h
      obtain ⟨rfl, rfl⟩ : 29 = g ∧ false = b := by simpa using h
      exact .inl ⟨false, rfl, fun hne => absurd rfl hne⟩
    · rw [show ((opsR 86 Try.f3.body)[38]?).bind (fun o : Oper => o.guard) = none from by kernel_rfl] at h
      cases h
  · intro i hi hgd
    rcases (by simp at hi; omega : i = 0 ∨ i = 1 ∨ i = 2 ∨ i = 3 ∨ i = 4 ∨ i = 5 ∨ i = 6 ∨ i = 7 ∨ i = 8 ∨ i = 9 ∨ i = 10 ∨ i = 11 ∨ i = 12 ∨ i = 13 ∨ i = 14 ∨ i = 15 ∨ i = 16 ∨ i = 17 ∨ i = 18 ∨ i = 19 ∨ i = 20 ∨ i = 21 ∨ i = 22 ∨ i = 23 ∨ i = 24 ∨ i = 25 ∨ i = 26 ∨ i = 27 ∨ i = 28 ∨ i = 29 ∨ i = 30 ∨ i = 31 ∨ i = 32 ∨ i = 33 ∨ i = 34 ∨ i = 35 ∨ i = 36 ∨ i = 37 ∨ i = 38) with rfl | rfl | rfl | rfl | rfl | rfl | rfl | rfl | rfl | rfl | rfl | rfl | rfl | rfl | rfl | rfl | rfl | rfl | rfl | rfl | rfl | rfl | rfl | rfl | rfl | rfl | rfl | rfl | rfl | rfl | rfl | rfl | rfl | rfl | rfl | rfl | rfl | rfl | rfl
    · refine soft (by decide) ?_
      intro o ac wa g ho hoff hv hS hdn
      exact (x_move (op_is rfl ho)).trans (by rw [((hoff 39 (by decide)).trans x39)]; rfl)
    · refine soft (by decide) ?_
      intro o ac wa g ho hoff hv hS hdn
      exact (x_move (op_is rfl ho)).trans (by rw [((hoff 40 (by decide)).trans x40)]; rfl)
    · refine soft (by decide) ?_
      intro o ac wa g ho hoff hv hS hdn
      have hlt : (k : Int) < rl := by omega
      exact x_index (op_is rfl ho) (by rw [(hv 0 435 rfl (by kernel_rfl)), (hv 1 436 rfl (by kernel_rfl))]; show (Instr.indexAt _ (Value.slice _ _ _) (Value.int _ _)).run _ _ = .ok (pa _ _) _; unfold pa; go_simp)
    · refine soft (by decide) ?_
      intro o ac wa g ho hoff hv hS hdn
      have hc := (hc _ _ _ hS.ph).1
      exact x_load (op_is rfl ho) (by rw [(hv 2 437 rfl (by kernel_rfl))]; show (Instr.loadAt _ (pa _ _)).run _ _ = _; unfold pa; go_simp; first | rfl | skip)
    · refine soft (by decide) ?_
      intro o ac wa g ho hoff hv hS hdn
      exact (x_move (op_is rfl ho)).trans (by rw [((hoff 15 (by decide)).trans x15)]; rfl)
    · refine soft (by decide) ?_
      intro o ac wa g ho hoff hv hS hdn
      exact (x_move (op_is rfl ho)).trans (by rw [((hoff 40 (by decide)).trans x40)]; rfl)
    · refine soft (by decide) ?_
      intro o ac wa g ho hoff hv hS hdn
      have hlt : (k : Int) < rl := by omega
      exact x_index (op_is rfl ho) (by rw [(hv 4 439 rfl (by kernel_rfl)), (hv 5 440 rfl (by kernel_rfl))]; show (Instr.indexAt _ (Value.slice _ _ _) (Value.int _ _)).run _ _ = .ok (pa _ _) _; unfold pa; go_simp)
    · refine soft (by decide) ?_
      intro o ac wa g ho hoff hv hS hdn
      exact x_field (op_is rfl ho) (by rw [(hv 6 441 rfl (by kernel_rfl))]; show (Instr.fieldAt _ (pa _ _) _).run _ _ = .ok (pa _ _) _; unfold pa; go_simp)
    · refine soft (by decide) ?_
      intro o ac wa g ho hoff hv hS hdn
      have hc := (hc _ _ _ hS.ph).2.1
      exact x_load (op_is rfl ho) (by rw [(hv 7 442 rfl (by kernel_rfl))]; show (Instr.loadAt _ (pa _ _)).run _ _ = _; unfold pa; go_simp; first | rfl | skip)
    · refine soft (by decide) ?_
      intro o ac wa g ho hoff hv hS hdn
      exact (x_neqN (op_is rfl ho) ((hv 3 438 rfl (by kernel_rfl))) ((hv 8 443 rfl (by kernel_rfl)))).trans (by simp; rfl)
    · refine soft (by decide) ?_
      intro o ac wa g ho hoff hv hS hdn
      exact (x_move (op_is rfl ho)).trans (by rw [(hv 9 444 rfl (by kernel_rfl))]; rfl)
    · refine soft (by decide) ?_
      intro o ac wa g ho hoff hv hS hdn
      exact (x_move (op_is rfl ho)).trans (by rw [((hoff 9 (by decide)).trans x9)]; rfl)
    · refine soft (by decide) ?_
      intro o ac wa g ho hoff hv hS hdn
      exact (x_move (op_is rfl ho)).trans (by rw [((hoff 39 (by decide)).trans x39)]; rfl)
    · refine soft (by decide) ?_
      intro o ac wa g ho hoff hv hS hdn
      exact (x_move (op_is rfl ho)).trans (by rw [((hoff 40 (by decide)).trans x40)]; rfl)
    · refine soft (by decide) ?_
      intro o ac wa g ho hoff hv hS hdn
      have hlt : (k : Int) < rl := by omega
      exact x_index (op_is rfl ho) (by rw [(hv 12 447 rfl (by kernel_rfl)), (hv 13 448 rfl (by kernel_rfl))]; show (Instr.indexAt _ (Value.slice _ _ _) (Value.int _ _)).run _ _ = .ok (pa _ _) _; unfold pa; go_simp)
    · refine soft (by decide) ?_
      intro o ac wa g ho hoff hv hS hdn
      have hc := (hc _ _ _ hS.ph).1
      exact x_load (op_is rfl ho) (by rw [(hv 14 449 rfl (by kernel_rfl))]; show (Instr.loadAt _ (pa _ _)).run _ _ = _; unfold pa; go_simp; first | rfl | skip)
    · intro o ac wa g K ho hd _ hoff hv hS hpre hnd hlater hK
      have h1 : g.1 ≤ 0 := by have := hnd (by simp); simpa [doneP, List.idxOf, List.findIdx, List.findIdx.go] using this
      have hg : g.1 = 0 := by omega
      obtain ⟨g1, u⟩ := g
      simp only at hg
      subst hg
      refine l_callE (op_is rfl ho) (xs := #[pa c 0, (Value.int IntKind.i64 lh)]) (by simp only [List.map_toArray, List.map_cons, List.map_nil]; rw [(hv 11 446 rfl (by kernel_rfl)), (hv 15 450 rfl (by kernel_rfl))]; rfl) Try.func19 (by kernel_rfl) rfl (hL0 u wa hS.ph) ?_
      rintro e w' ⟨v, rfl, hp⟩
      refine ⟨_, rfl, ?_⟩
      rw [hd]
      refine hK (1, upd u 16 v) w' ⟨by simp, hp⟩ (by intro x hx; simp at hx; rcases hx with rfl | rfl <;> simp [doneP, List.idxOf, List.findIdx, List.findIdx.go]) fun j hj hr => ?_
      match j, hr with
      | 0, _ => rfl
      | 1, _ => rfl
      | 2, _ => rfl
      | 3, _ => rfl
      | 4, _ => rfl
      | 5, _ => rfl
      | 6, _ => rfl
      | 7, _ => rfl
      | 8, _ => rfl
      | 9, _ => rfl
      | 10, _ => rfl
      | 11, _ => rfl
      | 12, _ => rfl
      | 13, _ => rfl
      | 14, _ => rfl
      | 15, _ => rfl
      | 16, _ => exact absurd rfl hj
      | 17, _ => rfl
      | 18, _ => rfl
      | 19, _ => rfl
      | 20, _ => rfl
      | 21, _ => rfl
      | 22, _ => rfl
      | 23, _ => rfl
      | 24, _ => rfl
      | 25, _ => rfl
      | 26, _ => rfl
      | 27, _ => rfl
      | 28, _ => rfl
      | 29, _ => rfl
      | 30, _ => rfl
      | 31, _ => rfl
      | 32, _ => rfl
      | 33, _ => rfl
      | 34, _ => rfl
      | 35, _ => rfl
      | 36, _ => rfl
      | 37, _ => rfl
      | 38, _ => rfl
      | q + 39, _ => rfl
    · refine soft (by decide) ?_
      intro o ac wa g ho hoff hv hS hdn
      exact (x_move (op_is rfl ho)).trans (by rw [((hoff 15 (by decide)).trans x15)]; rfl)
    · refine soft (by decide) ?_
      intro o ac wa g ho hoff hv hS hdn
      exact (x_move (op_is rfl ho)).trans (by rw [((hoff 40 (by decide)).trans x40)]; rfl)
    · refine soft (by decide) ?_
      intro o ac wa g ho hoff hv hS hdn
      have hlt : (k : Int) < rl := by omega
      exact x_index (op_is rfl ho) (by rw [(hv 17 452 rfl (by kernel_rfl)), (hv 18 453 rfl (by kernel_rfl))]; show (Instr.indexAt _ (Value.slice _ _ _) (Value.int _ _)).run _ _ = .ok (pa _ _) _; unfold pa; go_simp)
    · refine soft (by decide) ?_
      intro o ac wa g ho hoff hv hS hdn
      exact x_field (op_is rfl ho) (by rw [(hv 19 454 rfl (by kernel_rfl))]; show (Instr.fieldAt _ (pa _ _) _).run _ _ = .ok (pa _ _) _; unfold pa; go_simp)
    · refine soft (by decide) ?_
      intro o ac wa g ho hoff hv hS hdn
      have hc := (hc _ _ _ hS.ph).2.2.2.1
      exact x_load (op_is rfl ho) (by rw [(hv 20 455 rfl (by kernel_rfl))]; show (Instr.loadAt _ (pa _ _)).run _ _ = _; unfold pa; go_simp; first | rfl | skip)
    · intro o ac wa g K ho hd _ hoff hv hS hpre hnd hlater hK
      have h1 : g.1 ≤ 1 := by have := hnd (by simp); simpa [doneP, List.idxOf, List.findIdx, List.findIdx.go] using this
      have h2 : 1 ≤ g.1 := by have := hpre 16 (by simp) (by kernel_rfl); simp [doneP, List.idxOf, List.findIdx, List.findIdx.go] at this; omega
      have hg : g.1 = 1 := by omega
      obtain ⟨g1, u⟩ := g
      simp only at hg
      subst hg
      refine l_callE (op_is rfl ho) (xs := #[(u 16), (Value.slice sa sl sc)]) (by simp only [List.map_toArray, List.map_cons, List.map_nil]; rw [(hv 16 451 rfl (by kernel_rfl)), (hv 21 456 rfl (by kernel_rfl))]; rfl) Try.func12 (by kernel_rfl) rfl (hL1 u wa hS.ph) ?_
      rintro e w' ⟨rfl, hp⟩
      refine ⟨_, rfl, ?_⟩
      rw [hd]
      refine hK (2, u) w' ⟨by simp, hp⟩ (by intro x hx; simp at hx; rcases hx with rfl | rfl <;> simp [doneP, List.idxOf, List.findIdx, List.findIdx.go]) fun j hj hr => ?_
      match j, hr with
      | 0, _ => rfl
      | 1, _ => rfl
      | 2, _ => rfl
      | 3, _ => rfl
      | 4, _ => rfl
      | 5, _ => rfl
      | 6, _ => rfl
      | 7, _ => rfl
      | 8, _ => rfl
      | 9, _ => rfl
      | 10, _ => rfl
      | 11, _ => rfl
      | 12, _ => rfl
      | 13, _ => rfl
      | 14, _ => rfl
      | 15, _ => rfl
      | 16, _ => rfl
      | 17, _ => rfl
      | 18, _ => rfl
      | 19, _ => rfl
      | 20, _ => rfl
      | 21, _ => rfl
      | 22, _ => exact absurd rfl hj
      | 23, _ => rfl
      | 24, _ => rfl
      | 25, _ => rfl
      | 26, _ => rfl
      | 27, _ => rfl
      | 28, _ => rfl
      | 29, _ => rfl
      | 30, _ => rfl
      | 31, _ => rfl
      | 32, _ => rfl
      | 33, _ => rfl
      | 34, _ => rfl
      | 35, _ => rfl
      | 36, _ => rfl
      | 37, _ => rfl
      | 38, _ => rfl
      | q + 39, _ => rfl
    · refine soft (by decide) ?_
      intro o ac wa g ho hoff hv hS hdn
      exact (x_notG (op_is rfl ho) ((hv 22 457 rfl (by kernel_rfl)))).trans rfl
    · refine soft (by decide) ?_
      intro o ac wa g ho hoff hv hS hdn
      exact (x_pickG (op_is rfl ho) ((hv 10 445 rfl (by kernel_rfl)))).trans (by rw [if_neg (by decide), (hv 23 458 rfl (by kernel_rfl))]; rfl)
    · refine soft (by decide) ?_
      intro o ac wa g ho hoff hv hS hdn
      exact (x_move (op_is rfl ho)).trans (by rw [(hv 24 459 rfl (by kernel_rfl))]; rfl)
    · refine soft (by decide) ?_
      intro o ac wa g ho hoff hv hS hdn
      exact (x_move (op_is rfl ho)).trans (by rw [((hoff 42 (by decide)).trans x42)]; rfl)
    · refine soft (by decide) ?_
      intro o ac wa g ho hoff hv hS hdn
      exact (x_neqE (op_is rfl ho) ((hv 26 461 rfl (by kernel_rfl))) rfl).trans (by simp; rfl)
    · refine soft (by decide) ?_
      intro o ac wa g ho hoff hv hS hdn
      exact (x_pickG (op_is rfl ho) ((hv 25 460 rfl (by kernel_rfl)))).trans (by rw [if_neg (by decide), (hv 27 462 rfl (by kernel_rfl))]; rfl)
    · refine soft (by decide) ?_
      intro o ac wa g ho hoff hv hS hdn
      exact (x_move (op_is rfl ho)).trans (by rw [(hv 28 463 rfl (by kernel_rfl))]; rfl)
    · refine soft (by decide) ?_
      intro o ac wa g ho hoff hv hS hdn
      exact x_field (op_is rfl ho) (by rw [((hoff 41 (by decide)).trans x41)]; show (Instr.fieldAt _ (pa _ _) _).run _ _ = .ok (pa _ _) _; unfold pa; go_simp)
    · refine soft (by decide) ?_
      intro o ac wa g ho hoff hv hS hdn
      have hc := (hc _ _ _ hS.ph).2.2.2.2
      exact x_load (op_is rfl ho) (by rw [(hv 30 465 rfl (by kernel_rfl))]; show (Instr.loadAt _ (pa _ _)).run _ _ = _; unfold pa; go_simp; first | rfl | skip)
    · refine soft (by decide) ?_
      intro o ac wa g ho hoff hv hS hdn
      exact (x_move (op_is rfl ho)).trans (by rw [((hoff 15 (by decide)).trans x15)]; rfl)
    · refine soft (by decide) ?_
      intro o ac wa g ho hoff hv hS hdn
      exact (x_move (op_is rfl ho)).trans (by rw [((hoff 40 (by decide)).trans x40)]; rfl)
    · refine soft (by decide) ?_
      intro o ac wa g ho hoff hv hS hdn
      have hlt : (k : Int) < rl := by omega
      exact x_index (op_is rfl ho) (by rw [(hv 32 467 rfl (by kernel_rfl)), (hv 33 468 rfl (by kernel_rfl))]; show (Instr.indexAt _ (Value.slice _ _ _) (Value.int _ _)).run _ _ = .ok (pa _ _) _; unfold pa; go_simp)
    · refine soft (by decide) ?_
      intro o ac wa g ho hoff hv hS hdn
      exact x_field (op_is rfl ho) (by rw [(hv 34 469 rfl (by kernel_rfl))]; show (Instr.fieldAt _ (pa _ _) _).run _ _ = .ok (pa _ _) _; unfold pa; go_simp)
    · refine soft (by decide) ?_
      intro o ac wa g ho hoff hv hS hdn
      have hc := (hc _ _ _ hS.ph).2.2.1
      exact x_load (op_is rfl ho) (by rw [(hv 35 470 rfl (by kernel_rfl))]; show (Instr.loadAt _ (pa _ _)).run _ _ = _; unfold pa; go_simp; first | rfl | skip)
    · refine soft (by decide) ?_
      intro o ac wa g ho hoff hv hS hdn
      exact (x_neqN (op_is rfl ho) ((hv 31 466 rfl (by kernel_rfl))) ((hv 36 471 rfl (by kernel_rfl)))).trans (by simp; rfl)
    · refine soft (by decide) ?_
      intro o ac wa g ho hoff hv hS hdn
      exact (x_pickG (op_is rfl ho) ((hv 29 464 rfl (by kernel_rfl)))).trans (by rw [if_neg (by decide), (hv 37 472 rfl (by kernel_rfl))]; rfl)
  · intro a' w' g hsz hdf hoff hS hdn hval
    obtain ⟨g1, u⟩ := g
    have hg : g1 = 2 := by have h := hdn 22 (by simp); simp [doneP, List.idxOf, List.findIdx, List.findIdx.go] at h; have := hS.le; simp only at this; omega
    subst hg
    exact hEnd a' w' u hsz hdf (fun s hs => ev_same (hoff s hs)) (hval 38 473 rfl) hS.ph
end Go.Proofs.Ytaaibhgbkdnlbaa
/- The ways through ChainAlone: the check. (Written by tools/gen/genchl.py.) -/
namespace Go.Proofs.Ytaaibhgbkdnlbaa
open Go.RowKit
section
variable {W x : World} {n p kb c c2 used it ct i k : Nat} {now : Int} {G : Int → List Int} {L : List Ver} {N : List Nat} {ta : Option Addr} {Lc tc g rl rc ob vb qb qo : Nat} {kd oa od : Int} {sa va : Option Addr} {sl sc vl vc : Nat} {za lh old nh : Int} {R : List VRow} {t : Bool} {a : Act} {K : Act → World → Prop} {Q : Exit → Act → World → Prop}
set_option maxRecDepth 100000 in
set_option maxHeartbeats 1600000 in
theorem ch_79 (hs : a.tmps.size = 477) (hd : a.defers = []) (x0 : a.eval (.tmp 0) = .int .i64 n) (x1 : a.eval (.tmp 1) = .slice ta Lc tc) (x5 : a.eval (.tmp 5) = .pointer (some ⟨p, 0, none⟩)) (x7 : a.eval (.tmp 7) = .pointer (some ⟨kb, 0, none⟩)) (x9 : a.eval (.tmp 9) = .pointer (some ⟨c, 0, none⟩)) (x10 : a.eval (.tmp 10) = .pointer (some ⟨c2, 0, none⟩)) (x15 : a.eval (.tmp 15) = .slice (some ⟨g, 0, none⟩) rl rc) (x16 : a.eval (.tmp 16) = .int .i64 now) (x17 : a.eval (.tmp 17) = .int .i64 used) (x18 : a.eval (.tmp 18) = .int .i64 ct) (x19 : a.eval (.tmp 19) = .int .i64 i)
    {PP : Value → World → Prop} (HP : Calls Try.prog 16 #[pp c] x fun e x' => ∃ v, e = .returned v ∧ PP v x')
    (hK : ∀ a' y v, a'.tmps.size = 477 → a'.defers = [] → a'.eval (.tmp 0) = .int .i64 n → a'.eval (.tmp 1) = .slice ta Lc tc → a'.eval (.tmp 5) = .pointer (some ⟨p, 0, none⟩) → a'.eval (.tmp 7) = .pointer (some ⟨kb, 0, none⟩) → a'.eval (.tmp 9) = .pointer (some ⟨c, 0, none⟩) → a'.eval (.tmp 10) = .pointer (some ⟨c2, 0, none⟩) → a'.eval (.tmp 15) = .slice (some ⟨g, 0, none⟩) rl rc → a'.eval (.tmp 16) = .int .i64 now → a'.eval (.tmp 17) = .int .i64 used → a'.eval (.tmp 18) = .int .i64 ct → a'.eval (.tmp 19) = .int .i64 i → a'.eval (.tmp 39) = v → PP v y → K a' y) : (atc Try.f3.body [1, 1, 1, 1, 1, 1, 1, 1, 1, 1, 1, 1, 1, 1, 0, 1, 0, 0, 1, 0, 0, 1, 1, 0]).wp Try.prog (Exit.then K Q) a x := by
  obtain ⟨cc, hcc, hce⟩ := expand477 hs hd
  have g0 := (hce 0).trans x0
  have g1 := (hce 1).trans x1
  have g5 := (hce 5).trans x5
  have g7 := (hce 7).trans x7
  have g9 := (hce 9).trans x9
  have g10 := (hce 10).trans x10
  have g15 := (hce 15).trans x15
  have g16 := (hce 16).trans x16
  have g17 := (hce 17).trans x17
  have g18 := (hce 18).trans x18
  have g19 := (hce 19).trans x19
  clear hce hs hd x0 x1 x5 x7 x9 x10 x15 x16 x17 x18 x19
  subst hcc
  conv => arg 2; whnf
  simp only [lit477, g0, g1, g5, g7, g9, g10, g15, g16, g17, g18, g19]
  clear g0 g1 g5 g7 g9 g10 g15 g16 g17 g18 g19
  have HK : Hid _ := hK
  clear hK
  go_wp2_with (go_at_call 16; refine HP.mono ?_; rintro e w1 ⟨v, rfl, hp⟩; have HPP : Hid _ := hp; clear hp HP)
  exact HK.out _ _ _ rfl rfl rfl rfl rfl rfl rfl rfl rfl rfl rfl rfl rfl rfl HPP.out
set_option maxRecDepth 100000 in
set_option maxHeartbeats 1600000 in
theorem ch_80 {fr : Nat} (hs : a.tmps.size = 477) (hd : a.defers = []) (x0 : a.eval (.tmp 0) = .int .i64 n) (x1 : a.eval (.tmp 1) = .slice ta Lc tc) (x5 : a.eval (.tmp 5) = .pointer (some ⟨p, 0, none⟩)) (x7 : a.eval (.tmp 7) = .pointer (some ⟨kb, 0, none⟩)) (x9 : a.eval (.tmp 9) = .pointer (some ⟨c, 0, none⟩)) (x10 : a.eval (.tmp 10) = .pointer (some ⟨c2, 0, none⟩)) (x15 : a.eval (.tmp 15) = .slice (some ⟨g, 0, none⟩) rl rc) (x16 : a.eval (.tmp 16) = .int .i64 now) (x17 : a.eval (.tmp 17) = .int .i64 used) (x18 : a.eval (.tmp 18) = .int .i64 ct) (x19 : a.eval (.tmp 19) = .int .i64 i) (x39 : a.eval (.tmp 39) = .slice va rl vc)
    {P1 P2 : World → Prop} (HO : Calls Try.prog 16 #[pp c2] x fun e x' => (∃ a cc, e = .returned (.slice a 0 cc)) ∧ P1 x') (HF : ∀ z, P1 z → Calls Try.prog 17 #[pp p] z fun e x' => (∃ a cc, e = .returned (.slice a fr cc)) ∧ P2 x') (hfr : n = used + fr) (hn : n ≤ 4096)
    (hK : ∀ a' y, a'.tmps.size = 477 → a'.defers = [] → a'.eval (.tmp 0) = .int .i64 n → a'.eval (.tmp 1) = .slice ta Lc tc → a'.eval (.tmp 5) = .pointer (some ⟨p, 0, none⟩) → a'.eval (.tmp 7) = .pointer (some ⟨kb, 0, none⟩) → a'.eval (.tmp 9) = .pointer (some ⟨c, 0, none⟩) → a'.eval (.tmp 10) = .pointer (some ⟨c2, 0, none⟩) → a'.eval (.tmp 15) = .slice (some ⟨g, 0, none⟩) rl rc → a'.eval (.tmp 16) = .int .i64 now → a'.eval (.tmp 17) = .int .i64 used → a'.eval (.tmp 18) = .int .i64 ct → a'.eval (.tmp 19) = .int .i64 i → a'.eval (.tmp 39) = .slice va rl vc → P2 y → K a' y) : (atc Try.f3.body [1, 1, 1, 1, 1, 1, 1, 1, 1, 1, 1, 1, 1, 1, 0, 1, 0, 0, 1, 0, 0, 1, 1, 1, 0]).wp Try.prog (Exit.then K Q) a x := by
  obtain ⟨cc, hcc, hce⟩ := expand477 hs hd
  have g0 := (hce 0).trans x0
  have g1 := (hce 1).trans x1
  have g5 := (hce 5).trans x5
  have g7 := (hce 7).trans x7
  have g9 := (hce 9).trans x9
  have g10 := (hce 10).trans x10
  have g15 := (hce 15).trans x15
  have g16 := (hce 16).trans x16
  have g17 := (hce 17).trans x17
  have g18 := (hce 18).trans x18
  have g19 := (hce 19).trans x19
  have g39 := (hce 39).trans x39
  clear hce hs hd x0 x1 x5 x7 x9 x10 x15 x16 x17 x18 x19 x39
  subst hcc
  conv => arg 2; whnf
  simp only [lit477, g0, g1, g5, g7, g9, g10, g15, g16, g17, g18, g19, g39]
  clear g0 g1 g5 g7 g9 g10 g15 g16 g17 g18 g19 g39
  have hfr2 : ((n : Nat) : Int) - (used : Int) = (fr : Int) := by omega
  have hb1 : (fr : Int) ≤ 4096 := by omega
  have hb2 : (n : Int) ≤ 4096 := by omega
  have hb3 : (used : Int) ≤ 4096 := by omega
  have HF2 : Hid _ := HF
  clear HF hfr hn
  have HK : Hid _ := hK
  clear hK
  go_wp2_with (first
    | (go_at_call 16; refine HO.mono ?_; rintro e w1 ⟨⟨a1, c1, rfl⟩, hp⟩; have HPP : Hid _ := hp; clear hp HO)
    | (go_at_call 17; refine (HF2.out _ HPP.out).mono ?_; rintro e w2 ⟨⟨a2, cc2, rfl⟩, hp⟩; have HP2 : Hid _ := hp; clear hp HPP))
  exact HK.out _ _ rfl rfl rfl rfl rfl rfl rfl rfl rfl rfl rfl rfl rfl rfl HP2.out
set_option maxRecDepth 100000 in
set_option maxHeartbeats 1600000 in
theorem ch_82 (hs : a.tmps.size = 477) (hd : a.defers = []) (x0 : a.eval (.tmp 0) = .int .i64 n) (x1 : a.eval (.tmp 1) = .slice ta Lc tc) (x5 : a.eval (.tmp 5) = .pointer (some ⟨p, 0, none⟩)) (x7 : a.eval (.tmp 7) = .pointer (some ⟨kb, 0, none⟩)) (x9 : a.eval (.tmp 9) = .pointer (some ⟨c, 0, none⟩)) (x10 : a.eval (.tmp 10) = .pointer (some ⟨c2, 0, none⟩)) (x15 : a.eval (.tmp 15) = .slice (some ⟨g, 0, none⟩) rl rc) (x16 : a.eval (.tmp 16) = .int .i64 now) (x17 : a.eval (.tmp 17) = .int .i64 used) (x18 : a.eval (.tmp 18) = .int .i64 ct) (x19 : a.eval (.tmp 19) = .int .i64 i) (x39 : a.eval (.tmp 39) = .slice va rl vc)
    
    (hK : ∀ a', a'.tmps.size = 477 → a'.defers = [] → a'.eval (.tmp 0) = .int .i64 n → a'.eval (.tmp 1) = .slice ta Lc tc → a'.eval (.tmp 5) = .pointer (some ⟨p, 0, none⟩) → a'.eval (.tmp 7) = .pointer (some ⟨kb, 0, none⟩) → a'.eval (.tmp 9) = .pointer (some ⟨c, 0, none⟩) → a'.eval (.tmp 10) = .pointer (some ⟨c2, 0, none⟩) → a'.eval (.tmp 15) = .slice (some ⟨g, 0, none⟩) rl rc → a'.eval (.tmp 16) = .int .i64 now → a'.eval (.tmp 17) = .int .i64 used → a'.eval (.tmp 18) = .int .i64 ct → a'.eval (.tmp 19) = .int .i64 i → a'.eval (.tmp 39) = .slice va rl vc → a'.eval (.tmp 40) = .int .i64 0 →  K a' x) : (atc Try.f3.body [1, 1, 1, 1, 1, 1, 1, 1, 1, 1, 1, 1, 1, 1, 0, 1, 0, 0, 1, 0, 0, 1, 1, 1, 1, 0]).wp Try.prog (Exit.then K Q) a x := by
  obtain ⟨cc, hcc, hce⟩ := expand477 hs hd
  have g0 := (hce 0).trans x0
  have g1 := (hce 1).trans x1
  have g5 := (hce 5).trans x5
  have g7 := (hce 7).trans x7
  have g9 := (hce 9).trans x9
  have g10 := (hce 10).trans x10
  have g15 := (hce 15).trans x15
  have g16 := (hce 16).trans x16
  have g17 := (hce 17).trans x17
  have g18 := (hce 18).trans x18
  have g19 := (hce 19).trans x19
  have g39 := (hce 39).trans x39
  clear hce hs hd x0 x1 x5 x7 x9 x10 x15 x16 x17 x18 x19 x39
  subst hcc
  conv => arg 2; whnf
  simp only [lit477, g0, g1, g5, g7, g9, g10, g15, g16, g17, g18, g19, g39]
  clear g0 g1 g5 g7 g9 g10 g15 g16 g17 g18 g19 g39
  have HK : Hid _ := hK
  clear hK
  go_wp2
  exact HK.out _ rfl rfl rfl rfl rfl rfl rfl rfl rfl rfl rfl rfl rfl rfl rfl 
set_option maxRecDepth 100000 in
set_option maxHeartbeats 1600000 in
theorem ch_83in (hs : a.tmps.size = 477) (hd : a.defers = []) (x0 : a.eval (.tmp 0) = .int .i64 n) (x1 : a.eval (.tmp 1) = .slice ta Lc tc) (x5 : a.eval (.tmp 5) = .pointer (some ⟨p, 0, none⟩)) (x7 : a.eval (.tmp 7) = .pointer (some ⟨kb, 0, none⟩)) (x9 : a.eval (.tmp 9) = .pointer (some ⟨c, 0, none⟩)) (x10 : a.eval (.tmp 10) = .pointer (some ⟨c2, 0, none⟩)) (x15 : a.eval (.tmp 15) = .slice (some ⟨g, 0, none⟩) rl rc) (x16 : a.eval (.tmp 16) = .int .i64 now) (x17 : a.eval (.tmp 17) = .int .i64 used) (x18 : a.eval (.tmp 18) = .int .i64 ct) (x19 : a.eval (.tmp 19) = .int .i64 i) (x39 : a.eval (.tmp 39) = .slice va rl vc) (x40 : a.eval (.tmp 40) = .int .i64 k)
    (hk : (k : Int) < rl)
    (hK : ∀ a', a'.tmps.size = 477 → a'.defers = [] → a'.eval (.tmp 0) = .int .i64 n → a'.eval (.tmp 1) = .slice ta Lc tc → a'.eval (.tmp 5) = .pointer (some ⟨p, 0, none⟩) → a'.eval (.tmp 7) = .pointer (some ⟨kb, 0, none⟩) → a'.eval (.tmp 9) = .pointer (some ⟨c, 0, none⟩) → a'.eval (.tmp 10) = .pointer (some ⟨c2, 0, none⟩) → a'.eval (.tmp 15) = .slice (some ⟨g, 0, none⟩) rl rc → a'.eval (.tmp 16) = .int .i64 now → a'.eval (.tmp 17) = .int .i64 used → a'.eval (.tmp 18) = .int .i64 ct → a'.eval (.tmp 19) = .int .i64 i → a'.eval (.tmp 39) = .slice va rl vc → a'.eval (.tmp 40) = .int .i64 k →  K a' x) : (atc Try.f3.body [1, 1, 1, 1, 1, 1, 1, 1, 1, 1, 1, 1, 1, 1, 0, 1, 0, 0, 1, 0, 0, 1, 1, 1, 1, 1, 0, 0, 0]).wp Try.prog (Exit.then K Q) a x := by
  obtain ⟨cc, hcc, hce⟩ := expand477 hs hd
  have g0 := (hce 0).trans x0
  have g1 := (hce 1).trans x1
  have g5 := (hce 5).trans x5
  have g7 := (hce 7).trans x7
  have g9 := (hce 9).trans x9
  have g10 := (hce 10).trans x10
  have g15 := (hce 15).trans x15
  have g16 := (hce 16).trans x16
  have g17 := (hce 17).trans x17
  have g18 := (hce 18).trans x18
  have g19 := (hce 19).trans x19
  have g39 := (hce 39).trans x39
  have g40 := (hce 40).trans x40
  clear hce hs hd x0 x1 x5 x7 x9 x10 x15 x16 x17 x18 x19 x39 x40
  subst hcc
  conv => arg 2; whnf
  simp only [lit477, g0, g1, g5, g7, g9, g10, g15, g16, g17, g18, g19, g39, g40]
  clear g0 g1 g5 g7 g9 g10 g15 g16 g17 g18 g19 g39 g40
  have HK : Hid _ := hK
  clear hK
  go_wp2
  exact HK.out _ rfl rfl rfl rfl rfl rfl rfl rfl rfl rfl rfl rfl rfl rfl rfl 
set_option maxRecDepth 100000 in
set_option maxHeartbeats 1600000 in
theorem ch_83out (hs : a.tmps.size = 477) (hd : a.defers = []) (x0 : a.eval (.tmp 0) = .int .i64 n) (x1 : a.eval (.tmp 1) = .slice ta Lc tc) (x5 : a.eval (.tmp 5) = .pointer (some ⟨p, 0, none⟩)) (x7 : a.eval (.tmp 7) = .pointer (some ⟨kb, 0, none⟩)) (x9 : a.eval (.tmp 9) = .pointer (some ⟨c, 0, none⟩)) (x10 : a.eval (.tmp 10) = .pointer (some ⟨c2, 0, none⟩)) (x15 : a.eval (.tmp 15) = .slice (some ⟨g, 0, none⟩) rl rc) (x16 : a.eval (.tmp 16) = .int .i64 now) (x17 : a.eval (.tmp 17) = .int .i64 used) (x18 : a.eval (.tmp 18) = .int .i64 ct) (x19 : a.eval (.tmp 19) = .int .i64 i) (x39 : a.eval (.tmp 39) = .slice va rl vc) (x40 : a.eval (.tmp 40) = .int .i64 rl)
    
    (hQ : ∀ a', a'.tmps.size = 477 → a'.defers = [] → a'.eval (.tmp 0) = .int .i64 n → a'.eval (.tmp 1) = .slice ta Lc tc → a'.eval (.tmp 5) = .pointer (some ⟨p, 0, none⟩) → a'.eval (.tmp 7) = .pointer (some ⟨kb, 0, none⟩) → a'.eval (.tmp 9) = .pointer (some ⟨c, 0, none⟩) → a'.eval (.tmp 10) = .pointer (some ⟨c2, 0, none⟩) → a'.eval (.tmp 15) = .slice (some ⟨g, 0, none⟩) rl rc → a'.eval (.tmp 16) = .int .i64 now → a'.eval (.tmp 17) = .int .i64 used → a'.eval (.tmp 18) = .int .i64 ct → a'.eval (.tmp 19) = .int .i64 i →  Q (.exit 9) a' x) : (atc Try.f3.body [1, 1, 1, 1, 1, 1, 1, 1, 1, 1, 1, 1, 1, 1, 0, 1, 0, 0, 1, 0, 0, 1, 1, 1, 1, 1, 0, 0, 0]).wp Try.prog (Exit.then K Q) a x := by
  obtain ⟨cc, hcc, hce⟩ := expand477 hs hd
  have g0 := (hce 0).trans x0
  have g1 := (hce 1).trans x1
  have g5 := (hce 5).trans x5
  have g7 := (hce 7).trans x7
  have g9 := (hce 9).trans x9
  have g10 := (hce 10).trans x10
  have g15 := (hce 15).trans x15
  have g16 := (hce 16).trans x16
  have g17 := (hce 17).trans x17
  have g18 := (hce 18).trans x18
  have g19 := (hce 19).trans x19
  have g39 := (hce 39).trans x39
  have g40 := (hce 40).trans x40
  clear hce hs hd x0 x1 x5 x7 x9 x10 x15 x16 x17 x18 x19 x39 x40
  subst hcc
  conv => arg 2; whnf
  simp only [lit477, g0, g1, g5, g7, g9, g10, g15, g16, g17, g18, g19, g39, g40]
  clear g0 g1 g5 g7 g9 g10 g15 g16 g17 g18 g19 g39 g40
  have hk : ¬ (rl : Int) < rl := by omega
  have HK : Hid _ := hQ
  clear hQ
  go_wp2
  exact HK.out _ rfl rfl rfl rfl rfl rfl rfl rfl rfl rfl rfl rfl rfl 
set_option maxRecDepth 100000 in
set_option maxHeartbeats 1600000 in
theorem ch_85 (hs : a.tmps.size = 477) (hd : a.defers = []) (x0 : a.eval (.tmp 0) = .int .i64 n) (x1 : a.eval (.tmp 1) = .slice ta Lc tc) (x5 : a.eval (.tmp 5) = .pointer (some ⟨p, 0, none⟩)) (x7 : a.eval (.tmp 7) = .pointer (some ⟨kb, 0, none⟩)) (x9 : a.eval (.tmp 9) = .pointer (some ⟨c, 0, none⟩)) (x10 : a.eval (.tmp 10) = .pointer (some ⟨c2, 0, none⟩)) (x15 : a.eval (.tmp 15) = .slice (some ⟨g, 0, none⟩) rl rc) (x16 : a.eval (.tmp 16) = .int .i64 now) (x17 : a.eval (.tmp 17) = .int .i64 used) (x18 : a.eval (.tmp 18) = .int .i64 ct) (x19 : a.eval (.tmp 19) = .int .i64 i) (x39 : a.eval (.tmp 39) = .slice (some ⟨vb, 0, none⟩) rl vc) (x40 : a.eval (.tmp 40) = .int .i64 k)
    (hk : (k : Int) < rl) (hc : x.cell? ⟨vb, k, none⟩ = some (.int .i64 lh)) {PP : World → Prop} (HP : Calls Try.prog 18 #[pp p, .pointer none, .int .i64 lh] x fun e x' => ∃ nb nc nd, e = .returned (.tuple #[.agg #[.int .i64 za, .int .i64 nb, .int .i64 nc, .int .i64 nd], .int .i64 0]) ∧ PP x')
    (hK : ∀ a' y z nb nc nd, a'.tmps.size = 477 → a'.defers = [] → a'.eval (.tmp 0) = .int .i64 n → a'.eval (.tmp 1) = .slice ta Lc tc → a'.eval (.tmp 5) = .pointer (some ⟨p, 0, none⟩) → a'.eval (.tmp 7) = .pointer (some ⟨kb, 0, none⟩) → a'.eval (.tmp 9) = .pointer (some ⟨c, 0, none⟩) → a'.eval (.tmp 10) = .pointer (some ⟨c2, 0, none⟩) → a'.eval (.tmp 15) = .slice (some ⟨g, 0, none⟩) rl rc → a'.eval (.tmp 16) = .int .i64 now → a'.eval (.tmp 17) = .int .i64 used → a'.eval (.tmp 18) = .int .i64 ct → a'.eval (.tmp 19) = .int .i64 i → a'.eval (.tmp 39) = .slice (some ⟨vb, 0, none⟩) rl vc → a'.eval (.tmp 40) = .int .i64 k → a'.eval (.tmp 41) = .pointer (some ⟨z.heap.size, 0, none⟩) → a'.eval (.tmp 42) = .int .i64 0 → PP z → y = z.alloc (nodeO za nb nc nd) → K a' y) : (atc Try.f3.body [1, 1, 1, 1, 1, 1, 1, 1, 1, 1, 1, 1, 1, 1, 0, 1, 0, 0, 1, 0, 0, 1, 1, 1, 1, 1, 0, 0, 1, 0, 0, 0]).wp Try.prog (Exit.then K Q) a x := by
  obtain ⟨cc, hcc, hce⟩ := expand477 hs hd
  have g0 := (hce 0).trans x0
  have g1 := (hce 1).trans x1
  have g5 := (hce 5).trans x5
  have g7 := (hce 7).trans x7
  have g9 := (hce 9).trans x9
  have g10 := (hce 10).trans x10
  have g15 := (hce 15).trans x15
  have g16 := (hce 16).trans x16
  have g17 := (hce 17).trans x17
  have g18 := (hce 18).trans x18
  have g19 := (hce 19).trans x19
  have g39 := (hce 39).trans x39
  have g40 := (hce 40).trans x40
  clear hce hs hd x0 x1 x5 x7 x9 x10 x15 x16 x17 x18 x19 x39 x40
  subst hcc
  conv => arg 2; whnf
  simp only [lit477, g0, g1, g5, g7, g9, g10, g15, g16, g17, g18, g19, g39, g40]
  clear g0 g1 g5 g7 g9 g10 g15 g16 g17 g18 g19 g39 g40
  have HK : Hid _ := hK
  clear hK
  go_wp2_with (go_at_call 18; refine HP.mono ?_; rintro e w1 ⟨nb, nc, nd, rfl, hp⟩; have HPP : Hid _ := hp; clear hp HP)
  exact HK.out _ _ _ _ _ _ rfl rfl rfl rfl rfl rfl rfl rfl rfl rfl rfl rfl rfl rfl rfl rfl rfl HPP.out rfl
set_option maxRecDepth 100000 in
set_option maxHeartbeats 1600000 in
theorem ch_84 (hs : a.tmps.size = 477) (hd : a.defers = []) (x0 : a.eval (.tmp 0) = .int .i64 n) (x1 : a.eval (.tmp 1) = .slice ta Lc tc) (x5 : a.eval (.tmp 5) = .pointer (some ⟨p, 0, none⟩)) (x7 : a.eval (.tmp 7) = .pointer (some ⟨kb, 0, none⟩)) (x9 : a.eval (.tmp 9) = .pointer (some ⟨c, 0, none⟩)) (x10 : a.eval (.tmp 10) = .pointer (some ⟨c2, 0, none⟩)) (x15 : a.eval (.tmp 15) = .slice (some ⟨g, 0, none⟩) rl rc) (x16 : a.eval (.tmp 16) = .int .i64 now) (x17 : a.eval (.tmp 17) = .int .i64 used) (x18 : a.eval (.tmp 18) = .int .i64 ct) (x19 : a.eval (.tmp 19) = .int .i64 i) (x39 : a.eval (.tmp 39) = .slice va rl vc) (x40 : a.eval (.tmp 40) = .int .i64 k)
    (hk : k ≤ 5000)
    (hK : ∀ a', a'.tmps.size = 477 → a'.defers = [] → a'.eval (.tmp 0) = .int .i64 n → a'.eval (.tmp 1) = .slice ta Lc tc → a'.eval (.tmp 5) = .pointer (some ⟨p, 0, none⟩) → a'.eval (.tmp 7) = .pointer (some ⟨kb, 0, none⟩) → a'.eval (.tmp 9) = .pointer (some ⟨c, 0, none⟩) → a'.eval (.tmp 10) = .pointer (some ⟨c2, 0, none⟩) → a'.eval (.tmp 15) = .slice (some ⟨g, 0, none⟩) rl rc → a'.eval (.tmp 16) = .int .i64 now → a'.eval (.tmp 17) = .int .i64 used → a'.eval (.tmp 18) = .int .i64 ct → a'.eval (.tmp 19) = .int .i64 i → a'.eval (.tmp 39) = .slice va rl vc → a'.eval (.tmp 40) = .int .i64 ((k + 1 : Nat) : Int) →  K a' x) : (atc Try.f3.body [1, 1, 1, 1, 1, 1, 1, 1, 1, 1, 1, 1, 1, 1, 0, 1, 0, 0, 1, 0, 0, 1, 1, 1, 1, 1, 0, 0, 1, 1]).wp Try.prog (Exit.then K Q) a x := by
  obtain ⟨cc, hcc, hce⟩ := expand477 hs hd
  have g0 := (hce 0).trans x0
  have g1 := (hce 1).trans x1
  have g5 := (hce 5).trans x5
  have g7 := (hce 7).trans x7
  have g9 := (hce 9).trans x9
  have g10 := (hce 10).trans x10
  have g15 := (hce 15).trans x15
  have g16 := (hce 16).trans x16
  have g17 := (hce 17).trans x17
  have g18 := (hce 18).trans x18
  have g19 := (hce 19).trans x19
  have g39 := (hce 39).trans x39
  have g40 := (hce 40).trans x40
  clear hce hs hd x0 x1 x5 x7 x9 x10 x15 x16 x17 x18 x19 x39 x40
  subst hcc
  conv => arg 2; whnf
  simp only [lit477, g0, g1, g5, g7, g9, g10, g15, g16, g17, g18, g19, g39, g40]
  clear g0 g1 g5 g7 g9 g10 g15 g16 g17 g18 g19 g39 g40
  have HK : Hid _ := hK
  clear hK
  go_wp2
  exact HK.out _ rfl rfl rfl rfl rfl rfl rfl rfl rfl rfl rfl rfl rfl rfl rfl 
set_option maxRecDepth 100000 in
set_option maxHeartbeats 1600000 in
theorem ch_21 (hs : a.tmps.size = 477) (hd : a.defers = []) (x0 : a.eval (.tmp 0) = .int .i64 n) (x1 : a.eval (.tmp 1) = .slice ta Lc tc) (x5 : a.eval (.tmp 5) = .pointer (some ⟨p, 0, none⟩)) (x7 : a.eval (.tmp 7) = .pointer (some ⟨kb, 0, none⟩)) (x9 : a.eval (.tmp 9) = .pointer (some ⟨c, 0, none⟩)) (x10 : a.eval (.tmp 10) = .pointer (some ⟨c2, 0, none⟩)) (x15 : a.eval (.tmp 15) = .slice (some ⟨g, 0, none⟩) rl rc) (x16 : a.eval (.tmp 16) = .int .i64 now) (x17 : a.eval (.tmp 17) = .int .i64 used) (x18 : a.eval (.tmp 18) = .int .i64 ct) (x19 : a.eval (.tmp 19) = .int .i64 i)
    (hi : i ≤ 400)
    (hK : ∀ a', a'.tmps.size = 477 → a'.defers = [] → a'.eval (.tmp 0) = .int .i64 n → a'.eval (.tmp 1) = .slice ta Lc tc → a'.eval (.tmp 5) = .pointer (some ⟨p, 0, none⟩) → a'.eval (.tmp 7) = .pointer (some ⟨kb, 0, none⟩) → a'.eval (.tmp 9) = .pointer (some ⟨c, 0, none⟩) → a'.eval (.tmp 10) = .pointer (some ⟨c2, 0, none⟩) → a'.eval (.tmp 15) = .slice (some ⟨g, 0, none⟩) rl rc → a'.eval (.tmp 16) = .int .i64 now → a'.eval (.tmp 17) = .int .i64 used → a'.eval (.tmp 18) = .int .i64 ct → a'.eval (.tmp 19) = .int .i64 ((i + 1 : Nat) : Int) →  K a' x) : (atc Try.f3.body [1, 1, 1, 1, 1, 1, 1, 1, 1, 1, 1, 1, 1, 1, 0, 1, 0, 0, 1, 1]).wp Try.prog (Exit.then K Q) a x := by
  obtain ⟨cc, hcc, hce⟩ := expand477 hs hd
  have g0 := (hce 0).trans x0
  have g1 := (hce 1).trans x1
  have g5 := (hce 5).trans x5
  have g7 := (hce 7).trans x7
  have g9 := (hce 9).trans x9
  have g10 := (hce 10).trans x10
  have g15 := (hce 15).trans x15
  have g16 := (hce 16).trans x16
  have g17 := (hce 17).trans x17
  have g18 := (hce 18).trans x18
  have g19 := (hce 19).trans x19
  clear hce hs hd x0 x1 x5 x7 x9 x10 x15 x16 x17 x18 x19
  subst hcc
  conv => arg 2; whnf
  simp only [lit477, g0, g1, g5, g7, g9, g10, g15, g16, g17, g18, g19]
  clear g0 g1 g5 g7 g9 g10 g15 g16 g17 g18 g19
  have HK : Hid _ := hK
  clear hK
  go_wp2
  exact HK.out _ rfl rfl rfl rfl rfl rfl rfl rfl rfl rfl rfl rfl rfl 
set_option maxRecDepth 100000 in
set_option maxHeartbeats 1600000 in
theorem ch_88 (hs : a.tmps.size = 477) (hd : a.defers = []) (x0 : a.eval (.tmp 0) = .int .i64 n) (x1 : a.eval (.tmp 1) = .slice ta Lc tc) (x5 : a.eval (.tmp 5) = .pointer (some ⟨p, 0, none⟩)) (x7 : a.eval (.tmp 7) = .pointer (some ⟨kb, 0, none⟩)) (x9 : a.eval (.tmp 9) = .pointer (some ⟨c, 0, none⟩)) (x10 : a.eval (.tmp 10) = .pointer (some ⟨c2, 0, none⟩)) (x15 : a.eval (.tmp 15) = .slice (some ⟨g, 0, none⟩) rl rc) (x16 : a.eval (.tmp 16) = .int .i64 now) (x17 : a.eval (.tmp 17) = .int .i64 used) (x18 : a.eval (.tmp 18) = .int .i64 ct) (x19 : a.eval (.tmp 19) = .int .i64 i)
    {PP : World → Prop} (HP : Calls Try.prog 20 #[pp p] x fun e x' => e = .returned (.int .i64 0) ∧ PP x')
    (hQ : ∀ a' y, a'.tmps.size = 477 → a'.defers = [] → a'.eval (.tmp 4) = .bool true → PP y → Q (.ret) a' y) : (atc Try.f3.body [1, 1, 1, 1, 1, 1, 1, 1, 1, 1, 1, 1, 1, 1, 1]).wp Try.prog (Exit.then K Q) a x := by
  obtain ⟨cc, hcc, hce⟩ := expand477 hs hd
  have g0 := (hce 0).trans x0
  have g1 := (hce 1).trans x1
  have g5 := (hce 5).trans x5
  have g7 := (hce 7).trans x7
  have g9 := (hce 9).trans x9
  have g10 := (hce 10).trans x10
  have g15 := (hce 15).trans x15
  have g16 := (hce 16).trans x16
  have g17 := (hce 17).trans x17
  have g18 := (hce 18).trans x18
  have g19 := (hce 19).trans x19
  clear hce hs hd x0 x1 x5 x7 x9 x10 x15 x16 x17 x18 x19
  subst hcc
  conv => arg 2; whnf
  simp only [lit477, g0, g1, g5, g7, g9, g10, g15, g16, g17, g18, g19]
  clear g0 g1 g5 g7 g9 g10 g15 g16 g17 g18 g19
  have HK : Hid _ := hQ
  clear hQ
  go_wp2_with (go_at_call 20; refine HP.mono ?_; rintro e w1 ⟨rfl, hp⟩; have HPP : Hid _ := hp; clear hp HP)
  exact HK.out _ _ rfl rfl rfl HPP.out
end
end Go.Proofs.Ytaaibhgbkdnlbaa

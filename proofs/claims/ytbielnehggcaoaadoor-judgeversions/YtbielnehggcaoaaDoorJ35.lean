/- pair's drawn region with a call. (Written by tools/gen/genjxpa.py.) -/
import Derived.Test.YtbielnehggcaoaaDoorJ32
import Derived.Test.YtbielnehggcaoaaDoorJ11
import Derived.Test.YtbielnehggcaoaaDoorJ33
set_option linter.unusedVariables false
namespace Go.Proofs.YtbielnehggcaoaaDoor
open Go.RowKit
def pair_aV (g h nb no q ml mc : Nat) (wk eb en k key num val new v : Int) (had has : Bool) (na pa1 : Option Addr) (nl nc pl pc : Nat) (_ : Unit) : Nat → Value := fun j => match j with | 0 => (Value.bool true) | 1 => (Value.bool true) | 2 => (Value.bool true) | 3 => (Value.bool true) | 4 => (Value.bool true) | 5 => (Value.agg #[.int .i64 wk, .int .i64 eb, .int .i64 en, .int .i64 k, .int .i64 (q : Int), .int .i64 key, .int .i64 num, .bool had, .int .i64 val, .bool has, .int .i64 new, .slice na nl nc, .slice pa1 pl pc]) | 6 => (Value.bool true) | 7 => (Value.bool true) | 8 => (Value.bool true) | 9 => (pa g 6) | 10 => (Value.int IntKind.i64 num) | 11 => (pa h 11) | 12 => (Value.slice (some ⟨nb, no, none⟩) ml mc) | 13 => (pa g 4) | 14 => (Value.int IntKind.i64 (q : Int)) | 15 => (pa nb (no + q)) | 16 => (Value.int IntKind.i64 v) | 17 => (Value.bool true) | 18 => (Value.bool true) | 19 => (Value.bool true) | 20 => undef | 21 => undef | 22 => undef | 23 => undef | 24 => undef | 25 => undef | 26 => undef | 27 => undef | 28 => undef | 29 => undef | 30 => undef | 31 => undef | 32 => undef | 33 => undef | 34 => undef | 35 => undef | 36 => undef | 37 => undef | 38 => undef | 39 => (Value.bool true) | _ => undef
set_option maxRecDepth 100000 in
set_option maxHeartbeats 1600000 in
theorem pair_a {g h nb no q ml mc : Nat} {wk eb en k key num val new v : Int} {had has : Bool} {na pa1 : Option Addr} {nl nc pl pc : Nat} {K : Act → World → Prop} {Q : Exit → Act → World → Prop} {a0 : Act} {w : World} (hs : a0.tmps.size = 181) (x6 : a0.eval (.tmp 6) = pa g 0) (x7 : a0.eval (.tmp 7) = pa h 0) (x8 : a0.eval (.tmp 8) = (Value.bool false)) (x9 : a0.eval (.tmp 9) = .bool true) (x10 : a0.eval (.tmp 10) = .bool true) (ha0 : w.cell? ⟨g, 0, none⟩ = some (.int .i64 wk)) (ha1 : w.cell? ⟨g, 1, none⟩ = some (.int .i64 eb)) (ha2 : w.cell? ⟨g, 2, none⟩ = some (.int .i64 en)) (ha3 : w.cell? ⟨g, 3, none⟩ = some (.int .i64 k)) (ha4 : w.cell? ⟨g, 4, none⟩ = some (.int .i64 (q : Int))) (ha5 : w.cell? ⟨g, 5, none⟩ = some (.int .i64 key)) (ha6 : w.cell? ⟨g, 6, none⟩ = some (.int .i64 num)) (ha7 : w.cell? ⟨g, 7, none⟩ = some (.bool had)) (ha8 : w.cell? ⟨g, 8, none⟩ = some (.int .i64 val)) (ha9 : w.cell? ⟨g, 9, none⟩ = some (.bool has)) (ha10 : w.cell? ⟨g, 10, none⟩ = some (.int .i64 new)) (ha11 : w.cell? ⟨g, 11, none⟩ = some (.slice na nl nc)) (ha12 : w.cell? ⟨g, 12, none⟩ = some (.slice pa1 pl pc)) (hb11 : w.cell? ⟨h, 11, none⟩ = some (.slice (some ⟨nb, no, none⟩) ml mc)) (hv9 : w.cell? ⟨nb, no + q, none⟩ = some (.int .i64 v)) (hq : (q : Int) < (ml : Int)) (hq1 : q < ml) (hq2 : 0 ≤ (q : Int)) (hq3 : IntKind.i64.wrap (q : Int) = (q : Int)) (hcmp : decide (num ≤ v) = true) (hWr : ∀ x, Turned [] w x → Calls Tryd.prog 55 #[.agg #[.int .i64 wk, .int .i64 eb, .int .i64 en, .int .i64 k, .int .i64 (q : Int), .int .i64 key, .int .i64 num, .bool had, .int .i64 val, .bool has, .int .i64 new, .slice na nl nc, .slice pa1 pl pc]] x fun e w' => e = .returned (Value.bool true) ∧ Turned [] x w')
    (hEnd : ∀ a' x, a'.tmps.size = a0.tmps.size → a'.defers = a0.defers → (∀ s, some s ∉ ([some 95, some 96, some 97, some 98, some 99, some 100, some 101, some 102, some 103, some 104, some 105, some 106, some 107, some 108, some 109, some 110, some 111, some 112, some 113, some 114, some 115, some 116, some 117, some 118, some 119, some 120, some 121, some 122, some 123, some 124, some 125, some 126, some 127, some 128, some 129, some 130, some 131, some 132, some 133, some 134] : List (Option Nat)) → a'.eval (.tmp s) = a0.eval (.tmp s)) → a'.eval (.tmp 134) = (Value.bool true) → Turned [] w x → K a' x) : (Code.region 9 (opsOf 9 Tryd.f39.body) true).wp Tryd.prog (Exit.then K Q) a0 w := by
  refine wp_region_ghost3 (G := Unit) (by kernel_rfl) [some 95, some 96, some 97, some 98, some 99, some 100, some 101, some 102, some 103, some 104, some 105, some 106, some 107, some 108, some 109, some 110, some 111, some 112, some 113, some 114, some 115, some 116, some 117, some 118, some 119, some 120, some 121, some 122, some 123, some 124, some 125, some 126, some 127, some 128, some 129, some 130, some 131, some 132, some 133, some 134] (by rw [hs]; kernel_rfl) (pair_aV g h nb no q ml mc wk eb en k key num val new v had has na pa1 nl nc pl pc) [] ?_ (fun _ _ => false) (fun _ x => Turned [] w x) (()) ((Turned.refl _ _).drew) (by simp) (by decide) ?_ ?_
  · intro i g b h γ
    have hi : i < 40 := by
      apply Classical.byContradiction
      intro hn
      rw [show (opsOf 9 Tryd.f39.body)[i]? = none from Array.getElem?_eq_none (by have : (opsOf 9 Tryd.f39.body).size = 40 := (by kernel_rfl); omega)] at h
      cases h
    rcases (by omega : i = 0 ∨ i = 1 ∨ i = 2 ∨ i = 3 ∨ i = 4 ∨ i = 5 ∨ i = 6 ∨ i = 7 ∨ i = 8 ∨ i = 9 ∨ i = 10 ∨ i = 11 ∨ i = 12 ∨ i = 13 ∨ i = 14 ∨ i = 15 ∨ i = 16 ∨ i = 17 ∨ i = 18 ∨ i = 19 ∨ i = 20 ∨ i = 21 ∨ i = 22 ∨ i = 23 ∨ i = 24 ∨ i = 25 ∨ i = 26 ∨ i = 27 ∨ i = 28 ∨ i = 29 ∨ i = 30 ∨ i = 31 ∨ i = 32 ∨ i = 33 ∨ i = 34 ∨ i = 35 ∨ i = 36 ∨ i = 37 ∨ i = 38 ∨ i = 39) with rfl | rfl | rfl | rfl | rfl | rfl | rfl | rfl | rfl | rfl | rfl | rfl | rfl | rfl | rfl | rfl | rfl | rfl | rfl | rfl | rfl | rfl | rfl | rfl | rfl | rfl | rfl | rfl | rfl | rfl | rfl | rfl | rfl | rfl | rfl | rfl | rfl | rfl | rfl | rfl
    · rw [show ((opsOf 9 Tryd.f39.body)[0]?).bind (fun o : Oper => o.guard) = none from by kernel_rfl] at h
      cases h
    · rw [show ((opsOf 9 Tryd.f39.body)[1]?).bind (fun o : Oper => o.guard) = none from by kernel_rfl] at h
      cases h
    · rw [show ((opsOf 9 Tryd.f39.body)[2]?).bind (fun o : Oper => o.guard) = some (1, true) from by kernel_rfl] at h
      obtain ⟨rfl, rfl⟩ : 1 = g ∧ true = b := by simpa using h
      exact .inl ⟨true, rfl, fun hne => absurd rfl hne⟩
    · rw [show ((opsOf 9 Tryd.f39.body)[3]?).bind (fun o : Oper => o.guard) = none from by kernel_rfl] at h
      cases h
    · rw [show ((opsOf 9 Tryd.f39.body)[4]?).bind (fun o : Oper => o.guard) = none from by kernel_rfl] at h
      cases h
    · rw [show ((opsOf 9 Tryd.f39.body)[5]?).bind (fun o : Oper => o.guard) = some (4, true) from by kernel_rfl] at h
      obtain ⟨rfl, rfl⟩ : 4 = g ∧ true = b := by simpa using h
      exact .inl ⟨true, rfl, fun hne => absurd rfl hne⟩
    · rw [show ((opsOf 9 Tryd.f39.body)[6]?).bind (fun o : Oper => o.guard) = some (4, true) from by kernel_rfl] at h
      obtain ⟨rfl, rfl⟩ : 4 = g ∧ true = b := by simpa using h
      exact .inl ⟨true, rfl, fun hne => absurd rfl hne⟩
    · rw [show ((opsOf 9 Tryd.f39.body)[7]?).bind (fun o : Oper => o.guard) = none from by kernel_rfl] at h
      cases h
    · rw [show ((opsOf 9 Tryd.f39.body)[8]?).bind (fun o : Oper => o.guard) = none from by kernel_rfl] at h
      cases h
    · rw [show ((opsOf 9 Tryd.f39.body)[9]?).bind (fun o : Oper => o.guard) = some (8, true) from by kernel_rfl] at h
      obtain ⟨rfl, rfl⟩ : 8 = g ∧ true = b := by simpa using h
      exact .inl ⟨true, rfl, fun hne => absurd rfl hne⟩
    · rw [show ((opsOf 9 Tryd.f39.body)[10]?).bind (fun o : Oper => o.guard) = some (8, true) from by kernel_rfl] at h
      obtain ⟨rfl, rfl⟩ : 8 = g ∧ true = b := by simpa using h
      exact .inl ⟨true, rfl, fun hne => absurd rfl hne⟩
    · rw [show ((opsOf 9 Tryd.f39.body)[11]?).bind (fun o : Oper => o.guard) = some (8, true) from by kernel_rfl] at h
      obtain ⟨rfl, rfl⟩ : 8 = g ∧ true = b := by simpa using h
      exact .inl ⟨true, rfl, fun hne => absurd rfl hne⟩
    · rw [show ((opsOf 9 Tryd.f39.body)[12]?).bind (fun o : Oper => o.guard) = some (8, true) from by kernel_rfl] at h
      obtain ⟨rfl, rfl⟩ : 8 = g ∧ true = b := by simpa using h
      exact .inl ⟨true, rfl, fun hne => absurd rfl hne⟩
    · rw [show ((opsOf 9 Tryd.f39.body)[13]?).bind (fun o : Oper => o.guard) = some (8, true) from by kernel_rfl] at h
      obtain ⟨rfl, rfl⟩ : 8 = g ∧ true = b := by simpa using h
      exact .inl ⟨true, rfl, fun hne => absurd rfl hne⟩
    · rw [show ((opsOf 9 Tryd.f39.body)[14]?).bind (fun o : Oper => o.guard) = some (8, true) from by kernel_rfl] at h
      obtain ⟨rfl, rfl⟩ : 8 = g ∧ true = b := by simpa using h
      exact .inl ⟨true, rfl, fun hne => absurd rfl hne⟩
    · rw [show ((opsOf 9 Tryd.f39.body)[15]?).bind (fun o : Oper => o.guard) = some (8, true) from by kernel_rfl] at h
      obtain ⟨rfl, rfl⟩ : 8 = g ∧ true = b := by simpa using h
      exact .inl ⟨true, rfl, fun hne => absurd rfl hne⟩
    · rw [show ((opsOf 9 Tryd.f39.body)[16]?).bind (fun o : Oper => o.guard) = some (8, true) from by kernel_rfl] at h
      obtain ⟨rfl, rfl⟩ : 8 = g ∧ true = b := by simpa using h
      exact .inl ⟨true, rfl, fun hne => absurd rfl hne⟩
    · rw [show ((opsOf 9 Tryd.f39.body)[17]?).bind (fun o : Oper => o.guard) = some (8, true) from by kernel_rfl] at h
      obtain ⟨rfl, rfl⟩ : 8 = g ∧ true = b := by simpa using h
      exact .inl ⟨true, rfl, fun hne => absurd rfl hne⟩
    · rw [show ((opsOf 9 Tryd.f39.body)[18]?).bind (fun o : Oper => o.guard) = none from by kernel_rfl] at h
      cases h
    · rw [show ((opsOf 9 Tryd.f39.body)[19]?).bind (fun o : Oper => o.guard) = none from by kernel_rfl] at h
      cases h
    · rw [show ((opsOf 9 Tryd.f39.body)[20]?).bind (fun o : Oper => o.guard) = some (19, false) from by kernel_rfl] at h
      obtain ⟨rfl, rfl⟩ : 19 = g ∧ false = b := by simpa using h
      exact .inl ⟨true, rfl, fun _ => ⟨rfl, by decide⟩⟩
    · rw [show ((opsOf 9 Tryd.f39.body)[21]?).bind (fun o : Oper => o.guard) = some (19, false) from by kernel_rfl] at h
      obtain ⟨rfl, rfl⟩ : 19 = g ∧ false = b := by simpa using h
      exact .inl ⟨true, rfl, fun _ => ⟨rfl, by decide⟩⟩
    · rw [show ((opsOf 9 Tryd.f39.body)[22]?).bind (fun o : Oper => o.guard) = some (21, true) from by kernel_rfl] at h
      obtain ⟨rfl, rfl⟩ : 21 = g ∧ true = b := by simpa using h
      exact .inr ⟨rfl, rfl, by decide⟩
    · rw [show ((opsOf 9 Tryd.f39.body)[23]?).bind (fun o : Oper => o.guard) = some (21, true) from by kernel_rfl] at h
      obtain ⟨rfl, rfl⟩ : 21 = g ∧ true = b := by simpa using h
      exact .inr ⟨rfl, rfl, by decide⟩
    · rw [show ((opsOf 9 Tryd.f39.body)[24]?).bind (fun o : Oper => o.guard) = some (19, false) from by kernel_rfl] at h
      obtain ⟨rfl, rfl⟩ : 19 = g ∧ false = b := by simpa using h
      exact .inl ⟨true, rfl, fun _ => ⟨rfl, by decide⟩⟩
    · rw [show ((opsOf 9 Tryd.f39.body)[25]?).bind (fun o : Oper => o.guard) = some (19, false) from by kernel_rfl] at h
      obtain ⟨rfl, rfl⟩ : 19 = g ∧ false = b := by simpa using h
      exact .inl ⟨true, rfl, fun _ => ⟨rfl, by decide⟩⟩
    · rw [show ((opsOf 9 Tryd.f39.body)[26]?).bind (fun o : Oper => o.guard) = some (25, true) from by kernel_rfl] at h
      obtain ⟨rfl, rfl⟩ : 25 = g ∧ true = b := by simpa using h
      exact .inr ⟨rfl, rfl, by decide⟩
    · rw [show ((opsOf 9 Tryd.f39.body)[27]?).bind (fun o : Oper => o.guard) = some (19, false) from by kernel_rfl] at h
      obtain ⟨rfl, rfl⟩ : 19 = g ∧ false = b := by simpa using h
      exact .inl ⟨true, rfl, fun _ => ⟨rfl, by decide⟩⟩
    · rw [show ((opsOf 9 Tryd.f39.body)[28]?).bind (fun o : Oper => o.guard) = some (19, false) from by kernel_rfl] at h
      obtain ⟨rfl, rfl⟩ : 19 = g ∧ false = b := by simpa using h
      exact .inl ⟨true, rfl, fun _ => ⟨rfl, by decide⟩⟩
    · rw [show ((opsOf 9 Tryd.f39.body)[29]?).bind (fun o : Oper => o.guard) = some (28, true) from by kernel_rfl] at h
      obtain ⟨rfl, rfl⟩ : 28 = g ∧ true = b := by simpa using h
      exact .inr ⟨rfl, rfl, by decide⟩
    · rw [show ((opsOf 9 Tryd.f39.body)[30]?).bind (fun o : Oper => o.guard) = some (28, true) from by kernel_rfl] at h
      obtain ⟨rfl, rfl⟩ : 28 = g ∧ true = b := by simpa using h
      exact .inr ⟨rfl, rfl, by decide⟩
    · rw [show ((opsOf 9 Tryd.f39.body)[31]?).bind (fun o : Oper => o.guard) = some (28, true) from by kernel_rfl] at h
      obtain ⟨rfl, rfl⟩ : 28 = g ∧ true = b := by simpa using h
      exact .inr ⟨rfl, rfl, by decide⟩
    · rw [show ((opsOf 9 Tryd.f39.body)[32]?).bind (fun o : Oper => o.guard) = some (28, true) from by kernel_rfl] at h
      obtain ⟨rfl, rfl⟩ : 28 = g ∧ true = b := by simpa using h
      exact .inr ⟨rfl, rfl, by decide⟩
    · rw [show ((opsOf 9 Tryd.f39.body)[33]?).bind (fun o : Oper => o.guard) = some (28, true) from by kernel_rfl] at h
      obtain ⟨rfl, rfl⟩ : 28 = g ∧ true = b := by simpa using h
      exact .inr ⟨rfl, rfl, by decide⟩
    · rw [show ((opsOf 9 Tryd.f39.body)[34]?).bind (fun o : Oper => o.guard) = some (28, true) from by kernel_rfl] at h
      obtain ⟨rfl, rfl⟩ : 28 = g ∧ true = b := by simpa using h
      exact .inr ⟨rfl, rfl, by decide⟩
    · rw [show ((opsOf 9 Tryd.f39.body)[35]?).bind (fun o : Oper => o.guard) = some (28, true) from by kernel_rfl] at h
      obtain ⟨rfl, rfl⟩ : 28 = g ∧ true = b := by simpa using h
      exact .inr ⟨rfl, rfl, by decide⟩
    · rw [show ((opsOf 9 Tryd.f39.body)[36]?).bind (fun o : Oper => o.guard) = some (28, true) from by kernel_rfl] at h
      obtain ⟨rfl, rfl⟩ : 28 = g ∧ true = b := by simpa using h
      exact .inr ⟨rfl, rfl, by decide⟩
    · rw [show ((opsOf 9 Tryd.f39.body)[37]?).bind (fun o : Oper => o.guard) = some (28, true) from by kernel_rfl] at h
      obtain ⟨rfl, rfl⟩ : 28 = g ∧ true = b := by simpa using h
      exact .inr ⟨rfl, rfl, by decide⟩
    · rw [show ((opsOf 9 Tryd.f39.body)[38]?).bind (fun o : Oper => o.guard) = some (19, false) from by kernel_rfl] at h
      obtain ⟨rfl, rfl⟩ : 19 = g ∧ false = b := by simpa using h
      exact .inl ⟨true, rfl, fun _ => ⟨rfl, by decide⟩⟩
    · rw [show ((opsOf 9 Tryd.f39.body)[39]?).bind (fun o : Oper => o.guard) = none from by kernel_rfl] at h
      cases h
  · intro i hi hgd
    rcases (by simp at hi; omega : i = 0 ∨ i = 1 ∨ i = 2 ∨ i = 3 ∨ i = 4 ∨ i = 5 ∨ i = 6 ∨ i = 7 ∨ i = 8 ∨ i = 9 ∨ i = 10 ∨ i = 11 ∨ i = 12 ∨ i = 13 ∨ i = 14 ∨ i = 15 ∨ i = 16 ∨ i = 17 ∨ i = 18 ∨ i = 19 ∨ i = 20 ∨ i = 21 ∨ i = 22 ∨ i = 23 ∨ i = 24 ∨ i = 25 ∨ i = 26 ∨ i = 27 ∨ i = 28 ∨ i = 29 ∨ i = 30 ∨ i = 31 ∨ i = 32 ∨ i = 33 ∨ i = 34 ∨ i = 35 ∨ i = 36 ∨ i = 37 ∨ i = 38 ∨ i = 39) with rfl | rfl | rfl | rfl | rfl | rfl | rfl | rfl | rfl | rfl | rfl | rfl | rfl | rfl | rfl | rfl | rfl | rfl | rfl | rfl | rfl | rfl | rfl | rfl | rfl | rfl | rfl | rfl | rfl | rfl | rfl | rfl | rfl | rfl | rfl | rfl | rfl | rfl | rfl | rfl
    · refine soft (by decide) ?_
      intro o ac wa g ho hoff hv hS hdn
      exact (x_move (op_is rfl ho)).trans (by rw [((hoff 9 (by decide)).trans x9)]; rfl)
    · refine soft (by decide) ?_
      intro o ac wa g ho hoff hv hS hdn
      exact (x_move (op_is rfl ho)).trans (by rw [(hv 0 95 rfl (by kernel_rfl))]; rfl)
    · refine soft (by decide) ?_
      intro o ac wa g ho hoff hv hS hdn
      exact (x_move (op_is rfl ho)).trans (by rw [((hoff 10 (by decide)).trans x10)]; rfl)
    · refine soft (by decide) ?_
      intro o ac wa g ho hoff hv hS hdn
      exact (x_pickG (op_is rfl ho) ((hv 1 96 rfl (by kernel_rfl)))).trans (by rw [if_pos rfl, (hv 2 97 rfl (by kernel_rfl))]; rfl)
    · refine soft (by decide) ?_
      intro o ac wa g ho hoff hv hS hdn
      exact (x_move (op_is rfl ho)).trans (by rw [(hv 3 98 rfl (by kernel_rfl))]; rfl)
    · refine soft (by decide) ?_
      intro o ac wa g ho hoff hv hS hdn
      have q0 := hS.cell ha0 (by simp)
      have q1 := hS.cell ha1 (by simp)
      have q2 := hS.cell ha2 (by simp)
      have q3 := hS.cell ha3 (by simp)
      have q4 := hS.cell ha4 (by simp)
      have q5 := hS.cell ha5 (by simp)
      have q6 := hS.cell ha6 (by simp)
      have q7 := hS.cell ha7 (by simp)
      have q8 := hS.cell ha8 (by simp)
      have q9 := hS.cell ha9 (by simp)
      have q10 := hS.cell ha10 (by simp)
      have q11 := hS.cell ha11 (by simp)
      have q12 := hS.cell ha12 (by simp)
      exact x_load (op_is rfl ho) (by rw [((hoff 6 (by decide)).trans x6)]; show (Instr.loadAt _ (pa _ _)).run _ _ = _; unfold pa; go_simp; rfl)
    · intro o ac wa g K ho hd _ hoff hv hS _ _ _ hK
      refine l_callE (op_is rfl ho) (xs := #[.agg #[.int .i64 wk, .int .i64 eb, .int .i64 en, .int .i64 k, .int .i64 (q : Int), .int .i64 key, .int .i64 num, .bool had, .int .i64 val, .bool has, .int .i64 new, .slice na nl nc, .slice pa1 pl pc]]) (by simp only [List.map_toArray, List.map_cons, List.map_nil]; rw [(hv 5 100 rfl (by kernel_rfl))]; rfl) Tryd.func55 (by kernel_rfl) rfl (hWr wa hS) ?_
      rintro e w' ⟨rfl, ht⟩
      refine ⟨_, rfl, ?_⟩
      rw [hd]
      exact hK g w' (hS.trans ht) (by simp) (fun _ _ _ => rfl)
    · refine soft (by decide) ?_
      intro o ac wa g ho hoff hv hS hdn
      exact (x_pickG (op_is rfl ho) ((hv 4 99 rfl (by kernel_rfl)))).trans (by rw [if_pos rfl, (hv 6 101 rfl (by kernel_rfl))]; rfl)
    · refine soft (by decide) ?_
      intro o ac wa g ho hoff hv hS hdn
      exact (x_move (op_is rfl ho)).trans (by rw [(hv 7 102 rfl (by kernel_rfl))]; rfl)
    · refine soft (by decide) ?_
      intro o ac wa g ho hoff hv hS hdn
      exact x_field (op_is rfl ho) (by rw [((hoff 6 (by decide)).trans x6)]; show (Instr.fieldAt _ (pa _ _) _).run _ _ = .ok (pa _ _) _; unfold pa; go_simp)
    · refine soft (by decide) ?_
      intro o ac wa g ho hoff hv hS hdn
      have hc := hS.cell ha6 (by simp)
      exact x_load (op_is rfl ho) (by rw [(hv 9 104 rfl (by kernel_rfl))]; show (Instr.loadAt _ (pa _ _)).run _ _ = _; unfold pa; go_simp; rfl)
    · refine soft (by decide) ?_
      intro o ac wa g ho hoff hv hS hdn
      exact x_field (op_is rfl ho) (by rw [((hoff 7 (by decide)).trans x7)]; show (Instr.fieldAt _ (pa _ _) _).run _ _ = .ok (pa _ _) _; unfold pa; go_simp)
    · refine soft (by decide) ?_
      intro o ac wa g ho hoff hv hS hdn
      have hc := hS.cell hb11 (by simp)
      exact x_load (op_is rfl ho) (by rw [(hv 11 106 rfl (by kernel_rfl))]; show (Instr.loadAt _ (pa _ _)).run _ _ = _; unfold pa; go_simp; rfl)
    · refine soft (by decide) ?_
      intro o ac wa g ho hoff hv hS hdn
      exact x_field (op_is rfl ho) (by rw [((hoff 6 (by decide)).trans x6)]; show (Instr.fieldAt _ (pa _ _) _).run _ _ = .ok (pa _ _) _; unfold pa; go_simp)
    · refine soft (by decide) ?_
      intro o ac wa g ho hoff hv hS hdn
      have hc := hS.cell ha4 (by simp)
      exact x_load (op_is rfl ho) (by rw [(hv 13 108 rfl (by kernel_rfl))]; show (Instr.loadAt _ (pa _ _)).run _ _ = _; unfold pa; go_simp; rfl)
    · refine soft (by decide) ?_
      intro o ac wa g ho hoff hv hS hdn
      exact x_index (op_is rfl ho) (by rw [(hv 12 107 rfl (by kernel_rfl)), (hv 14 109 rfl (by kernel_rfl))]; show (Instr.indexAt _ (Value.slice (some ⟨nb, no, none⟩) ml mc) (Value.int IntKind.i64 (q : Int))).run _ _ = .ok (pa _ _) _; unfold pa; go_simp)
    · refine soft (by decide) ?_
      intro o ac wa g ho hoff hv hS hdn
      have hc := hS.cell hv9 (by simp)
      exact x_load (op_is rfl ho) (by rw [(hv 15 110 rfl (by kernel_rfl))]; show (Instr.loadAt _ (pa _ _)).run _ _ = _; unfold pa; go_simp; rfl)
    · refine soft (by decide) ?_
      intro o ac wa g ho hoff hv hS hdn
      exact x_bin (op_is rfl ho) (hv 10 105 rfl (by kernel_rfl)) (hv 16 111 rfl (by kernel_rfl)) (by go_simp) (by show (binOp .leq _ (.int .i64 num) (.int .i64 v)).run _ _ = .ok (.bool true) _; go_simp)
    · refine soft (by decide) ?_
      intro o ac wa g ho hoff hv hS hdn
      exact (x_pickG (op_is rfl ho) ((hv 8 103 rfl (by kernel_rfl)))).trans (by rw [if_pos rfl, (hv 17 112 rfl (by kernel_rfl))]; rfl)
    · refine soft (by decide) ?_
      intro o ac wa g ho hoff hv hS hdn
      exact (x_move (op_is rfl ho)).trans (by rw [(hv 18 113 rfl (by kernel_rfl))]; rfl)
    · obtain ⟨γ, hγ⟩ := hgd 19 false (by kernel_rfl)
      have hγ2 : (Value.bool true) = Value.bool false := hγ
      cases hγ2
    · obtain ⟨γ, hγ⟩ := hgd 19 false (by kernel_rfl)
      have hγ2 : (Value.bool true) = Value.bool false := hγ
      cases hγ2
    · obtain ⟨γ, hγ⟩ := hgd 21 true (by kernel_rfl)
      have hγ2 : undef = Value.bool true := hγ
      cases hγ2
    · obtain ⟨γ, hγ⟩ := hgd 21 true (by kernel_rfl)
      have hγ2 : undef = Value.bool true := hγ
      cases hγ2
    · obtain ⟨γ, hγ⟩ := hgd 19 false (by kernel_rfl)
      have hγ2 : (Value.bool true) = Value.bool false := hγ
      cases hγ2
    · obtain ⟨γ, hγ⟩ := hgd 19 false (by kernel_rfl)
      have hγ2 : (Value.bool true) = Value.bool false := hγ
      cases hγ2
    · obtain ⟨γ, hγ⟩ := hgd 25 true (by kernel_rfl)
      have hγ2 : undef = Value.bool true := hγ
      cases hγ2
    · obtain ⟨γ, hγ⟩ := hgd 19 false (by kernel_rfl)
      have hγ2 : (Value.bool true) = Value.bool false := hγ
      cases hγ2
    · obtain ⟨γ, hγ⟩ := hgd 19 false (by kernel_rfl)
      have hγ2 : (Value.bool true) = Value.bool false := hγ
      cases hγ2
    · obtain ⟨γ, hγ⟩ := hgd 28 true (by kernel_rfl)
      have hγ2 : undef = Value.bool true := hγ
      cases hγ2
    · obtain ⟨γ, hγ⟩ := hgd 28 true (by kernel_rfl)
      have hγ2 : undef = Value.bool true := hγ
      cases hγ2
    · obtain ⟨γ, hγ⟩ := hgd 28 true (by kernel_rfl)
      have hγ2 : undef = Value.bool true := hγ
      cases hγ2
    · obtain ⟨γ, hγ⟩ := hgd 28 true (by kernel_rfl)
      have hγ2 : undef = Value.bool true := hγ
      cases hγ2
    · obtain ⟨γ, hγ⟩ := hgd 28 true (by kernel_rfl)
      have hγ2 : undef = Value.bool true := hγ
      cases hγ2
    · obtain ⟨γ, hγ⟩ := hgd 28 true (by kernel_rfl)
      have hγ2 : undef = Value.bool true := hγ
      cases hγ2
    · obtain ⟨γ, hγ⟩ := hgd 28 true (by kernel_rfl)
      have hγ2 : undef = Value.bool true := hγ
      cases hγ2
    · obtain ⟨γ, hγ⟩ := hgd 28 true (by kernel_rfl)
      have hγ2 : undef = Value.bool true := hγ
      cases hγ2
    · obtain ⟨γ, hγ⟩ := hgd 28 true (by kernel_rfl)
      have hγ2 : undef = Value.bool true := hγ
      cases hγ2
    · obtain ⟨γ, hγ⟩ := hgd 19 false (by kernel_rfl)
      have hγ2 : (Value.bool true) = Value.bool false := hγ
      cases hγ2
    · refine soft (by decide) ?_
      intro o ac wa g ho hoff hv hS hdn
      exact (x_pickG (op_is rfl ho) ((hv 19 114 rfl (by kernel_rfl)))).trans (by rw [if_pos rfl]; rfl)
  · intro a' w' g hsz hdf hoff hS hdn hval
    exact hEnd a' w' hsz hdf (fun s hs => ev_same (hoff s hs)) (hval 39 134 rfl) hS
def pair_bV (g h nb no q ml mc : Nat) (wk eb en k key num val new v : Int) (had has : Bool) (na pa1 : Option Addr) (nl nc pl pc : Nat) (_ : Unit) : Nat → Value := fun j => match j with | 0 => (Value.bool true) | 1 => (Value.bool true) | 2 => (Value.bool true) | 3 => (Value.bool true) | 4 => (Value.bool true) | 5 => (Value.agg #[.int .i64 wk, .int .i64 eb, .int .i64 en, .int .i64 k, .int .i64 (q : Int), .int .i64 key, .int .i64 num, .bool had, .int .i64 val, .bool has, .int .i64 new, .slice na nl nc, .slice pa1 pl pc]) | 6 => (Value.bool true) | 7 => (Value.bool true) | 8 => (Value.bool true) | 9 => (pa g 6) | 10 => (Value.int IntKind.i64 num) | 11 => (pa h 11) | 12 => (Value.slice (some ⟨nb, no, none⟩) ml mc) | 13 => (pa g 4) | 14 => (Value.int IntKind.i64 (q : Int)) | 15 => (pa nb (no + q)) | 16 => (Value.int IntKind.i64 v) | 17 => (Value.bool false) | 18 => (Value.bool false) | 19 => (Value.bool false) | 20 => (Value.bool false) | 21 => (Value.bool false) | 22 => undef | 23 => undef | 24 => (Value.bool false) | 25 => (Value.bool false) | 26 => undef | 27 => (Value.bool false) | 28 => (Value.bool false) | 29 => undef | 30 => undef | 31 => undef | 32 => undef | 33 => undef | 34 => undef | 35 => undef | 36 => undef | 37 => undef | 38 => (Value.bool false) | 39 => (Value.bool false) | _ => undef
set_option maxRecDepth 100000 in
set_option maxHeartbeats 1600000 in
theorem pair_b {g h nb no q ml mc : Nat} {wk eb en k key num val new v : Int} {had has : Bool} {na pa1 : Option Addr} {nl nc pl pc : Nat} {K : Act → World → Prop} {Q : Exit → Act → World → Prop} {a0 : Act} {w : World} (hs : a0.tmps.size = 181) (x6 : a0.eval (.tmp 6) = pa g 0) (x7 : a0.eval (.tmp 7) = pa h 0) (x8 : a0.eval (.tmp 8) = (Value.bool false)) (x9 : a0.eval (.tmp 9) = .bool true) (x10 : a0.eval (.tmp 10) = .bool true) (ha0 : w.cell? ⟨g, 0, none⟩ = some (.int .i64 wk)) (ha1 : w.cell? ⟨g, 1, none⟩ = some (.int .i64 eb)) (ha2 : w.cell? ⟨g, 2, none⟩ = some (.int .i64 en)) (ha3 : w.cell? ⟨g, 3, none⟩ = some (.int .i64 k)) (ha4 : w.cell? ⟨g, 4, none⟩ = some (.int .i64 (q : Int))) (ha5 : w.cell? ⟨g, 5, none⟩ = some (.int .i64 key)) (ha6 : w.cell? ⟨g, 6, none⟩ = some (.int .i64 num)) (ha7 : w.cell? ⟨g, 7, none⟩ = some (.bool had)) (ha8 : w.cell? ⟨g, 8, none⟩ = some (.int .i64 val)) (ha9 : w.cell? ⟨g, 9, none⟩ = some (.bool has)) (ha10 : w.cell? ⟨g, 10, none⟩ = some (.int .i64 new)) (ha11 : w.cell? ⟨g, 11, none⟩ = some (.slice na nl nc)) (ha12 : w.cell? ⟨g, 12, none⟩ = some (.slice pa1 pl pc)) (hb11 : w.cell? ⟨h, 11, none⟩ = some (.slice (some ⟨nb, no, none⟩) ml mc)) (hv9 : w.cell? ⟨nb, no + q, none⟩ = some (.int .i64 v)) (hq : (q : Int) < (ml : Int)) (hq1 : q < ml) (hq2 : 0 ≤ (q : Int)) (hq3 : IntKind.i64.wrap (q : Int) = (q : Int)) (hcmp : decide (num ≤ v) = false) (hWr : ∀ x, Turned [] w x → Calls Tryd.prog 55 #[.agg #[.int .i64 wk, .int .i64 eb, .int .i64 en, .int .i64 k, .int .i64 (q : Int), .int .i64 key, .int .i64 num, .bool had, .int .i64 val, .bool has, .int .i64 new, .slice na nl nc, .slice pa1 pl pc]] x fun e w' => e = .returned (Value.bool true) ∧ Turned [] x w')
    (hEnd : ∀ a' x, a'.tmps.size = a0.tmps.size → a'.defers = a0.defers → (∀ s, some s ∉ ([some 95, some 96, some 97, some 98, some 99, some 100, some 101, some 102, some 103, some 104, some 105, some 106, some 107, some 108, some 109, some 110, some 111, some 112, some 113, some 114, some 115, some 116, some 117, some 118, some 119, some 120, some 121, some 122, some 123, some 124, some 125, some 126, some 127, some 128, some 129, some 130, some 131, some 132, some 133, some 134] : List (Option Nat)) → a'.eval (.tmp s) = a0.eval (.tmp s)) → a'.eval (.tmp 134) = (Value.bool false) → Turned [] w x → K a' x) : (Code.region 9 (opsOf 9 Tryd.f39.body) true).wp Tryd.prog (Exit.then K Q) a0 w := by
  refine wp_region_ghost3 (G := Unit) (by kernel_rfl) [some 95, some 96, some 97, some 98, some 99, some 100, some 101, some 102, some 103, some 104, some 105, some 106, some 107, some 108, some 109, some 110, some 111, some 112, some 113, some 114, some 115, some 116, some 117, some 118, some 119, some 120, some 121, some 122, some 123, some 124, some 125, some 126, some 127, some 128, some 129, some 130, some 131, some 132, some 133, some 134] (by rw [hs]; kernel_rfl) (pair_bV g h nb no q ml mc wk eb en k key num val new v had has na pa1 nl nc pl pc) [] ?_ (fun _ _ => false) (fun _ x => Turned [] w x) (()) ((Turned.refl _ _).drew) (by simp) (by decide) ?_ ?_
  · intro i g b h γ
    have hi : i < 40 := by
      apply Classical.byContradiction
      intro hn
      rw [show (opsOf 9 Tryd.f39.body)[i]? = none from Array.getElem?_eq_none (by have : (opsOf 9 Tryd.f39.body).size = 40 := (by kernel_rfl); omega)] at h
      cases h
    rcases (by omega : i = 0 ∨ i = 1 ∨ i = 2 ∨ i = 3 ∨ i = 4 ∨ i = 5 ∨ i = 6 ∨ i = 7 ∨ i = 8 ∨ i = 9 ∨ i = 10 ∨ i = 11 ∨ i = 12 ∨ i = 13 ∨ i = 14 ∨ i = 15 ∨ i = 16 ∨ i = 17 ∨ i = 18 ∨ i = 19 ∨ i = 20 ∨ i = 21 ∨ i = 22 ∨ i = 23 ∨ i = 24 ∨ i = 25 ∨ i = 26 ∨ i = 27 ∨ i = 28 ∨ i = 29 ∨ i = 30 ∨ i = 31 ∨ i = 32 ∨ i = 33 ∨ i = 34 ∨ i = 35 ∨ i = 36 ∨ i = 37 ∨ i = 38 ∨ i = 39) with rfl | rfl | rfl | rfl | rfl | rfl | rfl | rfl | rfl | rfl | rfl | rfl | rfl | rfl | rfl | rfl | rfl | rfl | rfl | rfl | rfl | rfl | rfl | rfl | rfl | rfl | rfl | rfl | rfl | rfl | rfl | rfl | rfl | rfl | rfl | rfl | rfl | rfl | rfl | rfl
    · rw [show ((opsOf 9 Tryd.f39.body)[0]?).bind (fun o : Oper => o.guard) = none from by kernel_rfl] at h
      cases h
    · rw [show ((opsOf 9 Tryd.f39.body)[1]?).bind (fun o : Oper => o.guard) = none from by kernel_rfl] at h
      cases h
    · rw [show ((opsOf 9 Tryd.f39.body)[2]?).bind (fun o : Oper => o.guard) = some (1, true) from by kernel_rfl] at h
      obtain ⟨rfl, rfl⟩ : 1 = g ∧ true = b := by simpa using h
      exact .inl ⟨true, rfl, fun hne => absurd rfl hne⟩
    · rw [show ((opsOf 9 Tryd.f39.body)[3]?).bind (fun o : Oper => o.guard) = none from by kernel_rfl] at h
      cases h
    · rw [show ((opsOf 9 Tryd.f39.body)[4]?).bind (fun o : Oper => o.guard) = none from by kernel_rfl] at h
      cases h
    · rw [show ((opsOf 9 Tryd.f39.body)[5]?).bind (fun o : Oper => o.guard) = some (4, true) from by kernel_rfl] at h
      obtain ⟨rfl, rfl⟩ : 4 = g ∧ true = b := by simpa using h
      exact .inl ⟨true, rfl, fun hne => absurd rfl hne⟩
    · rw [show ((opsOf 9 Tryd.f39.body)[6]?).bind (fun o : Oper => o.guard) = some (4, true) from by kernel_rfl] at h
      obtain ⟨rfl, rfl⟩ : 4 = g ∧ true = b := by simpa using h
      exact .inl ⟨true, rfl, fun hne => absurd rfl hne⟩
    · rw [show ((opsOf 9 Tryd.f39.body)[7]?).bind (fun o : Oper => o.guard) = none from by kernel_rfl] at h
      cases h
    · rw [show ((opsOf 9 Tryd.f39.body)[8]?).bind (fun o : Oper => o.guard) = none from by kernel_rfl] at h
      cases h
    · rw [show ((opsOf 9 Tryd.f39.body)[9]?).bind (fun o : Oper => o.guard) = some (8, true) from by kernel_rfl] at h
      obtain ⟨rfl, rfl⟩ : 8 = g ∧ true = b := by simpa using h
      exact .inl ⟨true, rfl, fun hne => absurd rfl hne⟩
    · rw [show ((opsOf 9 Tryd.f39.body)[10]?).bind (fun o : Oper => o.guard) = some (8, true) from by kernel_rfl] at h
      obtain ⟨rfl, rfl⟩ : 8 = g ∧ true = b := by simpa using h
      exact .inl ⟨true, rfl, fun hne => absurd rfl hne⟩
    · rw [show ((opsOf 9 Tryd.f39.body)[11]?).bind (fun o : Oper => o.guard) = some (8, true) from by kernel_rfl] at h
      obtain ⟨rfl, rfl⟩ : 8 = g ∧ true = b := by simpa using h
      exact .inl ⟨true, rfl, fun hne => absurd rfl hne⟩
    · rw [show ((opsOf 9 Tryd.f39.body)[12]?).bind (fun o : Oper => o.guard) = some (8, true) from by kernel_rfl] at h
      obtain ⟨rfl, rfl⟩ : 8 = g ∧ true = b := by simpa using h
      exact .inl ⟨true, rfl, fun hne => absurd rfl hne⟩
    · rw [show ((opsOf 9 Tryd.f39.body)[13]?).bind (fun o : Oper => o.guard) = some (8, true) from by kernel_rfl] at h
      obtain ⟨rfl, rfl⟩ : 8 = g ∧ true = b := by simpa using h
      exact .inl ⟨true, rfl, fun hne => absurd rfl hne⟩
    · rw [show ((opsOf 9 Tryd.f39.body)[14]?).bind (fun o : Oper => o.guard) = some (8, true) from by kernel_rfl] at h
      obtain ⟨rfl, rfl⟩ : 8 = g ∧ true = b := by simpa using h
      exact .inl ⟨true, rfl, fun hne => absurd rfl hne⟩
    · rw [show ((opsOf 9 Tryd.f39.body)[15]?).bind (fun o : Oper => o.guard) = some (8, true) from by kernel_rfl] at h
      obtain ⟨rfl, rfl⟩ : 8 = g ∧ true = b := by simpa using h
      exact .inl ⟨true, rfl, fun hne => absurd rfl hne⟩
    · rw [show ((opsOf 9 Tryd.f39.body)[16]?).bind (fun o : Oper => o.guard) = some (8, true) from by kernel_rfl] at h
      obtain ⟨rfl, rfl⟩ : 8 = g ∧ true = b := by simpa using h
      exact .inl ⟨true, rfl, fun hne => absurd rfl hne⟩
    · rw [show ((opsOf 9 Tryd.f39.body)[17]?).bind (fun o : Oper => o.guard) = some (8, true) from by kernel_rfl] at h
      obtain ⟨rfl, rfl⟩ : 8 = g ∧ true = b := by simpa using h
      exact .inl ⟨true, rfl, fun hne => absurd rfl hne⟩
    · rw [show ((opsOf 9 Tryd.f39.body)[18]?).bind (fun o : Oper => o.guard) = none from by kernel_rfl] at h
      cases h
    · rw [show ((opsOf 9 Tryd.f39.body)[19]?).bind (fun o : Oper => o.guard) = none from by kernel_rfl] at h
      cases h
    · rw [show ((opsOf 9 Tryd.f39.body)[20]?).bind (fun o : Oper => o.guard) = some (19, false) from by kernel_rfl] at h
      obtain ⟨rfl, rfl⟩ : 19 = g ∧ false = b := by simpa using h
      exact .inl ⟨false, rfl, fun hne => absurd rfl hne⟩
    · rw [show ((opsOf 9 Tryd.f39.body)[21]?).bind (fun o : Oper => o.guard) = some (19, false) from by kernel_rfl] at h
      obtain ⟨rfl, rfl⟩ : 19 = g ∧ false = b := by simpa using h
      exact .inl ⟨false, rfl, fun hne => absurd rfl hne⟩
    · rw [show ((opsOf 9 Tryd.f39.body)[22]?).bind (fun o : Oper => o.guard) = some (21, true) from by kernel_rfl] at h
      obtain ⟨rfl, rfl⟩ : 21 = g ∧ true = b := by simpa using h
      exact .inl ⟨false, rfl, fun _ => ⟨rfl, by decide⟩⟩
    · rw [show ((opsOf 9 Tryd.f39.body)[23]?).bind (fun o : Oper => o.guard) = some (21, true) from by kernel_rfl] at h
      obtain ⟨rfl, rfl⟩ : 21 = g ∧ true = b := by simpa using h
      exact .inl ⟨false, rfl, fun _ => ⟨rfl, by decide⟩⟩
    · rw [show ((opsOf 9 Tryd.f39.body)[24]?).bind (fun o : Oper => o.guard) = some (19, false) from by kernel_rfl] at h
      obtain ⟨rfl, rfl⟩ : 19 = g ∧ false = b := by simpa using h
      exact .inl ⟨false, rfl, fun hne => absurd rfl hne⟩
    · rw [show ((opsOf 9 Tryd.f39.body)[25]?).bind (fun o : Oper => o.guard) = some (19, false) from by kernel_rfl] at h
      obtain ⟨rfl, rfl⟩ : 19 = g ∧ false = b := by simpa using h
      exact .inl ⟨false, rfl, fun hne => absurd rfl hne⟩
    · rw [show ((opsOf 9 Tryd.f39.body)[26]?).bind (fun o : Oper => o.guard) = some (25, true) from by kernel_rfl] at h
      obtain ⟨rfl, rfl⟩ : 25 = g ∧ true = b := by simpa using h
      exact .inl ⟨false, rfl, fun _ => ⟨rfl, by decide⟩⟩
    · rw [show ((opsOf 9 Tryd.f39.body)[27]?).bind (fun o : Oper => o.guard) = some (19, false) from by kernel_rfl] at h
      obtain ⟨rfl, rfl⟩ : 19 = g ∧ false = b := by simpa using h
      exact .inl ⟨false, rfl, fun hne => absurd rfl hne⟩
    · rw [show ((opsOf 9 Tryd.f39.body)[28]?).bind (fun o : Oper => o.guard) = some (19, false) from by kernel_rfl] at h
      obtain ⟨rfl, rfl⟩ : 19 = g ∧ false = b := by simpa using h
      exact .inl ⟨false, rfl, fun hne => absurd rfl hne⟩
    · rw [show ((opsOf 9 Tryd.f39.body)[29]?).bind (fun o : Oper => o.guard) = some (28, true) from by kernel_rfl] at h
      obtain ⟨rfl, rfl⟩ : 28 = g ∧ true = b := by simpa using h
      exact .inl ⟨false, rfl, fun _ => ⟨rfl, by decide⟩⟩
    · rw [show ((opsOf 9 Tryd.f39.body)[30]?).bind (fun o : Oper => o.guard) = some (28, true) from by kernel_rfl] at h
      obtain ⟨rfl, rfl⟩ : 28 = g ∧ true = b := by simpa using h
      exact .inl ⟨false, rfl, fun _ => ⟨rfl, by decide⟩⟩
    · rw [show ((opsOf 9 Tryd.f39.body)[31]?).bind (fun o : Oper => o.guard) = some (28, true) from by kernel_rfl] at h
      obtain ⟨rfl, rfl⟩ : 28 = g ∧ true = b := by simpa using h
      exact .inl ⟨false, rfl, fun _ => ⟨rfl, by decide⟩⟩
    · rw [show ((opsOf 9 Tryd.f39.body)[32]?).bind (fun o : Oper => o.guard) = some (28, true) from by kernel_rfl] at h
      obtain ⟨rfl, rfl⟩ : 28 = g ∧ true = b := by simpa using h
      exact .inl ⟨false, rfl, fun _ => ⟨rfl, by decide⟩⟩
    · rw [show ((opsOf 9 Tryd.f39.body)[33]?).bind (fun o : Oper => o.guard) = some (28, true) from by kernel_rfl] at h
      obtain ⟨rfl, rfl⟩ : 28 = g ∧ true = b := by simpa using h
      exact .inl ⟨false, rfl, fun _ => ⟨rfl, by decide⟩⟩
    · rw [show ((opsOf 9 Tryd.f39.body)[34]?).bind (fun o : Oper => o.guard) = some (28, true) from by kernel_rfl] at h
      obtain ⟨rfl, rfl⟩ : 28 = g ∧ true = b := by simpa using h
      exact .inl ⟨false, rfl, fun _ => ⟨rfl, by decide⟩⟩
    · rw [show ((opsOf 9 Tryd.f39.body)[35]?).bind (fun o : Oper => o.guard) = some (28, true) from by kernel_rfl] at h
      obtain ⟨rfl, rfl⟩ : 28 = g ∧ true = b := by simpa using h
      exact .inl ⟨false, rfl, fun _ => ⟨rfl, by decide⟩⟩
    · rw [show ((opsOf 9 Tryd.f39.body)[36]?).bind (fun o : Oper => o.guard) = some (28, true) from by kernel_rfl] at h
      obtain ⟨rfl, rfl⟩ : 28 = g ∧ true = b := by simpa using h
      exact .inl ⟨false, rfl, fun _ => ⟨rfl, by decide⟩⟩
    · rw [show ((opsOf 9 Tryd.f39.body)[37]?).bind (fun o : Oper => o.guard) = some (28, true) from by kernel_rfl] at h
      obtain ⟨rfl, rfl⟩ : 28 = g ∧ true = b := by simpa using h
      exact .inl ⟨false, rfl, fun _ => ⟨rfl, by decide⟩⟩
    · rw [show ((opsOf 9 Tryd.f39.body)[38]?).bind (fun o : Oper => o.guard) = some (19, false) from by kernel_rfl] at h
      obtain ⟨rfl, rfl⟩ : 19 = g ∧ false = b := by simpa using h
      exact .inl ⟨false, rfl, fun hne => absurd rfl hne⟩
    · rw [show ((opsOf 9 Tryd.f39.body)[39]?).bind (fun o : Oper => o.guard) = none from by kernel_rfl] at h
      cases h
  · intro i hi hgd
    rcases (by simp at hi; omega : i = 0 ∨ i = 1 ∨ i = 2 ∨ i = 3 ∨ i = 4 ∨ i = 5 ∨ i = 6 ∨ i = 7 ∨ i = 8 ∨ i = 9 ∨ i = 10 ∨ i = 11 ∨ i = 12 ∨ i = 13 ∨ i = 14 ∨ i = 15 ∨ i = 16 ∨ i = 17 ∨ i = 18 ∨ i = 19 ∨ i = 20 ∨ i = 21 ∨ i = 22 ∨ i = 23 ∨ i = 24 ∨ i = 25 ∨ i = 26 ∨ i = 27 ∨ i = 28 ∨ i = 29 ∨ i = 30 ∨ i = 31 ∨ i = 32 ∨ i = 33 ∨ i = 34 ∨ i = 35 ∨ i = 36 ∨ i = 37 ∨ i = 38 ∨ i = 39) with rfl | rfl | rfl | rfl | rfl | rfl | rfl | rfl | rfl | rfl | rfl | rfl | rfl | rfl | rfl | rfl | rfl | rfl | rfl | rfl | rfl | rfl | rfl | rfl | rfl | rfl | rfl | rfl | rfl | rfl | rfl | rfl | rfl | rfl | rfl | rfl | rfl | rfl | rfl | rfl
    · refine soft (by decide) ?_
      intro o ac wa g ho hoff hv hS hdn
      exact (x_move (op_is rfl ho)).trans (by rw [((hoff 9 (by decide)).trans x9)]; rfl)
    · refine soft (by decide) ?_
      intro o ac wa g ho hoff hv hS hdn
      exact (x_move (op_is rfl ho)).trans (by rw [(hv 0 95 rfl (by kernel_rfl))]; rfl)
    · refine soft (by decide) ?_
      intro o ac wa g ho hoff hv hS hdn
      exact (x_move (op_is rfl ho)).trans (by rw [((hoff 10 (by decide)).trans x10)]; rfl)
    · refine soft (by decide) ?_
      intro o ac wa g ho hoff hv hS hdn
      exact (x_pickG (op_is rfl ho) ((hv 1 96 rfl (by kernel_rfl)))).trans (by rw [if_pos rfl, (hv 2 97 rfl (by kernel_rfl))]; rfl)
    · refine soft (by decide) ?_
      intro o ac wa g ho hoff hv hS hdn
      exact (x_move (op_is rfl ho)).trans (by rw [(hv 3 98 rfl (by kernel_rfl))]; rfl)
    · refine soft (by decide) ?_
      intro o ac wa g ho hoff hv hS hdn
      have q0 := hS.cell ha0 (by simp)
      have q1 := hS.cell ha1 (by simp)
      have q2 := hS.cell ha2 (by simp)
      have q3 := hS.cell ha3 (by simp)
      have q4 := hS.cell ha4 (by simp)
      have q5 := hS.cell ha5 (by simp)
      have q6 := hS.cell ha6 (by simp)
      have q7 := hS.cell ha7 (by simp)
      have q8 := hS.cell ha8 (by simp)
      have q9 := hS.cell ha9 (by simp)
      have q10 := hS.cell ha10 (by simp)
      have q11 := hS.cell ha11 (by simp)
      have q12 := hS.cell ha12 (by simp)
      exact x_load (op_is rfl ho) (by rw [((hoff 6 (by decide)).trans x6)]; show (Instr.loadAt _ (pa _ _)).run _ _ = _; unfold pa; go_simp; rfl)
    · intro o ac wa g K ho hd _ hoff hv hS _ _ _ hK
      refine l_callE (op_is rfl ho) (xs := #[.agg #[.int .i64 wk, .int .i64 eb, .int .i64 en, .int .i64 k, .int .i64 (q : Int), .int .i64 key, .int .i64 num, .bool had, .int .i64 val, .bool has, .int .i64 new, .slice na nl nc, .slice pa1 pl pc]]) (by simp only [List.map_toArray, List.map_cons, List.map_nil]; rw [(hv 5 100 rfl (by kernel_rfl))]; rfl) Tryd.func55 (by kernel_rfl) rfl (hWr wa hS) ?_
      rintro e w' ⟨rfl, ht⟩
      refine ⟨_, rfl, ?_⟩
      rw [hd]
      exact hK g w' (hS.trans ht) (by simp) (fun _ _ _ => rfl)
    · refine soft (by decide) ?_
      intro o ac wa g ho hoff hv hS hdn
      exact (x_pickG (op_is rfl ho) ((hv 4 99 rfl (by kernel_rfl)))).trans (by rw [if_pos rfl, (hv 6 101 rfl (by kernel_rfl))]; rfl)
    · refine soft (by decide) ?_
      intro o ac wa g ho hoff hv hS hdn
      exact (x_move (op_is rfl ho)).trans (by rw [(hv 7 102 rfl (by kernel_rfl))]; rfl)
    · refine soft (by decide) ?_
      intro o ac wa g ho hoff hv hS hdn
      exact x_field (op_is rfl ho) (by rw [((hoff 6 (by decide)).trans x6)]; show (Instr.fieldAt _ (pa _ _) _).run _ _ = .ok (pa _ _) _; unfold pa; go_simp)
    · refine soft (by decide) ?_
      intro o ac wa g ho hoff hv hS hdn
      have hc := hS.cell ha6 (by simp)
      exact x_load (op_is rfl ho) (by rw [(hv 9 104 rfl (by kernel_rfl))]; show (Instr.loadAt _ (pa _ _)).run _ _ = _; unfold pa; go_simp; rfl)
    · refine soft (by decide) ?_
      intro o ac wa g ho hoff hv hS hdn
      exact x_field (op_is rfl ho) (by rw [((hoff 7 (by decide)).trans x7)]; show (Instr.fieldAt _ (pa _ _) _).run _ _ = .ok (pa _ _) _; unfold pa; go_simp)
    · refine soft (by decide) ?_
      intro o ac wa g ho hoff hv hS hdn
      have hc := hS.cell hb11 (by simp)
      exact x_load (op_is rfl ho) (by rw [(hv 11 106 rfl (by kernel_rfl))]; show (Instr.loadAt _ (pa _ _)).run _ _ = _; unfold pa; go_simp; rfl)
    · refine soft (by decide) ?_
      intro o ac wa g ho hoff hv hS hdn
      exact x_field (op_is rfl ho) (by rw [((hoff 6 (by decide)).trans x6)]; show (Instr.fieldAt _ (pa _ _) _).run _ _ = .ok (pa _ _) _; unfold pa; go_simp)
    · refine soft (by decide) ?_
      intro o ac wa g ho hoff hv hS hdn
      have hc := hS.cell ha4 (by simp)
      exact x_load (op_is rfl ho) (by rw [(hv 13 108 rfl (by kernel_rfl))]; show (Instr.loadAt _ (pa _ _)).run _ _ = _; unfold pa; go_simp; rfl)
    · refine soft (by decide) ?_
      intro o ac wa g ho hoff hv hS hdn
      exact x_index (op_is rfl ho) (by rw [(hv 12 107 rfl (by kernel_rfl)), (hv 14 109 rfl (by kernel_rfl))]; show (Instr.indexAt _ (Value.slice (some ⟨nb, no, none⟩) ml mc) (Value.int IntKind.i64 (q : Int))).run _ _ = .ok (pa _ _) _; unfold pa; go_simp)
    · refine soft (by decide) ?_
      intro o ac wa g ho hoff hv hS hdn
      have hc := hS.cell hv9 (by simp)
      exact x_load (op_is rfl ho) (by rw [(hv 15 110 rfl (by kernel_rfl))]; show (Instr.loadAt _ (pa _ _)).run _ _ = _; unfold pa; go_simp; rfl)
    · refine soft (by decide) ?_
      intro o ac wa g ho hoff hv hS hdn
      exact x_bin (op_is rfl ho) (hv 10 105 rfl (by kernel_rfl)) (hv 16 111 rfl (by kernel_rfl)) (by go_simp) (by show (binOp .leq _ (.int .i64 num) (.int .i64 v)).run _ _ = .ok (.bool false) _; go_simp)
    · refine soft (by decide) ?_
      intro o ac wa g ho hoff hv hS hdn
      exact (x_pickG (op_is rfl ho) ((hv 8 103 rfl (by kernel_rfl)))).trans (by rw [if_pos rfl, (hv 17 112 rfl (by kernel_rfl))]; rfl)
    · refine soft (by decide) ?_
      intro o ac wa g ho hoff hv hS hdn
      exact (x_move (op_is rfl ho)).trans (by rw [(hv 18 113 rfl (by kernel_rfl))]; rfl)
    · refine soft (by decide) ?_
      intro o ac wa g ho hoff hv hS hdn
      exact (x_move (op_is rfl ho)).trans (by rw [((hoff 8 (by decide)).trans x8)]; rfl)
    · refine soft (by decide) ?_
      intro o ac wa g ho hoff hv hS hdn
      exact (x_move (op_is rfl ho)).trans (by rw [(hv 20 115 rfl (by kernel_rfl))]; rfl)
    · obtain ⟨γ, hγ⟩ := hgd 21 true (by kernel_rfl)
      have hγ2 : (Value.bool false) = Value.bool true := hγ
      cases hγ2
    · obtain ⟨γ, hγ⟩ := hgd 21 true (by kernel_rfl)
      have hγ2 : (Value.bool false) = Value.bool true := hγ
      cases hγ2
    · refine soft (by decide) ?_
      intro o ac wa g ho hoff hv hS hdn
      exact (x_pickG (op_is rfl ho) ((hv 21 116 rfl (by kernel_rfl)))).trans (by rw [if_neg (by decide)]; rfl)
    · refine soft (by decide) ?_
      intro o ac wa g ho hoff hv hS hdn
      exact (x_move (op_is rfl ho)).trans (by rw [(hv 24 119 rfl (by kernel_rfl))]; rfl)
    · obtain ⟨γ, hγ⟩ := hgd 25 true (by kernel_rfl)
      have hγ2 : (Value.bool false) = Value.bool true := hγ
      cases hγ2
    · refine soft (by decide) ?_
      intro o ac wa g ho hoff hv hS hdn
      exact (x_pickG (op_is rfl ho) ((hv 25 120 rfl (by kernel_rfl)))).trans (by rw [if_neg (by decide)]; rfl)
    · refine soft (by decide) ?_
      intro o ac wa g ho hoff hv hS hdn
      exact (x_move (op_is rfl ho)).trans (by rw [(hv 27 122 rfl (by kernel_rfl))]; rfl)
    · obtain ⟨γ, hγ⟩ := hgd 28 true (by kernel_rfl)
      have hγ2 : (Value.bool false) = Value.bool true := hγ
      cases hγ2
    · obtain ⟨γ, hγ⟩ := hgd 28 true (by kernel_rfl)
      have hγ2 : (Value.bool false) = Value.bool true := hγ
      cases hγ2
    · obtain ⟨γ, hγ⟩ := hgd 28 true (by kernel_rfl)
      have hγ2 : (Value.bool false) = Value.bool true := hγ
      cases hγ2
    · obtain ⟨γ, hγ⟩ := hgd 28 true (by kernel_rfl)
      have hγ2 : (Value.bool false) = Value.bool true := hγ
      cases hγ2
    · obtain ⟨γ, hγ⟩ := hgd 28 true (by kernel_rfl)
      have hγ2 : (Value.bool false) = Value.bool true := hγ
      cases hγ2
    · obtain ⟨γ, hγ⟩ := hgd 28 true (by kernel_rfl)
      have hγ2 : (Value.bool false) = Value.bool true := hγ
      cases hγ2
    · obtain ⟨γ, hγ⟩ := hgd 28 true (by kernel_rfl)
      have hγ2 : (Value.bool false) = Value.bool true := hγ
      cases hγ2
    · obtain ⟨γ, hγ⟩ := hgd 28 true (by kernel_rfl)
      have hγ2 : (Value.bool false) = Value.bool true := hγ
      cases hγ2
    · obtain ⟨γ, hγ⟩ := hgd 28 true (by kernel_rfl)
      have hγ2 : (Value.bool false) = Value.bool true := hγ
      cases hγ2
    · refine soft (by decide) ?_
      intro o ac wa g ho hoff hv hS hdn
      exact (x_pickG (op_is rfl ho) ((hv 28 123 rfl (by kernel_rfl)))).trans (by rw [if_neg (by decide)]; rfl)
    · refine soft (by decide) ?_
      intro o ac wa g ho hoff hv hS hdn
      exact (x_pickG (op_is rfl ho) ((hv 19 114 rfl (by kernel_rfl)))).trans (by rw [if_neg (by decide), (hv 38 133 rfl (by kernel_rfl))]; rfl)
  · intro a' w' g hsz hdf hoff hS hdn hval
    exact hEnd a' w' hsz hdf (fun s hs => ev_same (hoff s hs)) (hval 39 134 rfl) hS
def pair_cV (g h : Nat) (wk eb en k p key num val new : Int) (had has : Bool) (na pa1 : Option Addr) (nl nc pl pc : Nat) (_ : Unit) : Nat → Value := fun j => match j with | 0 => (Value.bool true) | 1 => (Value.bool true) | 2 => (Value.bool true) | 3 => (Value.bool true) | 4 => (Value.bool true) | 5 => (Value.agg #[.int .i64 wk, .int .i64 eb, .int .i64 en, .int .i64 k, .int .i64 p, .int .i64 key, .int .i64 num, .bool had, .int .i64 val, .bool has, .int .i64 new, .slice na nl nc, .slice pa1 pl pc]) | 6 => (Value.bool false) | 7 => (Value.bool false) | 8 => (Value.bool false) | 9 => undef | 10 => undef | 11 => undef | 12 => undef | 13 => undef | 14 => undef | 15 => undef | 16 => undef | 17 => undef | 18 => (Value.bool false) | 19 => (Value.bool false) | 20 => (Value.bool true) | 21 => (Value.bool true) | 22 => (Value.bool true) | 23 => (Value.bool false) | 24 => (Value.bool false) | 25 => (Value.bool false) | 26 => undef | 27 => (Value.bool false) | 28 => (Value.bool false) | 29 => undef | 30 => undef | 31 => undef | 32 => undef | 33 => undef | 34 => undef | 35 => undef | 36 => undef | 37 => undef | 38 => (Value.bool false) | 39 => (Value.bool false) | _ => undef
set_option maxRecDepth 100000 in
set_option maxHeartbeats 1600000 in
theorem pair_c {g h : Nat} {wk eb en k p key num val new : Int} {had has : Bool} {na pa1 : Option Addr} {nl nc pl pc : Nat} {K : Act → World → Prop} {Q : Exit → Act → World → Prop} {a0 : Act} {w : World} (hs : a0.tmps.size = 181) (x6 : a0.eval (.tmp 6) = pa g 0) (x7 : a0.eval (.tmp 7) = pa h 0) (x8 : a0.eval (.tmp 8) = (Value.bool true)) (x9 : a0.eval (.tmp 9) = .bool true) (x10 : a0.eval (.tmp 10) = .bool true) (ha0 : w.cell? ⟨g, 0, none⟩ = some (.int .i64 wk)) (ha1 : w.cell? ⟨g, 1, none⟩ = some (.int .i64 eb)) (ha2 : w.cell? ⟨g, 2, none⟩ = some (.int .i64 en)) (ha3 : w.cell? ⟨g, 3, none⟩ = some (.int .i64 k)) (ha4 : w.cell? ⟨g, 4, none⟩ = some (.int .i64 p)) (ha5 : w.cell? ⟨g, 5, none⟩ = some (.int .i64 key)) (ha6 : w.cell? ⟨g, 6, none⟩ = some (.int .i64 num)) (ha7 : w.cell? ⟨g, 7, none⟩ = some (.bool had)) (ha8 : w.cell? ⟨g, 8, none⟩ = some (.int .i64 val)) (ha9 : w.cell? ⟨g, 9, none⟩ = some (.bool has)) (ha10 : w.cell? ⟨g, 10, none⟩ = some (.int .i64 new)) (ha11 : w.cell? ⟨g, 11, none⟩ = some (.slice na nl nc)) (ha12 : w.cell? ⟨g, 12, none⟩ = some (.slice pa1 pl pc)) (hWr : ∀ x, Turned [] w x → Calls Tryd.prog 55 #[.agg #[.int .i64 wk, .int .i64 eb, .int .i64 en, .int .i64 k, .int .i64 p, .int .i64 key, .int .i64 num, .bool had, .int .i64 val, .bool has, .int .i64 new, .slice na nl nc, .slice pa1 pl pc]] x fun e w' => e = .returned (Value.bool false) ∧ Turned [] x w')
    (hEnd : ∀ a' x, a'.tmps.size = a0.tmps.size → a'.defers = a0.defers → (∀ s, some s ∉ ([some 95, some 96, some 97, some 98, some 99, some 100, some 101, some 102, some 103, some 104, some 105, some 106, some 107, some 108, some 109, some 110, some 111, some 112, some 113, some 114, some 115, some 116, some 117, some 118, some 119, some 120, some 121, some 122, some 123, some 124, some 125, some 126, some 127, some 128, some 129, some 130, some 131, some 132, some 133, some 134] : List (Option Nat)) → a'.eval (.tmp s) = a0.eval (.tmp s)) → a'.eval (.tmp 134) = (Value.bool false) → Turned [] w x → K a' x) : (Code.region 9 (opsOf 9 Tryd.f39.body) true).wp Tryd.prog (Exit.then K Q) a0 w := by
  refine wp_region_ghost3 (G := Unit) (by kernel_rfl) [some 95, some 96, some 97, some 98, some 99, some 100, some 101, some 102, some 103, some 104, some 105, some 106, some 107, some 108, some 109, some 110, some 111, some 112, some 113, some 114, some 115, some 116, some 117, some 118, some 119, some 120, some 121, some 122, some 123, some 124, some 125, some 126, some 127, some 128, some 129, some 130, some 131, some 132, some 133, some 134] (by rw [hs]; kernel_rfl) (pair_cV g h wk eb en k p key num val new had has na pa1 nl nc pl pc) [] ?_ (fun _ _ => false) (fun _ x => Turned [] w x) (()) ((Turned.refl _ _).drew) (by simp) (by decide) ?_ ?_
  · intro i g b h γ
    have hi : i < 40 := by
      apply Classical.byContradiction
      intro hn
      rw [show (opsOf 9 Tryd.f39.body)[i]? = none from Array.getElem?_eq_none (by have : (opsOf 9 Tryd.f39.body).size = 40 := (by kernel_rfl); omega)] at h
      cases h
    rcases (by omega : i = 0 ∨ i = 1 ∨ i = 2 ∨ i = 3 ∨ i = 4 ∨ i = 5 ∨ i = 6 ∨ i = 7 ∨ i = 8 ∨ i = 9 ∨ i = 10 ∨ i = 11 ∨ i = 12 ∨ i = 13 ∨ i = 14 ∨ i = 15 ∨ i = 16 ∨ i = 17 ∨ i = 18 ∨ i = 19 ∨ i = 20 ∨ i = 21 ∨ i = 22 ∨ i = 23 ∨ i = 24 ∨ i = 25 ∨ i = 26 ∨ i = 27 ∨ i = 28 ∨ i = 29 ∨ i = 30 ∨ i = 31 ∨ i = 32 ∨ i = 33 ∨ i = 34 ∨ i = 35 ∨ i = 36 ∨ i = 37 ∨ i = 38 ∨ i = 39) with rfl | rfl | rfl | rfl | rfl | rfl | rfl | rfl | rfl | rfl | rfl | rfl | rfl | rfl | rfl | rfl | rfl | rfl | rfl | rfl | rfl | rfl | rfl | rfl | rfl | rfl | rfl | rfl | rfl | rfl | rfl | rfl | rfl | rfl | rfl | rfl | rfl | rfl | rfl | rfl
    · rw [show ((opsOf 9 Tryd.f39.body)[0]?).bind (fun o : Oper => o.guard) = none from by kernel_rfl] at h
      cases h
    · rw [show ((opsOf 9 Tryd.f39.body)[1]?).bind (fun o : Oper => o.guard) = none from by kernel_rfl] at h
      cases h
    · rw [show ((opsOf 9 Tryd.f39.body)[2]?).bind (fun o : Oper => o.guard) = some (1, true) from by kernel_rfl] at h
      obtain ⟨rfl, rfl⟩ : 1 = g ∧ true = b := by simpa using h
      exact .inl ⟨true, rfl, fun hne => absurd rfl hne⟩
    · rw [show ((opsOf 9 Tryd.f39.body)[3]?).bind (fun o : Oper => o.guard) = none from by kernel_rfl] at h
      cases h
    · rw [show ((opsOf 9 Tryd.f39.body)[4]?).bind (fun o : Oper => o.guard) = none from by kernel_rfl] at h
      cases h
    · rw [show ((opsOf 9 Tryd.f39.body)[5]?).bind (fun o : Oper => o.guard) = some (4, true) from by kernel_rfl] at h
      obtain ⟨rfl, rfl⟩ : 4 = g ∧ true = b := by simpa using h
      exact .inl ⟨true, rfl, fun hne => absurd rfl hne⟩
    · rw [show ((opsOf 9 Tryd.f39.body)[6]?).bind (fun o : Oper => o.guard) = some (4, true) from by kernel_rfl] at h
      obtain ⟨rfl, rfl⟩ : 4 = g ∧ true = b := by simpa using h
      exact .inl ⟨true, rfl, fun hne => absurd rfl hne⟩
    · rw [show ((opsOf 9 Tryd.f39.body)[7]?).bind (fun o : Oper => o.guard) = none from by kernel_rfl] at h
      cases h
    · rw [show ((opsOf 9 Tryd.f39.body)[8]?).bind (fun o : Oper => o.guard) = none from by kernel_rfl] at h
      cases h
    · rw [show ((opsOf 9 Tryd.f39.body)[9]?).bind (fun o : Oper => o.guard) = some (8, true) from by kernel_rfl] at h
      obtain ⟨rfl, rfl⟩ : 8 = g ∧ true = b := by simpa using h
      exact .inl ⟨false, rfl, fun _ => ⟨rfl, by decide⟩⟩
    · rw [show ((opsOf 9 Tryd.f39.body)[10]?).bind (fun o : Oper => o.guard) = some (8, true) from by kernel_rfl] at h
      obtain ⟨rfl, rfl⟩ : 8 = g ∧ true = b := by simpa using h
      exact .inl ⟨false, rfl, fun _ => ⟨rfl, by decide⟩⟩
    · rw [show ((opsOf 9 Tryd.f39.body)[11]?).bind (fun o : Oper => o.guard) = some (8, true) from by kernel_rfl] at h
      obtain ⟨rfl, rfl⟩ : 8 = g ∧ true = b := by simpa using h
      exact .inl ⟨false, rfl, fun _ => ⟨rfl, by decide⟩⟩
    · rw [show ((opsOf 9 Tryd.f39.body)[12]?).bind (fun o : Oper => o.guard) = some (8, true) from by kernel_rfl] at h
      obtain ⟨rfl, rfl⟩ : 8 = g ∧ true = b := by simpa using h
      exact .inl ⟨false, rfl, fun _ => ⟨rfl, by decide⟩⟩
    · rw [show ((opsOf 9 Tryd.f39.body)[13]?).bind (fun o : Oper => o.guard) = some (8, true) from by kernel_rfl] at h
      obtain ⟨rfl, rfl⟩ : 8 = g ∧ true = b := by simpa using h
      exact .inl ⟨false, rfl, fun _ => ⟨rfl, by decide⟩⟩
    · rw [show ((opsOf 9 Tryd.f39.body)[14]?).bind (fun o : Oper => o.guard) = some (8, true) from by kernel_rfl] at h
      obtain ⟨rfl, rfl⟩ : 8 = g ∧ true = b := by simpa using h
      exact .inl ⟨false, rfl, fun _ => ⟨rfl, by decide⟩⟩
    · rw [show ((opsOf 9 Tryd.f39.body)[15]?).bind (fun o : Oper => o.guard) = some (8, true) from by kernel_rfl] at h
      obtain ⟨rfl, rfl⟩ : 8 = g ∧ true = b := by simpa using h
      exact .inl ⟨false, rfl, fun _ => ⟨rfl, by decide⟩⟩
    · rw [show ((opsOf 9 Tryd.f39.body)[16]?).bind (fun o : Oper => o.guard) = some (8, true) from by kernel_rfl] at h
      obtain ⟨rfl, rfl⟩ : 8 = g ∧ true = b := by simpa using h
      exact .inl ⟨false, rfl, fun _ => ⟨rfl, by decide⟩⟩
    · rw [show ((opsOf 9 Tryd.f39.body)[17]?).bind (fun o : Oper => o.guard) = some (8, true) from by kernel_rfl] at h
      obtain ⟨rfl, rfl⟩ : 8 = g ∧ true = b := by simpa using h
      exact .inl ⟨false, rfl, fun _ => ⟨rfl, by decide⟩⟩
    · rw [show ((opsOf 9 Tryd.f39.body)[18]?).bind (fun o : Oper => o.guard) = none from by kernel_rfl] at h
      cases h
    · rw [show ((opsOf 9 Tryd.f39.body)[19]?).bind (fun o : Oper => o.guard) = none from by kernel_rfl] at h
      cases h
    · rw [show ((opsOf 9 Tryd.f39.body)[20]?).bind (fun o : Oper => o.guard) = some (19, false) from by kernel_rfl] at h
      obtain ⟨rfl, rfl⟩ : 19 = g ∧ false = b := by simpa using h
      exact .inl ⟨false, rfl, fun hne => absurd rfl hne⟩
    · rw [show ((opsOf 9 Tryd.f39.body)[21]?).bind (fun o : Oper => o.guard) = some (19, false) from by kernel_rfl] at h
      obtain ⟨rfl, rfl⟩ : 19 = g ∧ false = b := by simpa using h
      exact .inl ⟨false, rfl, fun hne => absurd rfl hne⟩
    · rw [show ((opsOf 9 Tryd.f39.body)[22]?).bind (fun o : Oper => o.guard) = some (21, true) from by kernel_rfl] at h
      obtain ⟨rfl, rfl⟩ : 21 = g ∧ true = b := by simpa using h
      exact .inl ⟨true, rfl, fun hne => absurd rfl hne⟩
    · rw [show ((opsOf 9 Tryd.f39.body)[23]?).bind (fun o : Oper => o.guard) = some (21, true) from by kernel_rfl] at h
      obtain ⟨rfl, rfl⟩ : 21 = g ∧ true = b := by simpa using h
      exact .inl ⟨true, rfl, fun hne => absurd rfl hne⟩
    · rw [show ((opsOf 9 Tryd.f39.body)[24]?).bind (fun o : Oper => o.guard) = some (19, false) from by kernel_rfl] at h
      obtain ⟨rfl, rfl⟩ : 19 = g ∧ false = b := by simpa using h
      exact .inl ⟨false, rfl, fun hne => absurd rfl hne⟩
    · rw [show ((opsOf 9 Tryd.f39.body)[25]?).bind (fun o : Oper => o.guard) = some (19, false) from by kernel_rfl] at h
      obtain ⟨rfl, rfl⟩ : 19 = g ∧ false = b := by simpa using h
      exact .inl ⟨false, rfl, fun hne => absurd rfl hne⟩
    · rw [show ((opsOf 9 Tryd.f39.body)[26]?).bind (fun o : Oper => o.guard) = some (25, true) from by kernel_rfl] at h
      obtain ⟨rfl, rfl⟩ : 25 = g ∧ true = b := by simpa using h
      exact .inl ⟨false, rfl, fun _ => ⟨rfl, by decide⟩⟩
    · rw [show ((opsOf 9 Tryd.f39.body)[27]?).bind (fun o : Oper => o.guard) = some (19, false) from by kernel_rfl] at h
      obtain ⟨rfl, rfl⟩ : 19 = g ∧ false = b := by simpa using h
      exact .inl ⟨false, rfl, fun hne => absurd rfl hne⟩
    · rw [show ((opsOf 9 Tryd.f39.body)[28]?).bind (fun o : Oper => o.guard) = some (19, false) from by kernel_rfl] at h
      obtain ⟨rfl, rfl⟩ : 19 = g ∧ false = b := by simpa using h
      exact .inl ⟨false, rfl, fun hne => absurd rfl hne⟩
    · rw [show ((opsOf 9 Tryd.f39.body)[29]?).bind (fun o : Oper => o.guard) = some (28, true) from by kernel_rfl] at h
      obtain ⟨rfl, rfl⟩ : 28 = g ∧ true = b := by simpa using h
      exact .inl ⟨false, rfl, fun _ => ⟨rfl, by decide⟩⟩
    · rw [show ((opsOf 9 Tryd.f39.body)[30]?).bind (fun o : Oper => o.guard) = some (28, true) from by kernel_rfl] at h
      obtain ⟨rfl, rfl⟩ : 28 = g ∧ true = b := by simpa using h
      exact .inl ⟨false, rfl, fun _ => ⟨rfl, by decide⟩⟩
    · rw [show ((opsOf 9 Tryd.f39.body)[31]?).bind (fun o : Oper => o.guard) = some (28, true) from by kernel_rfl] at h
      obtain ⟨rfl, rfl⟩ : 28 = g ∧ true = b := by simpa using h
      exact .inl ⟨false, rfl, fun _ => ⟨rfl, by decide⟩⟩
    · rw [show ((opsOf 9 Tryd.f39.body)[32]?).bind (fun o : Oper => o.guard) = some (28, true) from by kernel_rfl] at h
      obtain ⟨rfl, rfl⟩ : 28 = g ∧ true = b := by simpa using h
      exact .inl ⟨false, rfl, fun _ => ⟨rfl, by decide⟩⟩
    · rw [show ((opsOf 9 Tryd.f39.body)[33]?).bind (fun o : Oper => o.guard) = some (28, true) from by kernel_rfl] at h
      obtain ⟨rfl, rfl⟩ : 28 = g ∧ true = b := by simpa using h
      exact .inl ⟨false, rfl, fun _ => ⟨rfl, by decide⟩⟩
    · rw [show ((opsOf 9 Tryd.f39.body)[34]?).bind (fun o : Oper => o.guard) = some (28, true) from by kernel_rfl] at h
      obtain ⟨rfl, rfl⟩ : 28 = g ∧ true = b := by simpa using h
      exact .inl ⟨false, rfl, fun _ => ⟨rfl, by decide⟩⟩
    · rw [show ((opsOf 9 Tryd.f39.body)[35]?).bind (fun o : Oper => o.guard) = some (28, true) from by kernel_rfl] at h
      obtain ⟨rfl, rfl⟩ : 28 = g ∧ true = b := by simpa using h
      exact .inl ⟨false, rfl, fun _ => ⟨rfl, by decide⟩⟩
    · rw [show ((opsOf 9 Tryd.f39.body)[36]?).bind (fun o : Oper => o.guard) = some (28, true) from by kernel_rfl] at h
      obtain ⟨rfl, rfl⟩ : 28 = g ∧ true = b := by simpa using h
      exact .inl ⟨false, rfl, fun _ => ⟨rfl, by decide⟩⟩
    · rw [show ((opsOf 9 Tryd.f39.body)[37]?).bind (fun o : Oper => o.guard) = some (28, true) from by kernel_rfl] at h
      obtain ⟨rfl, rfl⟩ : 28 = g ∧ true = b := by simpa using h
      exact .inl ⟨false, rfl, fun _ => ⟨rfl, by decide⟩⟩
    · rw [show ((opsOf 9 Tryd.f39.body)[38]?).bind (fun o : Oper => o.guard) = some (19, false) from by kernel_rfl] at h
      obtain ⟨rfl, rfl⟩ : 19 = g ∧ false = b := by simpa using h
      exact .inl ⟨false, rfl, fun hne => absurd rfl hne⟩
    · rw [show ((opsOf 9 Tryd.f39.body)[39]?).bind (fun o : Oper => o.guard) = none from by kernel_rfl] at h
      cases h
  · intro i hi hgd
    rcases (by simp at hi; omega : i = 0 ∨ i = 1 ∨ i = 2 ∨ i = 3 ∨ i = 4 ∨ i = 5 ∨ i = 6 ∨ i = 7 ∨ i = 8 ∨ i = 9 ∨ i = 10 ∨ i = 11 ∨ i = 12 ∨ i = 13 ∨ i = 14 ∨ i = 15 ∨ i = 16 ∨ i = 17 ∨ i = 18 ∨ i = 19 ∨ i = 20 ∨ i = 21 ∨ i = 22 ∨ i = 23 ∨ i = 24 ∨ i = 25 ∨ i = 26 ∨ i = 27 ∨ i = 28 ∨ i = 29 ∨ i = 30 ∨ i = 31 ∨ i = 32 ∨ i = 33 ∨ i = 34 ∨ i = 35 ∨ i = 36 ∨ i = 37 ∨ i = 38 ∨ i = 39) with rfl | rfl | rfl | rfl | rfl | rfl | rfl | rfl | rfl | rfl | rfl | rfl | rfl | rfl | rfl | rfl | rfl | rfl | rfl | rfl | rfl | rfl | rfl | rfl | rfl | rfl | rfl | rfl | rfl | rfl | rfl | rfl | rfl | rfl | rfl | rfl | rfl | rfl | rfl | rfl
    · refine soft (by decide) ?_
      intro o ac wa g ho hoff hv hS hdn
      exact (x_move (op_is rfl ho)).trans (by rw [((hoff 9 (by decide)).trans x9)]; rfl)
    · refine soft (by decide) ?_
      intro o ac wa g ho hoff hv hS hdn
      exact (x_move (op_is rfl ho)).trans (by rw [(hv 0 95 rfl (by kernel_rfl))]; rfl)
    · refine soft (by decide) ?_
      intro o ac wa g ho hoff hv hS hdn
      exact (x_move (op_is rfl ho)).trans (by rw [((hoff 10 (by decide)).trans x10)]; rfl)
    · refine soft (by decide) ?_
      intro o ac wa g ho hoff hv hS hdn
      exact (x_pickG (op_is rfl ho) ((hv 1 96 rfl (by kernel_rfl)))).trans (by rw [if_pos rfl, (hv 2 97 rfl (by kernel_rfl))]; rfl)
    · refine soft (by decide) ?_
      intro o ac wa g ho hoff hv hS hdn
      exact (x_move (op_is rfl ho)).trans (by rw [(hv 3 98 rfl (by kernel_rfl))]; rfl)
    · refine soft (by decide) ?_
      intro o ac wa g ho hoff hv hS hdn
      have q0 := hS.cell ha0 (by simp)
      have q1 := hS.cell ha1 (by simp)
      have q2 := hS.cell ha2 (by simp)
      have q3 := hS.cell ha3 (by simp)
      have q4 := hS.cell ha4 (by simp)
      have q5 := hS.cell ha5 (by simp)
      have q6 := hS.cell ha6 (by simp)
      have q7 := hS.cell ha7 (by simp)
      have q8 := hS.cell ha8 (by simp)
      have q9 := hS.cell ha9 (by simp)
      have q10 := hS.cell ha10 (by simp)
      have q11 := hS.cell ha11 (by simp)
      have q12 := hS.cell ha12 (by simp)
      exact x_load (op_is rfl ho) (by rw [((hoff 6 (by decide)).trans x6)]; show (Instr.loadAt _ (pa _ _)).run _ _ = _; unfold pa; go_simp; rfl)
    · intro o ac wa g K ho hd _ hoff hv hS _ _ _ hK
      refine l_callE (op_is rfl ho) (xs := #[.agg #[.int .i64 wk, .int .i64 eb, .int .i64 en, .int .i64 k, .int .i64 p, .int .i64 key, .int .i64 num, .bool had, .int .i64 val, .bool has, .int .i64 new, .slice na nl nc, .slice pa1 pl pc]]) (by simp only [List.map_toArray, List.map_cons, List.map_nil]; rw [(hv 5 100 rfl (by kernel_rfl))]; rfl) Tryd.func55 (by kernel_rfl) rfl (hWr wa hS) ?_
      rintro e w' ⟨rfl, ht⟩
      refine ⟨_, rfl, ?_⟩
      rw [hd]
      exact hK g w' (hS.trans ht) (by simp) (fun _ _ _ => rfl)
    · refine soft (by decide) ?_
      intro o ac wa g ho hoff hv hS hdn
      exact (x_pickG (op_is rfl ho) ((hv 4 99 rfl (by kernel_rfl)))).trans (by rw [if_pos rfl, (hv 6 101 rfl (by kernel_rfl))]; rfl)
    · refine soft (by decide) ?_
      intro o ac wa g ho hoff hv hS hdn
      exact (x_move (op_is rfl ho)).trans (by rw [(hv 7 102 rfl (by kernel_rfl))]; rfl)
    · obtain ⟨γ, hγ⟩ := hgd 8 true (by kernel_rfl)
      have hγ2 : (Value.bool false) = Value.bool true := hγ
      cases hγ2
    · obtain ⟨γ, hγ⟩ := hgd 8 true (by kernel_rfl)
      have hγ2 : (Value.bool false) = Value.bool true := hγ
      cases hγ2
    · obtain ⟨γ, hγ⟩ := hgd 8 true (by kernel_rfl)
      have hγ2 : (Value.bool false) = Value.bool true := hγ
      cases hγ2
    · obtain ⟨γ, hγ⟩ := hgd 8 true (by kernel_rfl)
      have hγ2 : (Value.bool false) = Value.bool true := hγ
      cases hγ2
    · obtain ⟨γ, hγ⟩ := hgd 8 true (by kernel_rfl)
      have hγ2 : (Value.bool false) = Value.bool true := hγ
      cases hγ2
    · obtain ⟨γ, hγ⟩ := hgd 8 true (by kernel_rfl)
      have hγ2 : (Value.bool false) = Value.bool true := hγ
      cases hγ2
    · obtain ⟨γ, hγ⟩ := hgd 8 true (by kernel_rfl)
      have hγ2 : (Value.bool false) = Value.bool true := hγ
      cases hγ2
    · obtain ⟨γ, hγ⟩ := hgd 8 true (by kernel_rfl)
      have hγ2 : (Value.bool false) = Value.bool true := hγ
      cases hγ2
    · obtain ⟨γ, hγ⟩ := hgd 8 true (by kernel_rfl)
      have hγ2 : (Value.bool false) = Value.bool true := hγ
      cases hγ2
    · refine soft (by decide) ?_
      intro o ac wa g ho hoff hv hS hdn
      exact (x_pickG (op_is rfl ho) ((hv 8 103 rfl (by kernel_rfl)))).trans (by rw [if_neg (by decide)]; rfl)
    · refine soft (by decide) ?_
      intro o ac wa g ho hoff hv hS hdn
      exact (x_move (op_is rfl ho)).trans (by rw [(hv 18 113 rfl (by kernel_rfl))]; rfl)
    · refine soft (by decide) ?_
      intro o ac wa g ho hoff hv hS hdn
      exact (x_move (op_is rfl ho)).trans (by rw [((hoff 8 (by decide)).trans x8)]; rfl)
    · refine soft (by decide) ?_
      intro o ac wa g ho hoff hv hS hdn
      exact (x_move (op_is rfl ho)).trans (by rw [(hv 20 115 rfl (by kernel_rfl))]; rfl)
    · refine soft (by decide) ?_
      intro o ac wa g ho hoff hv hS hdn
      exact (x_move (op_is rfl ho)).trans (by rw [((hoff 9 (by decide)).trans x9)]; rfl)
    · refine soft (by decide) ?_
      intro o ac wa g ho hoff hv hS hdn
      exact (x_notG (op_is rfl ho) ((hv 22 117 rfl (by kernel_rfl)))).trans rfl
    · refine soft (by decide) ?_
      intro o ac wa g ho hoff hv hS hdn
      exact (x_pickG (op_is rfl ho) ((hv 21 116 rfl (by kernel_rfl)))).trans (by rw [if_pos rfl, (hv 23 118 rfl (by kernel_rfl))]; rfl)
    · refine soft (by decide) ?_
      intro o ac wa g ho hoff hv hS hdn
      exact (x_move (op_is rfl ho)).trans (by rw [(hv 24 119 rfl (by kernel_rfl))]; rfl)
    · obtain ⟨γ, hγ⟩ := hgd 25 true (by kernel_rfl)
      have hγ2 : (Value.bool false) = Value.bool true := hγ
      cases hγ2
    · refine soft (by decide) ?_
      intro o ac wa g ho hoff hv hS hdn
      exact (x_pickG (op_is rfl ho) ((hv 25 120 rfl (by kernel_rfl)))).trans (by rw [if_neg (by decide)]; rfl)
    · refine soft (by decide) ?_
      intro o ac wa g ho hoff hv hS hdn
      exact (x_move (op_is rfl ho)).trans (by rw [(hv 27 122 rfl (by kernel_rfl))]; rfl)
    · obtain ⟨γ, hγ⟩ := hgd 28 true (by kernel_rfl)
      have hγ2 : (Value.bool false) = Value.bool true := hγ
      cases hγ2
    · obtain ⟨γ, hγ⟩ := hgd 28 true (by kernel_rfl)
      have hγ2 : (Value.bool false) = Value.bool true := hγ
      cases hγ2
    · obtain ⟨γ, hγ⟩ := hgd 28 true (by kernel_rfl)
      have hγ2 : (Value.bool false) = Value.bool true := hγ
      cases hγ2
    · obtain ⟨γ, hγ⟩ := hgd 28 true (by kernel_rfl)
      have hγ2 : (Value.bool false) = Value.bool true := hγ
      cases hγ2
    · obtain ⟨γ, hγ⟩ := hgd 28 true (by kernel_rfl)
      have hγ2 : (Value.bool false) = Value.bool true := hγ
      cases hγ2
    · obtain ⟨γ, hγ⟩ := hgd 28 true (by kernel_rfl)
      have hγ2 : (Value.bool false) = Value.bool true := hγ
      cases hγ2
    · obtain ⟨γ, hγ⟩ := hgd 28 true (by kernel_rfl)
      have hγ2 : (Value.bool false) = Value.bool true := hγ
      cases hγ2
    · obtain ⟨γ, hγ⟩ := hgd 28 true (by kernel_rfl)
      have hγ2 : (Value.bool false) = Value.bool true := hγ
      cases hγ2
    · obtain ⟨γ, hγ⟩ := hgd 28 true (by kernel_rfl)
      have hγ2 : (Value.bool false) = Value.bool true := hγ
      cases hγ2
    · refine soft (by decide) ?_
      intro o ac wa g ho hoff hv hS hdn
      exact (x_pickG (op_is rfl ho) ((hv 28 123 rfl (by kernel_rfl)))).trans (by rw [if_neg (by decide)]; rfl)
    · refine soft (by decide) ?_
      intro o ac wa g ho hoff hv hS hdn
      exact (x_pickG (op_is rfl ho) ((hv 19 114 rfl (by kernel_rfl)))).trans (by rw [if_neg (by decide), (hv 38 133 rfl (by kernel_rfl))]; rfl)
  · intro a' w' g hsz hdf hoff hS hdn hval
    exact hEnd a' w' hsz hdf (fun s hs => ev_same (hoff s hs)) (hval 39 134 rfl) hS
def pair_dV (g h : Nat) (wk eb en k p key num val new : Int) (had has : Bool) (na pa1 : Option Addr) (nl nc pl pc : Nat) (_ : Unit) : Nat → Value := fun j => match j with | 0 => (Value.bool true) | 1 => (Value.bool true) | 2 => (Value.bool true) | 3 => (Value.bool true) | 4 => (Value.bool true) | 5 => (Value.agg #[.int .i64 wk, .int .i64 eb, .int .i64 en, .int .i64 k, .int .i64 p, .int .i64 key, .int .i64 num, .bool had, .int .i64 val, .bool has, .int .i64 new, .slice na nl nc, .slice pa1 pl pc]) | 6 => (Value.bool false) | 7 => (Value.bool false) | 8 => (Value.bool false) | 9 => undef | 10 => undef | 11 => undef | 12 => undef | 13 => undef | 14 => undef | 15 => undef | 16 => undef | 17 => undef | 18 => (Value.bool false) | 19 => (Value.bool false) | 20 => (Value.bool false) | 21 => (Value.bool false) | 22 => undef | 23 => undef | 24 => (Value.bool false) | 25 => (Value.bool false) | 26 => undef | 27 => (Value.bool false) | 28 => (Value.bool false) | 29 => undef | 30 => undef | 31 => undef | 32 => undef | 33 => undef | 34 => undef | 35 => undef | 36 => undef | 37 => undef | 38 => (Value.bool false) | 39 => (Value.bool false) | _ => undef
set_option maxRecDepth 100000 in
set_option maxHeartbeats 1600000 in
theorem pair_d {g h : Nat} {wk eb en k p key num val new : Int} {had has : Bool} {na pa1 : Option Addr} {nl nc pl pc : Nat} {K : Act → World → Prop} {Q : Exit → Act → World → Prop} {a0 : Act} {w : World} (hs : a0.tmps.size = 181) (x6 : a0.eval (.tmp 6) = pa g 0) (x7 : a0.eval (.tmp 7) = pa h 0) (x8 : a0.eval (.tmp 8) = (Value.bool false)) (x9 : a0.eval (.tmp 9) = .bool true) (x10 : a0.eval (.tmp 10) = .bool true) (ha0 : w.cell? ⟨g, 0, none⟩ = some (.int .i64 wk)) (ha1 : w.cell? ⟨g, 1, none⟩ = some (.int .i64 eb)) (ha2 : w.cell? ⟨g, 2, none⟩ = some (.int .i64 en)) (ha3 : w.cell? ⟨g, 3, none⟩ = some (.int .i64 k)) (ha4 : w.cell? ⟨g, 4, none⟩ = some (.int .i64 p)) (ha5 : w.cell? ⟨g, 5, none⟩ = some (.int .i64 key)) (ha6 : w.cell? ⟨g, 6, none⟩ = some (.int .i64 num)) (ha7 : w.cell? ⟨g, 7, none⟩ = some (.bool had)) (ha8 : w.cell? ⟨g, 8, none⟩ = some (.int .i64 val)) (ha9 : w.cell? ⟨g, 9, none⟩ = some (.bool has)) (ha10 : w.cell? ⟨g, 10, none⟩ = some (.int .i64 new)) (ha11 : w.cell? ⟨g, 11, none⟩ = some (.slice na nl nc)) (ha12 : w.cell? ⟨g, 12, none⟩ = some (.slice pa1 pl pc)) (hWr : ∀ x, Turned [] w x → Calls Tryd.prog 55 #[.agg #[.int .i64 wk, .int .i64 eb, .int .i64 en, .int .i64 k, .int .i64 p, .int .i64 key, .int .i64 num, .bool had, .int .i64 val, .bool has, .int .i64 new, .slice na nl nc, .slice pa1 pl pc]] x fun e w' => e = .returned (Value.bool false) ∧ Turned [] x w')
    (hEnd : ∀ a' x, a'.tmps.size = a0.tmps.size → a'.defers = a0.defers → (∀ s, some s ∉ ([some 95, some 96, some 97, some 98, some 99, some 100, some 101, some 102, some 103, some 104, some 105, some 106, some 107, some 108, some 109, some 110, some 111, some 112, some 113, some 114, some 115, some 116, some 117, some 118, some 119, some 120, some 121, some 122, some 123, some 124, some 125, some 126, some 127, some 128, some 129, some 130, some 131, some 132, some 133, some 134] : List (Option Nat)) → a'.eval (.tmp s) = a0.eval (.tmp s)) → a'.eval (.tmp 134) = (Value.bool false) → Turned [] w x → K a' x) : (Code.region 9 (opsOf 9 Tryd.f39.body) true).wp Tryd.prog (Exit.then K Q) a0 w := by
  refine wp_region_ghost3 (G := Unit) (by kernel_rfl) [some 95, some 96, some 97, some 98, some 99, some 100, some 101, some 102, some 103, some 104, some 105, some 106, some 107, some 108, some 109, some 110, some 111, some 112, some 113, some 114, some 115, some 116, some 117, some 118, some 119, some 120, some 121, some 122, some 123, some 124, some 125, some 126, some 127, some 128, some 129, some 130, some 131, some 132, some 133, some 134] (by rw [hs]; kernel_rfl) (pair_dV g h wk eb en k p key num val new had has na pa1 nl nc pl pc) [] ?_ (fun _ _ => false) (fun _ x => Turned [] w x) (()) ((Turned.refl _ _).drew) (by simp) (by decide) ?_ ?_
  · intro i g b h γ
    have hi : i < 40 := by
      apply Classical.byContradiction
      intro hn
      rw [show (opsOf 9 Tryd.f39.body)[i]? = none from Array.getElem?_eq_none (by have : (opsOf 9 Tryd.f39.body).size = 40 := (by kernel_rfl); omega)] at h
      cases h
    rcases (by omega : i = 0 ∨ i = 1 ∨ i = 2 ∨ i = 3 ∨ i = 4 ∨ i = 5 ∨ i = 6 ∨ i = 7 ∨ i = 8 ∨ i = 9 ∨ i = 10 ∨ i = 11 ∨ i = 12 ∨ i = 13 ∨ i = 14 ∨ i = 15 ∨ i = 16 ∨ i = 17 ∨ i = 18 ∨ i = 19 ∨ i = 20 ∨ i = 21 ∨ i = 22 ∨ i = 23 ∨ i = 24 ∨ i = 25 ∨ i = 26 ∨ i = 27 ∨ i = 28 ∨ i = 29 ∨ i = 30 ∨ i = 31 ∨ i = 32 ∨ i = 33 ∨ i = 34 ∨ i = 35 ∨ i = 36 ∨ i = 37 ∨ i = 38 ∨ i = 39) with rfl | rfl | rfl | rfl | rfl | rfl | rfl | rfl | rfl | rfl | rfl | rfl | rfl | rfl | rfl | rfl | rfl | rfl | rfl | rfl | rfl | rfl | rfl | rfl | rfl | rfl | rfl | rfl | rfl | rfl | rfl | rfl | rfl | rfl | rfl | rfl | rfl | rfl | rfl | rfl
    · rw [show ((opsOf 9 Tryd.f39.body)[0]?).bind (fun o : Oper => o.guard) = none from by kernel_rfl] at h
      cases h
    · rw [show ((opsOf 9 Tryd.f39.body)[1]?).bind (fun o : Oper => o.guard) = none from by kernel_rfl] at h
      cases h
    · rw [show ((opsOf 9 Tryd.f39.body)[2]?).bind (fun o : Oper => o.guard) = some (1, true) from by kernel_rfl] at h
      obtain ⟨rfl, rfl⟩ : 1 = g ∧ true = b := by simpa using h
      exact .inl ⟨true, rfl, fun hne => absurd rfl hne⟩
    · rw [show ((opsOf 9 Tryd.f39.body)[3]?).bind (fun o : Oper => o.guard) = none from by kernel_rfl] at h
      cases h
    · rw [show ((opsOf 9 Tryd.f39.body)[4]?).bind (fun o : Oper => o.guard) = none from by kernel_rfl] at h
      cases h
    · rw [show ((opsOf 9 Tryd.f39.body)[5]?).bind (fun o : Oper => o.guard) = some (4, true) from by kernel_rfl] at h
      obtain ⟨rfl, rfl⟩ : 4 = g ∧ true = b := by simpa using h
      exact .inl ⟨true, rfl, fun hne => absurd rfl hne⟩
    · rw [show ((opsOf 9 Tryd.f39.body)[6]?).bind (fun o : Oper => o.guard) = some (4, true) from by kernel_rfl] at h
      obtain ⟨rfl, rfl⟩ : 4 = g ∧ true = b := by simpa using h
      exact .inl ⟨true, rfl, fun hne => absurd rfl hne⟩
    · rw [show ((opsOf 9 Tryd.f39.body)[7]?).bind (fun o : Oper => o.guard) = none from by kernel_rfl] at h
      cases h
    · rw [show ((opsOf 9 Tryd.f39.body)[8]?).bind (fun o : Oper => o.guard) = none from by kernel_rfl] at h
      cases h
    · rw [show ((opsOf 9 Tryd.f39.body)[9]?).bind (fun o : Oper => o.guard) = some (8, true) from by kernel_rfl] at h
      obtain ⟨rfl, rfl⟩ : 8 = g ∧ true = b := by simpa using h
      exact .inl ⟨false, rfl, fun _ => ⟨rfl, by decide⟩⟩
    · rw [show ((opsOf 9 Tryd.f39.body)[10]?).bind (fun o : Oper => o.guard) = some (8, true) from by kernel_rfl] at h
      obtain ⟨rfl, rfl⟩ : 8 = g ∧ true = b := by simpa using h
      exact .inl ⟨false, rfl, fun _ => ⟨rfl, by decide⟩⟩
    · rw [show ((opsOf 9 Tryd.f39.body)[11]?).bind (fun o : Oper => o.guard) = some (8, true) from by kernel_rfl] at h
      obtain ⟨rfl, rfl⟩ : 8 = g ∧ true = b := by simpa using h
      exact .inl ⟨false, rfl, fun _ => ⟨rfl, by decide⟩⟩
    · rw [show ((opsOf 9 Tryd.f39.body)[12]?).bind (fun o : Oper => o.guard) = some (8, true) from by kernel_rfl] at h
      obtain ⟨rfl, rfl⟩ : 8 = g ∧ true = b := by simpa using h
      exact .inl ⟨false, rfl, fun _ => ⟨rfl, by decide⟩⟩
    · rw [show ((opsOf 9 Tryd.f39.body)[13]?).bind (fun o : Oper => o.guard) = some (8, true) from by kernel_rfl] at h
      obtain ⟨rfl, rfl⟩ : 8 = g ∧ true = b := by simpa using h
      exact .inl ⟨false, rfl, fun _ => ⟨rfl, by decide⟩⟩
    · rw [show ((opsOf 9 Tryd.f39.body)[14]?).bind (fun o : Oper => o.guard) = some (8, true) from by kernel_rfl] at h
      obtain ⟨rfl, rfl⟩ : 8 = g ∧ true = b := by simpa using h
      exact .inl ⟨false, rfl, fun _ => ⟨rfl, by decide⟩⟩
    · rw [show ((opsOf 9 Tryd.f39.body)[15]?).bind (fun o : Oper => o.guard) = some (8, true) from by kernel_rfl] at h
      obtain ⟨rfl, rfl⟩ : 8 = g ∧ true = b := by simpa using h
      exact .inl ⟨false, rfl, fun _ => ⟨rfl, by decide⟩⟩
    · rw [show ((opsOf 9 Tryd.f39.body)[16]?).bind (fun o : Oper => o.guard) = some (8, true) from by kernel_rfl] at h
      obtain ⟨rfl, rfl⟩ : 8 = g ∧ true = b := by simpa using h
      exact .inl ⟨false, rfl, fun _ => ⟨rfl, by decide⟩⟩
    · rw [show ((opsOf 9 Tryd.f39.body)[17]?).bind (fun o : Oper => o.guard) = some (8, true) from by kernel_rfl] at h
      obtain ⟨rfl, rfl⟩ : 8 = g ∧ true = b := by simpa using h
      exact .inl ⟨false, rfl, fun _ => ⟨rfl, by decide⟩⟩
    · rw [show ((opsOf 9 Tryd.f39.body)[18]?).bind (fun o : Oper => o.guard) = none from by kernel_rfl] at h
      cases h
    · rw [show ((opsOf 9 Tryd.f39.body)[19]?).bind (fun o : Oper => o.guard) = none from by kernel_rfl] at h
      cases h
    · rw [show ((opsOf 9 Tryd.f39.body)[20]?).bind (fun o : Oper => o.guard) = some (19, false) from by kernel_rfl] at h
      obtain ⟨rfl, rfl⟩ : 19 = g ∧ false = b := by simpa using h
      exact .inl ⟨false, rfl, fun hne => absurd rfl hne⟩
    · rw [show ((opsOf 9 Tryd.f39.body)[21]?).bind (fun o : Oper => o.guard) = some (19, false) from by kernel_rfl] at h
      obtain ⟨rfl, rfl⟩ : 19 = g ∧ false = b := by simpa using h
      exact .inl ⟨false, rfl, fun hne => absurd rfl hne⟩
    · rw [show ((opsOf 9 Tryd.f39.body)[22]?).bind (fun o : Oper => o.guard) = some (21, true) from by kernel_rfl] at h
      obtain ⟨rfl, rfl⟩ : 21 = g ∧ true = b := by simpa using h
      exact .inl ⟨false, rfl, fun _ => ⟨rfl, by decide⟩⟩
    · rw [show ((opsOf 9 Tryd.f39.body)[23]?).bind (fun o : Oper => o.guard) = some (21, true) from by kernel_rfl] at h
      obtain ⟨rfl, rfl⟩ : 21 = g ∧ true = b := by simpa using h
      exact .inl ⟨false, rfl, fun _ => ⟨rfl, by decide⟩⟩
    · rw [show ((opsOf 9 Tryd.f39.body)[24]?).bind (fun o : Oper => o.guard) = some (19, false) from by kernel_rfl] at h
      obtain ⟨rfl, rfl⟩ : 19 = g ∧ false = b := by simpa using h
      exact .inl ⟨false, rfl, fun hne => absurd rfl hne⟩
    · rw [show ((opsOf 9 Tryd.f39.body)[25]?).bind (fun o : Oper => o.guard) = some (19, false) from by kernel_rfl] at h
      obtain ⟨rfl, rfl⟩ : 19 = g ∧ false = b := by simpa using h
      exact .inl ⟨false, rfl, fun hne => absurd rfl hne⟩
    · rw [show ((opsOf 9 Tryd.f39.body)[26]?).bind (fun o : Oper => o.guard) = some (25, true) from by kernel_rfl] at h
      obtain ⟨rfl, rfl⟩ : 25 = g ∧ true = b := by simpa using h
      exact .inl ⟨false, rfl, fun _ => ⟨rfl, by decide⟩⟩
    · rw [show ((opsOf 9 Tryd.f39.body)[27]?).bind (fun o : Oper => o.guard) = some (19, false) from by kernel_rfl] at h
      obtain ⟨rfl, rfl⟩ : 19 = g ∧ false = b := by simpa using h
      exact .inl ⟨false, rfl, fun hne => absurd rfl hne⟩
    · rw [show ((opsOf 9 Tryd.f39.body)[28]?).bind (fun o : Oper => o.guard) = some (19, false) from by kernel_rfl] at h
      obtain ⟨rfl, rfl⟩ : 19 = g ∧ false = b := by simpa using h
      exact .inl ⟨false, rfl, fun hne => absurd rfl hne⟩
    · rw [show ((opsOf 9 Tryd.f39.body)[29]?).bind (fun o : Oper => o.guard) = some (28, true) from by kernel_rfl] at h
      obtain ⟨rfl, rfl⟩ : 28 = g ∧ true = b := by simpa using h
      exact .inl ⟨false, rfl, fun _ => ⟨rfl, by decide⟩⟩
    · rw [show ((opsOf 9 Tryd.f39.body)[30]?).bind (fun o : Oper => o.guard) = some (28, true) from by kernel_rfl] at h
      obtain ⟨rfl, rfl⟩ : 28 = g ∧ true = b := by simpa using h
      exact .inl ⟨false, rfl, fun _ => ⟨rfl, by decide⟩⟩
    · rw [show ((opsOf 9 Tryd.f39.body)[31]?).bind (fun o : Oper => o.guard) = some (28, true) from by kernel_rfl] at h
      obtain ⟨rfl, rfl⟩ : 28 = g ∧ true = b := by simpa using h
      exact .inl ⟨false, rfl, fun _ => ⟨rfl, by decide⟩⟩
    · rw [show ((opsOf 9 Tryd.f39.body)[32]?).bind (fun o : Oper => o.guard) = some (28, true) from by kernel_rfl] at h
      obtain ⟨rfl, rfl⟩ : 28 = g ∧ true = b := by simpa using h
      exact .inl ⟨false, rfl, fun _ => ⟨rfl, by decide⟩⟩
    · rw [show ((opsOf 9 Tryd.f39.body)[33]?).bind (fun o : Oper => o.guard) = some (28, true) from by kernel_rfl] at h
      obtain ⟨rfl, rfl⟩ : 28 = g ∧ true = b := by simpa using h
      exact .inl ⟨false, rfl, fun _ => ⟨rfl, by decide⟩⟩
    · rw [show ((opsOf 9 Tryd.f39.body)[34]?).bind (fun o : Oper => o.guard) = some (28, true) from by kernel_rfl] at h
      obtain ⟨rfl, rfl⟩ : 28 = g ∧ true = b := by simpa using h
      exact .inl ⟨false, rfl, fun _ => ⟨rfl, by decide⟩⟩
    · rw [show ((opsOf 9 Tryd.f39.body)[35]?).bind (fun o : Oper => o.guard) = some (28, true) from by kernel_rfl] at h
      obtain ⟨rfl, rfl⟩ : 28 = g ∧ true = b := by simpa using h
      exact .inl ⟨false, rfl, fun _ => ⟨rfl, by decide⟩⟩
    · rw [show ((opsOf 9 Tryd.f39.body)[36]?).bind (fun o : Oper => o.guard) = some (28, true) from by kernel_rfl] at h
      obtain ⟨rfl, rfl⟩ : 28 = g ∧ true = b := by simpa using h
      exact .inl ⟨false, rfl, fun _ => ⟨rfl, by decide⟩⟩
    · rw [show ((opsOf 9 Tryd.f39.body)[37]?).bind (fun o : Oper => o.guard) = some (28, true) from by kernel_rfl] at h
      obtain ⟨rfl, rfl⟩ : 28 = g ∧ true = b := by simpa using h
      exact .inl ⟨false, rfl, fun _ => ⟨rfl, by decide⟩⟩
    · rw [show ((opsOf 9 Tryd.f39.body)[38]?).bind (fun o : Oper => o.guard) = some (19, false) from by kernel_rfl] at h
      obtain ⟨rfl, rfl⟩ : 19 = g ∧ false = b := by simpa using h
      exact .inl ⟨false, rfl, fun hne => absurd rfl hne⟩
    · rw [show ((opsOf 9 Tryd.f39.body)[39]?).bind (fun o : Oper => o.guard) = none from by kernel_rfl] at h
      cases h
  · intro i hi hgd
    rcases (by simp at hi; omega : i = 0 ∨ i = 1 ∨ i = 2 ∨ i = 3 ∨ i = 4 ∨ i = 5 ∨ i = 6 ∨ i = 7 ∨ i = 8 ∨ i = 9 ∨ i = 10 ∨ i = 11 ∨ i = 12 ∨ i = 13 ∨ i = 14 ∨ i = 15 ∨ i = 16 ∨ i = 17 ∨ i = 18 ∨ i = 19 ∨ i = 20 ∨ i = 21 ∨ i = 22 ∨ i = 23 ∨ i = 24 ∨ i = 25 ∨ i = 26 ∨ i = 27 ∨ i = 28 ∨ i = 29 ∨ i = 30 ∨ i = 31 ∨ i = 32 ∨ i = 33 ∨ i = 34 ∨ i = 35 ∨ i = 36 ∨ i = 37 ∨ i = 38 ∨ i = 39) with rfl | rfl | rfl | rfl | rfl | rfl | rfl | rfl | rfl | rfl | rfl | rfl | rfl | rfl | rfl | rfl | rfl | rfl | rfl | rfl | rfl | rfl | rfl | rfl | rfl | rfl | rfl | rfl | rfl | rfl | rfl | rfl | rfl | rfl | rfl | rfl | rfl | rfl | rfl | rfl
    · refine soft (by decide) ?_
      intro o ac wa g ho hoff hv hS hdn
      exact (x_move (op_is rfl ho)).trans (by rw [((hoff 9 (by decide)).trans x9)]; rfl)
    · refine soft (by decide) ?_
      intro o ac wa g ho hoff hv hS hdn
      exact (x_move (op_is rfl ho)).trans (by rw [(hv 0 95 rfl (by kernel_rfl))]; rfl)
    · refine soft (by decide) ?_
      intro o ac wa g ho hoff hv hS hdn
      exact (x_move (op_is rfl ho)).trans (by rw [((hoff 10 (by decide)).trans x10)]; rfl)
    · refine soft (by decide) ?_
      intro o ac wa g ho hoff hv hS hdn
      exact (x_pickG (op_is rfl ho) ((hv 1 96 rfl (by kernel_rfl)))).trans (by rw [if_pos rfl, (hv 2 97 rfl (by kernel_rfl))]; rfl)
    · refine soft (by decide) ?_
      intro o ac wa g ho hoff hv hS hdn
      exact (x_move (op_is rfl ho)).trans (by rw [(hv 3 98 rfl (by kernel_rfl))]; rfl)
    · refine soft (by decide) ?_
      intro o ac wa g ho hoff hv hS hdn
      have q0 := hS.cell ha0 (by simp)
      have q1 := hS.cell ha1 (by simp)
      have q2 := hS.cell ha2 (by simp)
      have q3 := hS.cell ha3 (by simp)
      have q4 := hS.cell ha4 (by simp)
      have q5 := hS.cell ha5 (by simp)
      have q6 := hS.cell ha6 (by simp)
      have q7 := hS.cell ha7 (by simp)
      have q8 := hS.cell ha8 (by simp)
      have q9 := hS.cell ha9 (by simp)
      have q10 := hS.cell ha10 (by simp)
      have q11 := hS.cell ha11 (by simp)
      have q12 := hS.cell ha12 (by simp)
      exact x_load (op_is rfl ho) (by rw [((hoff 6 (by decide)).trans x6)]; show (Instr.loadAt _ (pa _ _)).run _ _ = _; unfold pa; go_simp; rfl)
    · intro o ac wa g K ho hd _ hoff hv hS _ _ _ hK
      refine l_callE (op_is rfl ho) (xs := #[.agg #[.int .i64 wk, .int .i64 eb, .int .i64 en, .int .i64 k, .int .i64 p, .int .i64 key, .int .i64 num, .bool had, .int .i64 val, .bool has, .int .i64 new, .slice na nl nc, .slice pa1 pl pc]]) (by simp only [List.map_toArray, List.map_cons, List.map_nil]; rw [(hv 5 100 rfl (by kernel_rfl))]; rfl) Tryd.func55 (by kernel_rfl) rfl (hWr wa hS) ?_
      rintro e w' ⟨rfl, ht⟩
      refine ⟨_, rfl, ?_⟩
      rw [hd]
      exact hK g w' (hS.trans ht) (by simp) (fun _ _ _ => rfl)
    · refine soft (by decide) ?_
      intro o ac wa g ho hoff hv hS hdn
      exact (x_pickG (op_is rfl ho) ((hv 4 99 rfl (by kernel_rfl)))).trans (by rw [if_pos rfl, (hv 6 101 rfl (by kernel_rfl))]; rfl)
    · refine soft (by decide) ?_
      intro o ac wa g ho hoff hv hS hdn
      exact (x_move (op_is rfl ho)).trans (by rw [(hv 7 102 rfl (by kernel_rfl))]; rfl)
    · obtain ⟨γ, hγ⟩ := hgd 8 true (by kernel_rfl)
      have hγ2 : (Value.bool false) = Value.bool true := hγ
      cases hγ2
    · obtain ⟨γ, hγ⟩ := hgd 8 true (by kernel_rfl)
      have hγ2 : (Value.bool false) = Value.bool true := hγ
      cases hγ2
    · obtain ⟨γ, hγ⟩ := hgd 8 true (by kernel_rfl)
      have hγ2 : (Value.bool false) = Value.bool true := hγ
      cases hγ2
    · obtain ⟨γ, hγ⟩ := hgd 8 true (by kernel_rfl)
      have hγ2 : (Value.bool false) = Value.bool true := hγ
      cases hγ2
    · obtain ⟨γ, hγ⟩ := hgd 8 true (by kernel_rfl)
      have hγ2 : (Value.bool false) = Value.bool true := hγ
      cases hγ2
    · obtain ⟨γ, hγ⟩ := hgd 8 true (by kernel_rfl)
      have hγ2 : (Value.bool false) = Value.bool true := hγ
      cases hγ2
    · obtain ⟨γ, hγ⟩ := hgd 8 true (by kernel_rfl)
      have hγ2 : (Value.bool false) = Value.bool true := hγ
      cases hγ2
    · obtain ⟨γ, hγ⟩ := hgd 8 true (by kernel_rfl)
      have hγ2 : (Value.bool false) = Value.bool true := hγ
      cases hγ2
    · obtain ⟨γ, hγ⟩ := hgd 8 true (by kernel_rfl)
      have hγ2 : (Value.bool false) = Value.bool true := hγ
      cases hγ2
    · refine soft (by decide) ?_
      intro o ac wa g ho hoff hv hS hdn
      exact (x_pickG (op_is rfl ho) ((hv 8 103 rfl (by kernel_rfl)))).trans (by rw [if_neg (by decide)]; rfl)
    · refine soft (by decide) ?_
      intro o ac wa g ho hoff hv hS hdn
      exact (x_move (op_is rfl ho)).trans (by rw [(hv 18 113 rfl (by kernel_rfl))]; rfl)
    · refine soft (by decide) ?_
      intro o ac wa g ho hoff hv hS hdn
      exact (x_move (op_is rfl ho)).trans (by rw [((hoff 8 (by decide)).trans x8)]; rfl)
    · refine soft (by decide) ?_
      intro o ac wa g ho hoff hv hS hdn
      exact (x_move (op_is rfl ho)).trans (by rw [(hv 20 115 rfl (by kernel_rfl))]; rfl)
    · obtain ⟨γ, hγ⟩ := hgd 21 true (by kernel_rfl)
      have hγ2 : (Value.bool false) = Value.bool true := hγ
      cases hγ2
    · obtain ⟨γ, hγ⟩ := hgd 21 true (by kernel_rfl)
      have hγ2 : (Value.bool false) = Value.bool true := hγ
      cases hγ2
    · refine soft (by decide) ?_
      intro o ac wa g ho hoff hv hS hdn
      exact (x_pickG (op_is rfl ho) ((hv 21 116 rfl (by kernel_rfl)))).trans (by rw [if_neg (by decide)]; rfl)
    · refine soft (by decide) ?_
      intro o ac wa g ho hoff hv hS hdn
      exact (x_move (op_is rfl ho)).trans (by rw [(hv 24 119 rfl (by kernel_rfl))]; rfl)
    · obtain ⟨γ, hγ⟩ := hgd 25 true (by kernel_rfl)
      have hγ2 : (Value.bool false) = Value.bool true := hγ
      cases hγ2
    · refine soft (by decide) ?_
      intro o ac wa g ho hoff hv hS hdn
      exact (x_pickG (op_is rfl ho) ((hv 25 120 rfl (by kernel_rfl)))).trans (by rw [if_neg (by decide)]; rfl)
    · refine soft (by decide) ?_
      intro o ac wa g ho hoff hv hS hdn
      exact (x_move (op_is rfl ho)).trans (by rw [(hv 27 122 rfl (by kernel_rfl))]; rfl)
    · obtain ⟨γ, hγ⟩ := hgd 28 true (by kernel_rfl)
      have hγ2 : (Value.bool false) = Value.bool true := hγ
      cases hγ2
    · obtain ⟨γ, hγ⟩ := hgd 28 true (by kernel_rfl)
      have hγ2 : (Value.bool false) = Value.bool true := hγ
      cases hγ2
    · obtain ⟨γ, hγ⟩ := hgd 28 true (by kernel_rfl)
      have hγ2 : (Value.bool false) = Value.bool true := hγ
      cases hγ2
    · obtain ⟨γ, hγ⟩ := hgd 28 true (by kernel_rfl)
      have hγ2 : (Value.bool false) = Value.bool true := hγ
      cases hγ2
    · obtain ⟨γ, hγ⟩ := hgd 28 true (by kernel_rfl)
      have hγ2 : (Value.bool false) = Value.bool true := hγ
      cases hγ2
    · obtain ⟨γ, hγ⟩ := hgd 28 true (by kernel_rfl)
      have hγ2 : (Value.bool false) = Value.bool true := hγ
      cases hγ2
    · obtain ⟨γ, hγ⟩ := hgd 28 true (by kernel_rfl)
      have hγ2 : (Value.bool false) = Value.bool true := hγ
      cases hγ2
    · obtain ⟨γ, hγ⟩ := hgd 28 true (by kernel_rfl)
      have hγ2 : (Value.bool false) = Value.bool true := hγ
      cases hγ2
    · obtain ⟨γ, hγ⟩ := hgd 28 true (by kernel_rfl)
      have hγ2 : (Value.bool false) = Value.bool true := hγ
      cases hγ2
    · refine soft (by decide) ?_
      intro o ac wa g ho hoff hv hS hdn
      exact (x_pickG (op_is rfl ho) ((hv 28 123 rfl (by kernel_rfl)))).trans (by rw [if_neg (by decide)]; rfl)
    · refine soft (by decide) ?_
      intro o ac wa g ho hoff hv hS hdn
      exact (x_pickG (op_is rfl ho) ((hv 19 114 rfl (by kernel_rfl)))).trans (by rw [if_neg (by decide), (hv 38 133 rfl (by kernel_rfl))]; rfl)
  · intro a' w' g hsz hdf hoff hS hdn hval
    exact hEnd a' w' hsz hdf (fun s hs => ev_same (hoff s hs)) (hval 39 134 rfl) hS
end Go.Proofs.YtbielnehggcaoaaDoor

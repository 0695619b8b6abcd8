/- A drawn region of the statement 'TrieLong'. (Written by tools/gen/genlong.py.) -/
import Derived.Test.YtpfipdglpbmieaaGreatDoorJ43
import Derived.Test.YtpfipdglpbmieaaGreatDoorJ03
namespace Go.Proofs.YtpfipdglpbmieaaGreatDoor
open Go.RowKit
section
variable {ρ : Operand → Value} {o : Oper} {w : World}
theorem undPairsG : Tryz.prog.underlying 30 = some (.slice 58) := by kernel_rfl
theorem x_mulN {x y : Operand} {t : TypeId} {a b : Int} (h : o.op = .binOp .mul 3 x y t) (hx : ρ x = .int .i64 a) (hy : ρ y = .int .i64 b) (h0 : -1000000000 ≤ a * b) (h1 : a * b ≤ 1000000000) : (execOp ρ o).run Tryz.prog w = .ok (.value (.int .i64 (a * b))) w := by
 refine x_bin h hx hy (by go_simp) ?_
 have hw : IntKind.i64.wrap (a * b) = a * b := by generalize a * b = c at h0 h1 ⊢; simp [IntKind.wrap, IntKind.bits, IntKind.signed]; omega
 go_simp
theorem x_rem64 {x y : Operand} {t : TypeId} {i : Nat} (h : o.op = .binOp .rem 3 x y t) (hx : ρ x = .int .i64 i) (hy : ρ y = .int .i64 64) (hi : i ≤ 1000000) : (execOp ρ o).run Tryz.prog w = .ok (.value (.int .i64 ((i % 64 : Nat) : Int))) w := by
 refine x_bin h hx hy (by go_simp) ?_
 have e : ((i % 64 : Nat) : Int) = (i : Int).tmod 64 := by rw [Int.tmod_eq_emod_of_nonneg (by omega)]; omega
 have hw : IntKind.i64.wrap ((i : Int).tmod 64) = (i : Int).tmod 64 := by rw [← e]; simp [IntKind.wrap, IntKind.bits, IntKind.signed]; omega
 rw [e]
 go_simp
theorem x_max0 {y : Operand} {b : Int} (h : o.op = .call { callee := .builtin .max, args := #[.const (.int .i64 0), y], argTypes := #[3, 3] }) (hy : ρ y = .int .i64 b) (h0 : ρ (.const (.int .i64 0)) = .int .i64 0 := by rfl) : (execOp ρ o).run Tryz.prog w = .ok (.value (.int .i64 (max 0 b))) w := by
 simp [execOp, h, resolve, invoke, builtin, hy, h0]
 go_simp
 split <;> omega
end
def done27 (g : Option (Option Addr × Nat)) : Nat → Bool
 | 5 => g.isSome
 | _ => false
structure S27 (At : World → Nat → List Nat → PSt → Prop) (w : World) (p : Nat) (F : List Nat) (s : PSt) (g : Option (Option Addr × Nat)) (x : World) : Prop where
 at_ : At x p F s
 turned : Turned F w x
section
variable {At : World → Nat → List Nat → PSt → Prop} (PL : PoolLaws At) {K : Act → World → Prop} {Q : Exit → Act → World → Prop} {a0 : Act} {w : World} {p vb i ll lc it : Nat} {F St : List Nat} {s : PSt} {n root : Int} {la : Option Addr}
include PL
def longV27a (p vb : Nat) (n : Int) (i ll lc : Nat) (la : Option Addr) (St : List Nat) : Option (Option Addr × Nat) → Nat → Value := fun g j => match j with | 0 => (Value.int IntKind.i64 i) | 1 => (Value.int IntKind.i64 ((i % 64 : Nat) : Int)) | 2 => (Value.bool true) | 3 => (Value.bool true) | 4 => (pt p) | 5 => (match g with | some y => Value.slice y.1 St.length y.2 | none => undef) | 6 => (Value.int IntKind.i64 St.length) | 7 => (Value.int IntKind.i64 n) | 8 => (pa vb 1) | 9 => (Value.slice la ll lc) | 10 => (Value.int IntKind.i64 ll) | 11 => (Value.int IntKind.i64 (2 * (ll : Int))) | 12 => (Value.int IntKind.i64 (2 * (ll : Int) - 1)) | 13 => (Value.int IntKind.i64 (max 0 (2 * (ll : Int) - 1))) | 14 => (Value.int IntKind.i64 (n - max 0 (2 * (ll : Int) - 1))) | 15 => (Value.bool false) | 16 => (Value.bool false) | _ => undef
set_option maxRecDepth 100000 in
set_option maxHeartbeats 1600000 in
theorem long_r27a (hs : a0.tmps.size = 135) (x7 : a0.eval (.tmp 7) = .int .i64 n) (x8 : a0.eval (.tmp 8) = pt p) (x11 : a0.eval (.tmp 11) = pa vb 0) (x13 : a0.eval (.tmp 13) = .int .i64 i) (hA : At w p F s) (hi6 : i ≤ 1000000) (h64 : i % 64 = 0) (hV : PV s St it) (hvb : w.heap[vb]? = some (verObj root (.slice la ll lc))) (nvb : vb ∉ F) (hll : ll ≤ 100000) (hn0 : 0 ≤ n) (hn : n ≤ 100000) (hroom : (St.length : Int) = n - max 0 (2 * (ll : Int) - 1))
  (hEnd : ∀ a' x, a'.tmps.size = a0.tmps.size → a'.defers = a0.defers → (∀ s, some s ∉ ([some 107, some 108, some 109, some 110, some 111, some 112, some 113, some 114, some 115, some 116, some 117, some 118, some 119, some 120, some 121, some 122, some 123] : List (Option Nat)) → a'.eval (.tmp s) = a0.eval (.tmp s)) → a'.eval (.tmp 123) = .bool false → At x p F s → Turned F w x → K a' x) : (Code.region 27 (opsOf 27 Tryz.f3.body) true).wp Tryz.prog (Exit.then K Q) a0 w := by
 refine wp_region_ghost3 (G := Option (Option Addr × Nat)) (by kernel_rfl) [some 107, some 108, some 109, some 110, some 111, some 112, some 113, some 114, some 115, some 116, some 117, some 118, some 119, some 120, some 121, some 122, some 123] (by rw [hs]; kernel_rfl) (longV27a p vb n i ll lc la St) [5] ?_ (done27) (S27 At w p F s) (none) (⟨PL.keep hA (Turned.refl [] _).drew (by simp), (Turned.refl _ _).drew⟩) (by intro x hx; simp at hx; try (subst hx; rfl)) (by decide) ?_ ?_
 ·intro i g b h γ
  have hi : i < 17 := by
   apply Classical.byContradiction
   intro hn
   rw [show (opsOf 27 Tryz.f3.body)[i]? = none from Array.getElem?_eq_none (by have : (opsOf 27 Tryz.f3.body).size = 17 := (by kernel_rfl); omega)] at h
   cases h
  rcases (by omega : i = 0 ∨ i = 1 ∨ i = 2 ∨ i = 3 ∨ i = 4 ∨ i = 5 ∨ i = 6 ∨ i = 7 ∨ i = 8 ∨ i = 9 ∨ i = 10 ∨ i = 11 ∨ i = 12 ∨ i = 13 ∨ i = 14 ∨ i = 15 ∨ i = 16) with rfl | rfl | rfl | rfl | rfl | rfl | rfl | rfl | rfl | rfl | rfl | rfl | rfl | rfl | rfl | rfl | rfl
  ·exact absurd h (gNo (by kernel_rfl))
  ·exact absurd h (gNo (by kernel_rfl))
  ·exact absurd h (gNo (by kernel_rfl))
  ·exact absurd h (gNo (by kernel_rfl))
  ·rw [show ((opsOf 27 Tryz.f3.body)[4]?).bind (fun o : Oper => o.guard) = some (3, true) from by kernel_rfl] at h
   obtain ⟨rfl, rfl⟩ : 3 = g ∧ true = b := by simpa using h
   exact .inl ⟨true, rfl, fun hne => absurd rfl hne⟩
  ·rw [show ((opsOf 27 Tryz.f3.body)[5]?).bind (fun o : Oper => o.guard) = some (3, true) from by kernel_rfl] at h
   obtain ⟨rfl, rfl⟩ : 3 = g ∧ true = b := by simpa using h
   exact .inl ⟨true, rfl, fun hne => absurd rfl hne⟩
  ·rw [show ((opsOf 27 Tryz.f3.body)[6]?).bind (fun o : Oper => o.guard) = some (3, true) from by kernel_rfl] at h
   obtain ⟨rfl, rfl⟩ : 3 = g ∧ true = b := by simpa using h
   exact .inl ⟨true, rfl, fun hne => absurd rfl hne⟩
  ·rw [show ((opsOf 27 Tryz.f3.body)[7]?).bind (fun o : Oper => o.guard) = some (3, true) from by kernel_rfl] at h
   obtain ⟨rfl, rfl⟩ : 3 = g ∧ true = b := by simpa using h
   exact .inl ⟨true, rfl, fun hne => absurd rfl hne⟩
  ·rw [show ((opsOf 27 Tryz.f3.body)[8]?).bind (fun o : Oper => o.guard) = some (3, true) from by kernel_rfl] at h
   obtain ⟨rfl, rfl⟩ : 3 = g ∧ true = b := by simpa using h
   exact .inl ⟨true, rfl, fun hne => absurd rfl hne⟩
  ·rw [show ((opsOf 27 Tryz.f3.body)[9]?).bind (fun o : Oper => o.guard) = some (3, true) from by kernel_rfl] at h
   obtain ⟨rfl, rfl⟩ : 3 = g ∧ true = b := by simpa using h
   exact .inl ⟨true, rfl, fun hne => absurd rfl hne⟩
  ·rw [show ((opsOf 27 Tryz.f3.body)[10]?).bind (fun o : Oper => o.guard) = some (3, true) from by kernel_rfl] at h
   obtain ⟨rfl, rfl⟩ : 3 = g ∧ true = b := by simpa using h
   exact .inl ⟨true, rfl, fun hne => absurd rfl hne⟩
  ·rw [show ((opsOf 27 Tryz.f3.body)[11]?).bind (fun o : Oper => o.guard) = some (3, true) from by kernel_rfl] at h
   obtain ⟨rfl, rfl⟩ : 3 = g ∧ true = b := by simpa using h
   exact .inl ⟨true, rfl, fun hne => absurd rfl hne⟩
  ·rw [show ((opsOf 27 Tryz.f3.body)[12]?).bind (fun o : Oper => o.guard) = some (3, true) from by kernel_rfl] at h
   obtain ⟨rfl, rfl⟩ : 3 = g ∧ true = b := by simpa using h
   exact .inl ⟨true, rfl, fun hne => absurd rfl hne⟩
  ·rw [show ((opsOf 27 Tryz.f3.body)[13]?).bind (fun o : Oper => o.guard) = some (3, true) from by kernel_rfl] at h
   obtain ⟨rfl, rfl⟩ : 3 = g ∧ true = b := by simpa using h
   exact .inl ⟨true, rfl, fun hne => absurd rfl hne⟩
  ·rw [show ((opsOf 27 Tryz.f3.body)[14]?).bind (fun o : Oper => o.guard) = some (3, true) from by kernel_rfl] at h
   obtain ⟨rfl, rfl⟩ : 3 = g ∧ true = b := by simpa using h
   exact .inl ⟨true, rfl, fun hne => absurd rfl hne⟩
  ·rw [show ((opsOf 27 Tryz.f3.body)[15]?).bind (fun o : Oper => o.guard) = some (3, true) from by kernel_rfl] at h
   obtain ⟨rfl, rfl⟩ : 3 = g ∧ true = b := by simpa using h
   exact .inl ⟨true, rfl, fun hne => absurd rfl hne⟩
  ·exact absurd h (gNo (by kernel_rfl))
 ·intro i hi hgd
  rcases (by simp at hi; omega : i = 0 ∨ i = 1 ∨ i = 2 ∨ i = 3 ∨ i = 4 ∨ i = 5 ∨ i = 6 ∨ i = 7 ∨ i = 8 ∨ i = 9 ∨ i = 10 ∨ i = 11 ∨ i = 12 ∨ i = 13 ∨ i = 14 ∨ i = 15 ∨ i = 16) with rfl | rfl | rfl | rfl | rfl | rfl | rfl | rfl | rfl | rfl | rfl | rfl | rfl | rfl | rfl | rfl | rfl
  ·refine soft (by decide) ?_
   intro o ac wa g ho hoff hv hS hdn
   exact (x_move (op_is rfl ho)).trans (by rw [((hoff 13 (by decide)).trans x13)]; rfl)
  ·refine soft (by decide) ?_
   intro o ac wa g ho hoff hv hS hdn
   exact x_rem64 (op_is rfl ho) (hv 0 107 rfl (by kernel_rfl)) rfl hi6
  ·refine soft (by decide) ?_
   intro o ac wa g ho hoff hv hS hdn
   exact (x_eqlN (op_is rfl ho) (hv 1 108 rfl (by kernel_rfl)) rfl).trans (by rw [show ((((i % 64 : Nat) : Int)) == 0) = true by simp; omega]; rfl)
  ·refine soft (by decide) ?_
   intro o ac wa g ho hoff hv hS hdn
   exact (x_move (op_is rfl ho)).trans (by rw [(hv 2 109 rfl (by kernel_rfl))]; rfl)
  ·refine soft (by decide) ?_
   intro o ac wa g ho hoff hv hS hdn
   exact (x_move (op_is rfl ho)).trans (by rw [((hoff 8 (by decide)).trans x8)]; rfl)
  ·intro o ac wa g K ho hd _ hoff hv hS hpre hnd hlater hK
   refine l_callE (op_is rfl ho) (xs := #[pt p]) (by simp only [List.map_toArray, List.map_cons, List.map_nil]; rw [hv 4 111 rfl (by kernel_rfl)]; rfl) Tryz.func11 (by kernel_rfl) rfl (PL.free hS.at_ hV.ok hV.top hV.nodup hV.small) ?_
   rintro e w' ⟨⟨a5, c5, rfl⟩, ht, hA'⟩
   refine ⟨_, rfl, ?_⟩
   rw [hd]
   refine hK (some (a5, c5)) w' ⟨hA', hS.turned.trans ht⟩ (by intro x hx; simp at hx; subst hx; simp [done27]) fun j hj hr => ?_
   match j, hr with
   | 0, _ => rfl
   | 1, _ => rfl
   | 2, _ => rfl
   | 3, _ => rfl
   | 4, _ => rfl
   | 5, _ => exact absurd rfl hj
   | 6, _ => rfl
   | 7, _ => rfl
   | 8, _ => rfl
   | 9, _ => rfl
   | 10, _ => rfl
   | 11, _ => rfl
   | 12, _ => rfl
   | 13, _ => rfl
   | 14, _ => rfl
   | 15, _ => rfl
   | 16, _ => rfl
   | k + 17, _ => rfl
  ·refine soft (by decide) ?_
   intro o ac wa g ho hoff hv hS hdn
   obtain ⟨y, hy⟩ := Option.isSome_iff_exists.1 (show g.isSome = true from hdn 5 (by simp) (by kernel_rfl))
   exact x_lenG (op_is rfl ho) ((hv 5 112 rfl (by kernel_rfl)).trans (by show (match g with | some y => Value.slice y.1 St.length y.2 | none => undef) = _; rw [hy])) undIntsG
  ·refine soft (by decide) ?_
   intro o ac wa g ho hoff hv hS hdn
   exact (x_move (op_is rfl ho)).trans (by rw [((hoff 7 (by decide)).trans x7)]; rfl)
  ·refine soft (by decide) ?_
   intro o ac wa g ho hoff hv hS hdn
   exact x_field (op_is rfl ho) (by rw [((hoff 11 (by decide)).trans x11)]; show (Instr.fieldAt _ (pa _ _) _).run _ _ = .ok (pa _ _) _; unfold pa; go_simp)
  ·refine soft (by decide) ?_
   intro o ac wa g ho hoff hv hS hdn
   have hc := cell_at (hS.turned.heap hvb nvb) 1
   exact x_load (op_is rfl ho) (by rw [(hv 8 115 rfl (by kernel_rfl))]; show (Instr.loadAt _ (pa _ _)).run _ _ = _; unfold pa; go_simp; rfl)
  ·refine soft (by decide) ?_
   intro o ac wa g ho hoff hv hS hdn
   exact x_lenG (op_is rfl ho) (hv 9 116 rfl (by kernel_rfl)) undPairsG
  ·refine soft (by decide) ?_
   intro o ac wa g ho hoff hv hS hdn
   exact x_mulN (a := 2) (op_is rfl ho) rfl (hv 10 117 rfl (by kernel_rfl)) (by omega) (by omega)
  ·refine soft (by decide) ?_
   intro o ac wa g ho hoff hv hS hdn
   exact x_subN (op_is rfl ho) (hv 11 118 rfl (by kernel_rfl)) rfl (by omega) (by omega)
  ·refine soft (by decide) ?_
   intro o ac wa g ho hoff hv hS hdn
   exact x_max0 (op_is rfl ho) (hv 12 119 rfl (by kernel_rfl))
  ·refine soft (by decide) ?_
   intro o ac wa g ho hoff hv hS hdn
   exact x_subN (op_is rfl ho) (hv 7 114 rfl (by kernel_rfl)) (hv 13 120 rfl (by kernel_rfl)) (by omega) (by omega)
  ·refine soft (by decide) ?_
   intro o ac wa g ho hoff hv hS hdn
   exact (x_neqN (op_is rfl ho) (hv 6 113 rfl (by kernel_rfl)) (hv 14 121 rfl (by kernel_rfl))).trans (by rw [show ((St.length : Int) != n - max 0 (2 * (ll : Int) - 1)) = false by simp; omega]; rfl)
  ·refine soft (by decide) ?_
   intro o ac wa g ho hoff hv hS hdn
   exact (x_pickG (op_is rfl ho) ((hv 3 110 rfl (by kernel_rfl)))).trans (by rw [if_pos rfl, (hv 15 122 rfl (by kernel_rfl))]; rfl)
 ·intro a' w' g hsz hdf hoff hS hdn hval
  exact hEnd a' w' hsz hdf (fun s hs => ev_same (hoff s hs)) (hval 16 123 rfl) hS.at_ hS.turned
def longV27b (i : Nat) : Option (Option Addr × Nat) → Nat → Value := fun _ j => match j with | 0 => (Value.int IntKind.i64 i) | 1 => (Value.int IntKind.i64 ((i % 64 : Nat) : Int)) | 2 => (Value.bool false) | 3 => (Value.bool false) | 4 => undef | 5 => undef | 6 => undef | 7 => undef | 8 => undef | 9 => undef | 10 => undef | 11 => undef | 12 => undef | 13 => undef | 14 => undef | 15 => undef | 16 => (Value.bool false) | _ => undef
set_option maxRecDepth 100000 in
set_option maxHeartbeats 1600000 in
theorem long_r27b (hs : a0.tmps.size = 135) (x13 : a0.eval (.tmp 13) = .int .i64 i) (hA : At w p F s) (hi6 : i ≤ 1000000) (h64 : i % 64 ≠ 0)
  (hEnd : ∀ a' x, a'.tmps.size = a0.tmps.size → a'.defers = a0.defers → (∀ s, some s ∉ ([some 107, some 108, some 109, some 110, some 111, some 112, some 113, some 114, some 115, some 116, some 117, some 118, some 119, some 120, some 121, some 122, some 123] : List (Option Nat)) → a'.eval (.tmp s) = a0.eval (.tmp s)) → a'.eval (.tmp 123) = .bool false → At x p F s → Turned F w x → K a' x) : (Code.region 27 (opsOf 27 Tryz.f3.body) true).wp Tryz.prog (Exit.then K Q) a0 w := by
 refine wp_region_ghost3 (G := Option (Option Addr × Nat)) (by kernel_rfl) [some 107, some 108, some 109, some 110, some 111, some 112, some 113, some 114, some 115, some 116, some 117, some 118, some 119, some 120, some 121, some 122, some 123] (by rw [hs]; kernel_rfl) (longV27b i) [] ?_ (done27) (S27 At w p F s) (none) (⟨PL.keep hA (Turned.refl [] _).drew (by simp), (Turned.refl _ _).drew⟩) (by intro x hx; simp at hx; try (subst hx; rfl)) (by decide) ?_ ?_
 ·intro i g b h γ
  have hi : i < 17 := by
   apply Classical.byContradiction
   intro hn
   rw [show (opsOf 27 Tryz.f3.body)[i]? = none from Array.getElem?_eq_none (by have : (opsOf 27 Tryz.f3.body).size = 17 := (by kernel_rfl); omega)] at h
   cases h
  rcases (by omega : i = 0 ∨ i = 1 ∨ i = 2 ∨ i = 3 ∨ i = 4 ∨ i = 5 ∨ i = 6 ∨ i = 7 ∨ i = 8 ∨ i = 9 ∨ i = 10 ∨ i = 11 ∨ i = 12 ∨ i = 13 ∨ i = 14 ∨ i = 15 ∨ i = 16) with rfl | rfl | rfl | rfl | rfl | rfl | rfl | rfl | rfl | rfl | rfl | rfl | rfl | rfl | rfl | rfl | rfl
  ·exact absurd h (gNo (by kernel_rfl))
  ·exact absurd h (gNo (by kernel_rfl))
  ·exact absurd h (gNo (by kernel_rfl))
  ·exact absurd h (gNo (by kernel_rfl))
  ·rw [show ((opsOf 27 Tryz.f3.body)[4]?).bind (fun o : Oper => o.guard) = some (3, true) from by kernel_rfl] at h
   obtain ⟨rfl, rfl⟩ : 3 = g ∧ true = b := by simpa using h
   exact .inl ⟨false, rfl, fun _ => ⟨rfl, by decide⟩⟩
  ·rw [show ((opsOf 27 Tryz.f3.body)[5]?).bind (fun o : Oper => o.guard) = some (3, true) from by kernel_rfl] at h
   obtain ⟨rfl, rfl⟩ : 3 = g ∧ true = b := by simpa using h
   exact .inl ⟨false, rfl, fun _ => ⟨rfl, by decide⟩⟩
  ·rw [show ((opsOf 27 Tryz.f3.body)[6]?).bind (fun o : Oper => o.guard) = some (3, true) from by kernel_rfl] at h
   obtain ⟨rfl, rfl⟩ : 3 = g ∧ true = b := by simpa using h
   exact .inl ⟨false, rfl, fun _ => ⟨rfl, by decide⟩⟩
  ·rw [show ((opsOf 27 Tryz.f3.body)[7]?).bind (fun o : Oper => o.guard) = some (3, true) from by kernel_rfl] at h
   obtain ⟨rfl, rfl⟩ : 3 = g ∧ true = b := by simpa using h
   exact .inl ⟨false, rfl, fun _ => ⟨rfl, by decide⟩⟩
  ·rw [show ((opsOf 27 Tryz.f3.body)[8]?).bind (fun o : Oper => o.guard) = some (3, true) from by kernel_rfl] at h
   obtain ⟨rfl, rfl⟩ : 3 = g ∧ true = b := by simpa using h
   exact .inl ⟨false, rfl, fun _ => ⟨rfl, by decide⟩⟩
  ·rw [show ((opsOf 27 Tryz.f3.body)[9]?).bind (fun o : Oper => o.guard) = some (3, true) from by kernel_rfl] at h
   obtain ⟨rfl, rfl⟩ : 3 = g ∧ true = b := by simpa using h
   exact .inl ⟨false, rfl, fun _ => ⟨rfl, by decide⟩⟩
  ·rw [show ((opsOf 27 Tryz.f3.body)[10]?).bind (fun o : Oper => o.guard) = some (3, true) from by kernel_rfl] at h
   obtain ⟨rfl, rfl⟩ : 3 = g ∧ true = b := by simpa using h
   exact .inl ⟨false, rfl, fun _ => ⟨rfl, by decide⟩⟩
  ·rw [show ((opsOf 27 Tryz.f3.body)[11]?).bind (fun o : Oper => o.guard) = some (3, true) from by kernel_rfl] at h
   obtain ⟨rfl, rfl⟩ : 3 = g ∧ true = b := by simpa using h
   exact .inl ⟨false, rfl, fun _ => ⟨rfl, by decide⟩⟩
  ·rw [show ((opsOf 27 Tryz.f3.body)[12]?).bind (fun o : Oper => o.guard) = some (3, true) from by kernel_rfl] at h
   obtain ⟨rfl, rfl⟩ : 3 = g ∧ true = b := by simpa using h
   exact .inl ⟨false, rfl, fun _ => ⟨rfl, by decide⟩⟩
  ·rw [show ((opsOf 27 Tryz.f3.body)[13]?).bind (fun o : Oper => o.guard) = some (3, true) from by kernel_rfl] at h
   obtain ⟨rfl, rfl⟩ : 3 = g ∧ true = b := by simpa using h
   exact .inl ⟨false, rfl, fun _ => ⟨rfl, by decide⟩⟩
  ·rw [show ((opsOf 27 Tryz.f3.body)[14]?).bind (fun o : Oper => o.guard) = some (3, true) from by kernel_rfl] at h
   obtain ⟨rfl, rfl⟩ : 3 = g ∧ true = b := by simpa using h
   exact .inl ⟨false, rfl, fun _ => ⟨rfl, by decide⟩⟩
  ·rw [show ((opsOf 27 Tryz.f3.body)[15]?).bind (fun o : Oper => o.guard) = some (3, true) from by kernel_rfl] at h
   obtain ⟨rfl, rfl⟩ : 3 = g ∧ true = b := by simpa using h
   exact .inl ⟨false, rfl, fun _ => ⟨rfl, by decide⟩⟩
  ·exact absurd h (gNo (by kernel_rfl))
 ·intro i hi hgd
  rcases (by simp at hi; omega : i = 0 ∨ i = 1 ∨ i = 2 ∨ i = 3 ∨ i = 4 ∨ i = 5 ∨ i = 6 ∨ i = 7 ∨ i = 8 ∨ i = 9 ∨ i = 10 ∨ i = 11 ∨ i = 12 ∨ i = 13 ∨ i = 14 ∨ i = 15 ∨ i = 16) with rfl | rfl | rfl | rfl | rfl | rfl | rfl | rfl | rfl | rfl | rfl | rfl | rfl | rfl | rfl | rfl | rfl
  ·refine soft (by decide) ?_
   intro o ac wa g ho hoff hv hS hdn
   exact (x_move (op_is rfl ho)).trans (by rw [((hoff 13 (by decide)).trans x13)]; rfl)
  ·refine soft (by decide) ?_
   intro o ac wa g ho hoff hv hS hdn
   exact x_rem64 (op_is rfl ho) (hv 0 107 rfl (by kernel_rfl)) rfl hi6
  ·refine soft (by decide) ?_
   intro o ac wa g ho hoff hv hS hdn
   exact (x_eqlN (op_is rfl ho) (hv 1 108 rfl (by kernel_rfl)) rfl).trans (by rw [show ((((i % 64 : Nat) : Int)) == 0) = false by simp; omega]; rfl)
  ·refine soft (by decide) ?_
   intro o ac wa g ho hoff hv hS hdn
   exact (x_move (op_is rfl ho)).trans (by rw [(hv 2 109 rfl (by kernel_rfl))]; rfl)
  ·obtain ⟨γ, hγ⟩ := hgd 3 true (by kernel_rfl)
   have hγ2 : (Value.bool false) = Value.bool true := hγ
   cases hγ2
  ·obtain ⟨γ, hγ⟩ := hgd 3 true (by kernel_rfl)
   have hγ2 : (Value.bool false) = Value.bool true := hγ
   cases hγ2
  ·obtain ⟨γ, hγ⟩ := hgd 3 true (by kernel_rfl)
   have hγ2 : (Value.bool false) = Value.bool true := hγ
   cases hγ2
  ·obtain ⟨γ, hγ⟩ := hgd 3 true (by kernel_rfl)
   have hγ2 : (Value.bool false) = Value.bool true := hγ
   cases hγ2
  ·obtain ⟨γ, hγ⟩ := hgd 3 true (by kernel_rfl)
   have hγ2 : (Value.bool false) = Value.bool true := hγ
   cases hγ2
  ·obtain ⟨γ, hγ⟩ := hgd 3 true (by kernel_rfl)
   have hγ2 : (Value.bool false) = Value.bool true := hγ
   cases hγ2
  ·obtain ⟨γ, hγ⟩ := hgd 3 true (by kernel_rfl)
   have hγ2 : (Value.bool false) = Value.bool true := hγ
   cases hγ2
  ·obtain ⟨γ, hγ⟩ := hgd 3 true (by kernel_rfl)
   have hγ2 : (Value.bool false) = Value.bool true := hγ
   cases hγ2
  ·obtain ⟨γ, hγ⟩ := hgd 3 true (by kernel_rfl)
   have hγ2 : (Value.bool false) = Value.bool true := hγ
   cases hγ2
  ·obtain ⟨γ, hγ⟩ := hgd 3 true (by kernel_rfl)
   have hγ2 : (Value.bool false) = Value.bool true := hγ
   cases hγ2
  ·obtain ⟨γ, hγ⟩ := hgd 3 true (by kernel_rfl)
   have hγ2 : (Value.bool false) = Value.bool true := hγ
   cases hγ2
  ·obtain ⟨γ, hγ⟩ := hgd 3 true (by kernel_rfl)
   have hγ2 : (Value.bool false) = Value.bool true := hγ
   cases hγ2
  ·refine soft (by decide) ?_
   intro o ac wa g ho hoff hv hS hdn
   exact (x_pickG (op_is rfl ho) ((hv 3 110 rfl (by kernel_rfl)))).trans (by rw [if_neg (by decide)]; rfl)
 ·intro a' w' g hsz hdf hoff hS hdn hval
  exact hEnd a' w' hsz hdf (fun s hs => ev_same (hoff s hs)) (hval 16 123 rfl) hS.at_ hS.turned
end
end Go.Proofs.YtpfipdglpbmieaaGreatDoor
/- A frame, spelled out. -/
namespace Go.Proofs.YtpfipdglpbmieaaGreatDoor
open Go.RowKit
def lit135 (c : Nat → Value) : Array Value := #[c 0, c 1, c 2, c 3, c 4, c 5, c 6, c 7, c 8, c 9, c 10, c 11, c 12, c 13, c 14, c 15, c 16, c 17, c 18, c 19, c 20, c 21, c 22, c 23, c 24, c 25, c 26, c 27, c 28, c 29, c 30, c 31, c 32, c 33, c 34, c 35, c 36, c 37, c 38, c 39, c 40, c 41, c 42, c 43, c 44, c 45, c 46, c 47, c 48, c 49, c 50, c 51, c 52, c 53, c 54, c 55, c 56, c 57, c 58, c 59, c 60, c 61, c 62, c 63, c 64, c 65, c 66, c 67, c 68, c 69, c 70, c 71, c 72, c 73, c 74, c 75, c 76, c 77, c 78, c 79, c 80, c 81, c 82, c 83, c 84, c 85, c 86, c 87, c 88, c 89, c 90, c 91, c 92, c 93, c 94, c 95, c 96, c 97, c 98, c 99, c 100, c 101, c 102, c 103, c 104, c 105, c 106, c 107, c 108, c 109, c 110, c 111, c 112, c 113, c 114, c 115, c 116, c 117, c 118, c 119, c 120, c 121, c 122, c 123, c 124, c 125, c 126, c 127, c 128, c 129, c 130, c 131, c 132, c 133, c 134]
set_option maxRecDepth 100000 in
theorem lit135_eq (c : Nat → Value) : lit135 c = ((List.range 135).map c).toArray := by rfl
theorem expand135 {a : Act} (hs : a.tmps.size = 135) (hd : a.defers = []) : ∃ c : Nat → Value, a = ⟨lit135 c, []⟩ ∧ ∀ s, c s = a.eval (.tmp s) := by
 refine ⟨fun s => a.tmps.getD s undef, ?_, fun s => rfl⟩
 obtain ⟨t, d⟩ := a
 simp only at hs hd
 subst hd
 congr 1
 rw [lit135_eq]
 refine Array.ext (by simp [hs]) fun i h1 h2 => ?_
 simp [Array.getD, h1]
end Go.Proofs.YtpfipdglpbmieaaGreatDoor
/- TrieLong's loop: what stands at each round's beginning. -/
namespace Go.Proofs.YtpfipdglpbmieaaGreatDoor
open Go.RowKit
def nextX (x : Int) : Int := (x * 1103515245 + 12345) % 2147483648
theorem cNextX (x : Int) (w : World) (h0 : 0 ≤ x) (h1 : x < 2147483648) : Calls Tryz.prog 8 #[.int .i64 x] w fun e w' => e = .returned (.int .i64 (nextX x)) ∧ w' = w := by
 go_enter Tryz.func8, Tryz.ntmps8
 go_wp2
 go_ret
 exact ⟨rfl, rfl⟩
theorem LR.grown {At : World → Nat → List Nat → PSt → Prop} {Tb : World → Nat → Nat → Prop} {n p tb i it : Nat} {F St : List Nat} {s : PSt} {o : Option Tr} {lv : Value} {x y : World} (PL : PoolLaws At) (TL : TrieLaws At Tb) (h : LR At Tb n p tb i F s St it o lv x) (ht : Turned [] x y) : LR At Tb n p tb i F s St it o lv y :=
 ⟨PL.keep h.at_ ht (by simp), TL.keepT h.tb_ ht (by simp) (by simp), h.ntb, h.pv, h.it_, h.hO, h.row.keep ht (by simp), h.nl, h.len, h.room, h.faults⟩
structure LgI (At : World → Nat → List Nat → PSt → Prop) (Tb : World → Nat → Nat → Prop) (W : World) (n p tb vb : Nat) (begins count keys : Int) (i : Nat) (X : Int) (F : List Nat) (s : PSt) (St : List Nat) (it : Nat) (o : Option Tr) (lv : Value) (a : Act) (x : World) : Prop where
 size : a.tmps.size = 135
 defers : a.defers = []
 e0 : a.eval (.tmp 0) = .int .i64 begins
 e1 : a.eval (.tmp 1) = .int .i64 count
 e2 : a.eval (.tmp 2) = .int .i64 keys
 e7 : a.eval (.tmp 7) = .int .i64 n
 e8 : a.eval (.tmp 8) = pt p
 e10 : a.eval (.tmp 10) = pt tb
 e11 : a.eval (.tmp 11) = pa vb 0
 e12 : a.eval (.tmp 12) = .int .i64 X
 e13 : a.eval (.tmp 13) = .int .i64 i
 x0 : 0 ≤ X
 x1 : X < 2147483648
 lr : LR At Tb n p tb i F s St it o lv x
 box : x.heap[vb]? = some (verObj (rootO o) lv)
 nvb : vb ∉ F
 turned : Turned [] W x
 low : ∀ z, z ∈ F → W.heap.size ≤ z
 lowv : W.heap.size ≤ vb
structure LX (At : World → Nat → List Nat → PSt → Prop) (Tb : World → Nat → Nat → Prop) (W : World) (n p tb vb : Nat) (begins count keys : Int) (a : Act) (x : World) : Prop where
 ex : ∃ (i : Nat) (X : Int) (F : List Nat) (s : PSt) (St : List Nat) (it : Nat) (o : Option Tr) (lv : Value), (i = 0 ∨ (i : Int) ≤ count) ∧ LgI At Tb W n p tb vb begins count keys i X F s St it o lv a x
end Go.Proofs.YtpfipdglpbmieaaGreatDoor
/- TrieLong, over the contracts of packages pool and trie.  -/
namespace Go.Proofs.YtpfipdglpbmieaaGreatDoor
open Go.RowKit
theorem PR.form2 {B : Nat} {w : World} {v : Value} {l : List (Int × Int)} (h : PR B w v l) : ∃ a c, v = .slice a l.length c := by
 rcases h.form with ⟨h1, h2⟩ | ⟨g, c, cs, h1, _⟩
 ·subst h2; exact ⟨none, 0, h1⟩
 ·exact ⟨_, c, h1⟩
section
variable {At : World → Nat → List Nat → PSt → Prop} {Tb : World → Nat → Nat → Prop} (PL : PoolLaws At) (TL : TrieLaws At Tb) {w : World}
include PL TL
omit PL in
theorem LR.move {n p tb i it : Nat} {F St : List Nat} {s : PSt} {o : Option Tr} {lv : Value} {x y : World} (h : LR At Tb n p tb i F s St it o lv x) (ht : Turned F x y) (hA : At y p F s) : LR At Tb n p tb i F s St it o lv y :=
 ⟨hA, TL.keepT h.tb_ ht h.ntb (TL.outT h.tb_ h.at_), h.ntb, h.pv, h.it_, h.hO, h.row.keep ht h.nl, h.nl, h.len, h.room, h.faults⟩
theorem LR.keepL {n p tb i it : Nat} {F St L : List Nat} {s : PSt} {o : Option Tr} {lv : Value} {x y : World} (h : LR At Tb n p tb i F s St it o lv x) (ht : Turned L x y) (h1 : ∀ z, z ∈ L → z ∉ F) (h2 : tb ∉ L) (h3 : 0 ∉ L) (h4 : ∀ g, lv.ownBlock = some g → g ∉ L) : LR At Tb n p tb i F s St it o lv y :=
 ⟨PL.keep h.at_ ht h1, TL.keepT h.tb_ ht h2 h3, h.ntb, h.pv, h.it_, h.hO, h.row.keep ht h4, h.nl, h.len, h.room, h.faults⟩
set_option maxRecDepth 100000 in
set_option maxHeartbeats 3200000 in
theorem cLong (hNew : ∀ (x : World) (n : Nat), 1 ≤ n → n ≤ 4096 → 0 < x.heap.size → Calls Tryz.prog 5 #[.int .i64 n] x fun e w' => ∃ p F, e = .returned (.tuple #[.pointer (some ⟨p, 0, none⟩), .int .i64 0]) ∧ Turned [] x w' ∧ At w' p F (PSt.new n) ∧ ∀ z, z ∈ F → x.heap.size ≤ z) (hTab : Tab w) (hPos : 0 < w.heap.size) (hK : Calls Tryz.prog 4 #[] w fun e w' => e = .returned (.bool true) ∧ Turned [] w w') (begins count keys : Int) (h0 : 0 ≤ begins) (h1 : begins < 2147483648) (h2 : count ≤ 4000) (h3 : 1 ≤ keys) (h4 : keys ≤ 500) :
  Calls Tryz.prog 3 #[.int .i64 begins, .int .i64 count, .int .i64 keys] w fun e w' => e = .returned (.bool true) ∧ Turned [] w w' := by
 obtain ⟨n, hn⟩ : ∃ n : Nat, (n : Int) = 4 * keys + 100 := ⟨(4 * keys + 100).toNat, by omega⟩
 have HK : Hid (Calls Tryz.prog 4 #[] w fun e w' => e = .returned (.bool true) ∧ Turned [] w w') := hK
 have HTab : Hid (Tab w ∧ 0 < w.heap.size) := ⟨hTab, hPos⟩
 have HN : Hid (∀ x, 0 < x.heap.size → Calls Tryz.prog 5 #[.int .i64 (4 * keys + 100)] x fun e w' => ∃ p F, e = .returned (.tuple #[pt p, .int .i64 0]) ∧ Turned [] x w' ∧ At w' p F (PSt.new n) ∧ ∀ z, z ∈ F → x.heap.size ≤ z) := fun x hx => by rw [← hn]; exact hNew x n (by omega) (by omega) hx
 have HT : Hid _ := TL.new
 clear hK hNew hTab hPos
 go_enter Tryz.func3, Tryz.ntmps3
 go_wp2_with (first
  | (go_at_call 4; refine HK.out.mono ?_; rintro e w1 ⟨rfl, hw1⟩; have T1 : Hid (Turned [] w w1) := hw1; clear hw1)
  | (go_at_call 5; refine (HN.out _ (by have := HTab.out.2; have := T1.out.size; omega)).mono ?_; rintro e w2 ⟨p, F, rfl, ht2, hA2, hF2⟩; have T2 : Hid (Turned [] w w2) := T1.out.trans ht2; have A2 : Hid _ := hA2; have F2 : Hid (∀ z, z ∈ F → w.heap.size ≤ z) := (fun z hz => Nat.le_trans T1.out.size (hF2 z hz)); clear ht2 hA2 hF2)
  | (go_at_call 7; refine (HT.out _ p (fun i hi => T2.out.cell (HTab.out.1 i hi) (by simp))).mono ?_; rintro e w3 ⟨tb, rfl, ht3, hb3, hs3⟩; have T3 : Hid (Turned [] w w3) := T2.out.trans ht3; have A3 : Hid (At w3 p F (PSt.new n)) := PL.keep A2.out ht3 (by simp); have B3 : Hid (Tb w3 tb p) := hb3; have N3 : Hid (tb ∉ F) := (fun hm => by have := PL.lt A2.out _ hm; omega); clear ht3 hb3 hs3)
  | (go_at_call 6; refine (cNum _ _).mono ?_; rintro e w' ⟨rfl, hw⟩; obtain rfl := hw.symm))
 have hF3 := PL.lt A3.out
 refine wp_loop (fun a' x => LX At Tb w n p tb w3.heap.size begins count keys a' x) (fun a' _ => (count - intOf (a'.eval (.tmp 13))).toNat) ⟨⟨0, begins, F, PSt.new n, List.range' 1 n, 0, none, .slice none 0 0, .inl rfl, ⟨rfl, rfl, rfl, rfl, rfl, by rw [hn]; rfl, rfl, rfl, rfl, rfl, rfl, h0, h1, ⟨PL.keep A3.out ((Turned.refl [] _).alloc _) (by simp), TL.keepT B3.out ((Turned.refl [] _).alloc _) (by simp) (by simp), N3.out, PV.new (by omega) (by omega), by omega, Holds.none _, PR.nil _ _, (by simp [Value.ownBlock]), Nat.le_refl _, (by simp [hsx, Tr.hsO]), rfl⟩, blk_new _ _, fun hm => by have := hF3 _ hm; omega, T3.out.alloc _, F2.out, T3.out.size⟩⟩⟩ ?_
 rintro a' x ⟨⟨i, X, F', s, St, it, o, lv, hic, hI⟩⟩
 have H0 : Hid _ := hI
 obtain ⟨cc, hcc, hce⟩ := expand135 hI.size hI.defers
 have g0 := (hce 0).trans hI.e0
 have g1 := (hce 1).trans hI.e1
 have g2 := (hce 2).trans hI.e2
 have g7 := (hce 7).trans hI.e7
 have g8 := (hce 8).trans hI.e8
 have g10 := (hce 10).trans hI.e10
 have g11 := (hce 11).trans hI.e11
 have g12 := (hce 12).trans hI.e12
 have g13 := (hce 13).trans hI.e13
 have q0 : x.cell? ⟨w3.heap.size, 0, none⟩ = some (.int .i64 (rootO o)) := cell_at hI.box 0
 have q1 : x.cell? ⟨w3.heap.size, 1, none⟩ = some lv := cell_at hI.box 1
 have hil := hI.lr.len
 clear hI hce
 have HI : Hid (LgI At Tb w n p tb w3.heap.size begins count keys i X F' s St it o lv a' x) := H0.out
 clear H0
 subst hcc
 simp only [lit135, g0, g1, g2, g7, g8, g10, g11, g12, g13, pa]
 clear g0 g1 g2 g7 g8 g10 g11 g12 g13
 by_cases hlt : (i : Int) < count
 ·have hi4 : i ≤ 3999 := by omega
  have HX : Hid (∀ z, Calls Tryz.prog 8 #[.int .i64 X] z fun e w' => e = .returned (.int .i64 (nextX X)) ∧ w' = z) := fun z => cNextX X z HI.out.x0 HI.out.x1
  have hY0 : 0 ≤ nextX X := by unfold nextX; omega
  have hY1 : nextX X < 2147483648 := by unfold nextX; omega
  generalize nextX X = Y at HX hY0 hY1
  have lvb : w3.heap.size < x.heap.size := lt_of_heap HI.out.box
  have HC : Hid (∀ k v d y, Turned [] x y → Calls Tryz.prog 9 #[pt p, pt tb, .agg #[.int .i64 (rootO o), lv], .agg #[.int .i64 0, .int .i64 k, .int .i64 v, .bool d]] y (ChgPost At y p tb F' s St it o (chgL (prs o) k v d))) := fun k v d y hy => by
   have h := HI.out.lr.grown PL TL hy
   exact cChanged PL TL h.at_ h.tb_ h.ntb h.pv (by have := h.it_; omega) h.hO h.row h.nl (by have := h.len; omega) 0 k v d
  have k0 : 0 ≤ Y / 32 % keys := Int.emod_nonneg _ (by omega)
  have k1 : Y / 32 % keys < keys := Int.emod_lt_of_pos _ (by omega)
  generalize Y / 32 % keys = ky at k0 k1
  rcases (by omega : Y / 8 % 2 = 0 ∨ Y / 8 % 2 = 1) with hy | hy
  all_goals (
   go_wp2_with ((go_at_call 8; refine (HX.out _).mono ?_; rintro e w' ⟨rfl, hw⟩; obtain rfl := hw.symm))
   have HL0 : Hid (∀ ob, LR At Tb n p tb i F' s St it o lv (x.alloc ob)) := fun ob => HI.out.lr.grown PL TL ((Turned.refl [] _).alloc _)
   refine (HC.out _ _ _ _ ((Turned.refl [] _).alloc _)).mono ?_
   rintro e y ⟨⟨pv, ev, s', F2, St', it', rfl, ht, hA', hW, htb', hC, hcase⟩⟩
   have T4 : Hid (Turned [] w y) := (HI.out.turned.alloc _).inner ht (fun z hz => .inr (HI.out.low z hz))
   have B4 : y.heap[w3.heap.size]? = some (verObj (rootO o) lv) := ht.heap (((Turned.refl [] _).alloc _).heap HI.out.box (by simp)) HI.out.nvb
   have L4 : Hid (∀ z, z ∈ F2 → w.heap.size ≤ z) := (fun z hz => by
    rcases hW z hz with h | h
    ·exact HI.out.low z h
    ·have := HI.out.turned.size; simp at h; omega)
   have N4 : Hid (w3.heap.size ∉ F2) := (fun hm => by
    rcases hW _ hm with h | h
    ·exact HI.out.nvb h
    ·simp at h; omega)
   rcases hcase with ⟨rfl, hS, r, od, hd, ga, gl, gc, ma, ml, mc, rfl⟩ | ⟨nb, root, old, had, gv, mv, gone, made, o', v, rfl, rfl, hnb, hnl, hnF, hR, hRF, hG, hGF, hD, hprs, ma, ml, mc, rfl⟩
   ·have R4 : Hid (LR At Tb n p tb (i + 1) F2 s' St' it' o lv y) := LR.not TL (HL0.out _) ht hA' hW htb' hC hS
    have B5 : Hid _ := B4
    clear B4 hC hS hA' hW htb' ht HL0 HC
    go_wp2
    refine ⟨⟨⟨i + 1, Y, F2, s', St', it', o, lv, .inr (by omega), ⟨rfl, rfl, rfl, rfl, rfl, by rw [hn]; rfl, rfl, rfl, rfl, rfl, rfl, hY0, hY1, R4.out.grown PL TL ((Turned.refl [] _).alloc _), ((Turned.refl [] _).alloc _).heap B5.out (by simp), N4.out, T4.out.alloc _, L4.out, HI.out.lowv⟩⟩⟩, ?_⟩
    simp [intOf, Act.eval]
    omega
   ·obtain ⟨ga, gc, rfl⟩ := hG.form
    obtain ⟨va, vc, rfl⟩ := hR.form2
    obtain ⟨la, lc, hlv⟩ := HI.out.lr.row.form2
    subst hlv
    obtain ⟨w1, w2, w3', w4⟩ := LR.wants (by omega) HI.out.lr hC hD
    have B5 : Hid _ := B4
    have hroot := hD.root
    subst hroot
    have R4 : Hid _ := hR
    have n0 : y.cell? ⟨nb, 0, none⟩ = some (.int .i64 (rootO o')) := cell_at hnb 0
    have n1 : y.cell? ⟨nb, 1, none⟩ = some (.slice va (prs o').length vc) := cell_at hnb 1
    have lnb : nb < y.heap.size := lt_of_heap hnb
    have HU : Hid (∀ z, Turned [] y z → Calls Tryz.prog 10 #[pt tb, .pointer none, .slice ga gone.length gc] z _) := fun z hz => TL.undo (PL.keep hA' hz (by simp)) (TL.keepT (TL.keepT (HL0.out _).tb_ ht HI.out.lr.ntb (TL.outT HI.out.lr.tb_ HI.out.lr.at_)) hz (by simp) (by simp)) htb' hC.pv w4 (hG.keep hz (by simp)) hGF w1 w2 w3'
    have HNB : Hid (nb ∉ F2 ∧ y.heap[nb]? = some (verObj (rootO o') (.slice va (prs o').length vc))) := ⟨hnF, hnb⟩
    have HDN : Hid (∀ {z : World} {F3 : List Nat} {s3 : PSt} {St3 : List Nat}, Turned F2 y z → At z p F3 s3 → Wider F2 F3 y → tb ∉ F3 → PV s3 St3 (it' + gone.length) → s3.faults = s'.faults → St3.length = St'.length + gone.length → (∀ h x, Ct s' h x → h ∉ gone → Ct s3 h x) → LR At Tb n p tb (i + 1) F3 s3 St3 (it' + gone.length) o' (.slice va (prs o').length vc) z) := fun a1 a2 a3 a4 a5 a6 a7 a8 => LR.done TL (by omega) (HL0.out _) ht hA' htb' hC hD hR hRF a1 a2 a3 a4 a5 a6 a7 a8
    have HVG : Hid (∀ g, (Value.slice va (prs o').length vc).ownBlock = some g → x.heap.size ≤ g) := fun g hg => by have := (hR.fresh hg).1; simp at this; omega
    have hyx : x.heap.size < y.heap.size := by have := ht.size; simp at this; omega
    have HPR : Hid _ := hprs
    clear hprs hR hRF hG hGF hD hC hA' hW htb' ht w1 w2 w3' w4 HL0 hnF hnb hnl
    unfold pa
    go_wp2_with (first
     | (go_at_call 10; refine (HU.out _ ((Turned.refl _ _).alloc _)).mono ?_; rintro e z ⟨rfl, ht20, F3, s3, St3, hA3, hW3, htb3, hV3, hn3, hf3, hS3, hk3⟩; have ht2 : Turned F2 y z := (((Turned.refl [] y).alloc _).mono (by simp)).trans ht20; have n0' := ht2.cell n0 HNB.out.1; have n1' := ht2.cell n1 HNB.out.1; have lnz : nb < z.heap.size := Nat.lt_of_lt_of_le lnb ht2.size; have bz := ht2.heap B5.out N4.out; have q0' : z.cell? ⟨w3.heap.size, 0, none⟩ = some (.int .i64 (rootO o)) := cell_at bz 0; have q1' : z.cell? ⟨w3.heap.size, 1, none⟩ = some (.slice la (prs o).length lc) := cell_at bz 1; have z0' := froz_at bz 0; have z1' := froz_at bz 1; have BZ : Hid _ := bz; have HZ : Hid _ := And.intro ht2 (And.intro hA3 (And.intro hW3 (And.intro htb3 (And.intro hV3 (And.intro hf3 (And.intro hS3 hk3)))))); clear ht2 ht20 hA3 hW3 htb3 hV3 hn3 hf3 hS3 hk3 bz n0 n1)
     | (go_at_call 6; refine (cNum _ _).mono ?_; rintro e w' ⟨rfl, hw⟩; obtain rfl := hw.symm))
    obtain ⟨ht2, hA3, hW3, htb3, hV3, hf3, hS3, hk3⟩ := HZ.out
    have hW3' : Wider F2 F3 y := fun q hq => (hW3 q hq).imp id (fun h => by simp at h; omega)
    have L5 := HDN.out ht2 hA3 hW3' htb3 hV3 hf3 hS3 hk3
    have nvb3 : w3.heap.size ∉ F3 := fun hm => by
     rcases hW3' _ hm with h | h
     ·exact N4.out h
     ·omega
    have low3 : ∀ q, q ∈ F3 → w.heap.size ≤ q := fun q hq => by
     rcases hW3' _ hq with h | h
     ·exact L4.out q h
     ·have := T4.out.size; omega
    have tb3 := TL.ltT B3.out
    have ht5 : Turned [w3.heap.size] z ((z.setCell ⟨w3.heap.size, 0, none⟩ (.int .i64 (rootO o'))).setCell ⟨w3.heap.size, 1, none⟩ (.slice va (prs o').length vc)) := ((Turned.refl _ _).set (.inl (by simp)) _ _).set (.inl (by simp)) _ _
    have L6 := LR.keepL PL TL L5 ht5 (fun q hq => by simp at hq; subst hq; exact nvb3) (by simp; omega) (by simp; have := HTab.out.2; have := T3.out.size; omega) (fun g hg => by have := HVG.out g hg; simp; omega)
    have bx6 : ((z.setCell ⟨w3.heap.size, 0, none⟩ (.int .i64 (rootO o'))).setCell ⟨w3.heap.size, 1, none⟩ (.slice va (prs o').length vc)).heap[w3.heap.size]? = some (verObj (rootO o') (.slice va (prs o').length vc)) := blk_set (blk_set BZ.out 0 _) 1 _
    have T6 : Turned [] w ((z.setCell ⟨w3.heap.size, 0, none⟩ (.int .i64 (rootO o'))).setCell ⟨w3.heap.size, 1, none⟩ (.slice va (prs o').length vc)) := (T4.out.inner ht2 (fun q hq => .inr (L4.out q hq))).inner ht5 (fun q hq => by simp at hq; subst hq; exact .inr HI.out.lowv)
    have hcnt := Holds.count o'
    have hroom := L6.room
    have hl6 := L6.len
    by_cases h64 : i % 64 = 0
    ·refine long_r27a PL (n := 4 * keys + 100) (vb := w3.heap.size) (root := rootO o') (la := va) (ll := (prs o').length) (lc := vc) (F := F3) (s := s3) (St := St3) (it := it' + gone.length) (i := i) rfl rfl rfl rfl rfl L6.at_ (by omega) h64 L6.pv bx6 nvb3 (by omega) (by omega) (by omega) (by omega) ?_
     rintro a2 x2 hs2 hd2 hoff x123 hA7 ht7
     have L7 := LR.move TL L6 ht7 hA7
     have bx7 := ht7.heap bx6 nvb3
     have T7 : Turned [] w x2 := T6.inner ht7 (fun q hq => .inr (low3 q hq))
     obtain ⟨cd, hcd, hdd⟩ := expand135 (hs2.trans rfl) (hd2.trans rfl)
     have j0 : cd 0 = .int .i64 begins := (hdd 0).trans ((hoff 0 (by decide)).trans rfl)
     have j1 : cd 1 = .int .i64 count := (hdd 1).trans ((hoff 1 (by decide)).trans rfl)
     have j2 : cd 2 = .int .i64 keys := (hdd 2).trans ((hoff 2 (by decide)).trans rfl)
     have j7 : cd 7 = .int .i64 (4 * keys + 100) := (hdd 7).trans ((hoff 7 (by decide)).trans rfl)
     have j8 : cd 8 = pt p := (hdd 8).trans ((hoff 8 (by decide)).trans rfl)
     have j10 : cd 10 = pt tb := (hdd 10).trans ((hoff 10 (by decide)).trans rfl)
     have j11 : cd 11 = .pointer (some ⟨w3.heap.size, 0, none⟩) := (hdd 11).trans ((hoff 11 (by decide)).trans rfl)
     have j12 : cd 12 = .int .i64 Y := (hdd 12).trans ((hoff 12 (by decide)).trans rfl)
     have j13 : cd 13 = .int .i64 i := (hdd 13).trans ((hoff 13 (by decide)).trans rfl)
     have j123 := (hdd 123).trans x123
     have HF7 : Hid _ := And.intro L7 (And.intro bx7 (And.intro T7 (And.intro nvb3 low3)))
     clear hs2 hd2 hoff x123 hdd hA7 ht7 L7 bx7 T7 T6 bx6 L6 ht5 low3 nvb3 L5 hW3' ht2 hA3 hW3 htb3 hV3 hf3 hS3 hk3
     subst hcd
     simp only [lit135, j0, j1, j2, j7, j8, j10, j11, j12, j13, j123]
     clear j0 j1 j2 j7 j8 j10 j11 j12 j13 j123
     go_wp2
     obtain ⟨L7, bx7, T7, nvb3, low3⟩ := HF7.out
     refine ⟨⟨⟨i + 1, Y, F3, s3, St3, it' + gone.length, o', _, .inr (by omega), ⟨rfl, rfl, rfl, rfl, rfl, by rw [hn]; rfl, rfl, rfl, rfl, rfl, rfl, hY0, hY1, L7, bx7, nvb3, T7, low3, HI.out.lowv⟩⟩⟩, ?_⟩
     simp [intOf, Act.eval]
     omega
    ·refine long_r27b PL (p := p) (i := i) (F := F3) (s := s3) rfl rfl L6.at_ (by omega) h64 ?_
     rintro a2 x2 hs2 hd2 hoff x123 hA7 ht7
     have L7 := LR.move TL L6 ht7 hA7
     have bx7 := ht7.heap bx6 nvb3
     have T7 : Turned [] w x2 := T6.inner ht7 (fun q hq => .inr (low3 q hq))
     obtain ⟨cd, hcd, hdd⟩ := expand135 (hs2.trans rfl) (hd2.trans rfl)
     have j0 : cd 0 = .int .i64 begins := (hdd 0).trans ((hoff 0 (by decide)).trans rfl)
     have j1 : cd 1 = .int .i64 count := (hdd 1).trans ((hoff 1 (by decide)).trans rfl)
     have j2 : cd 2 = .int .i64 keys := (hdd 2).trans ((hoff 2 (by decide)).trans rfl)
     have j7 : cd 7 = .int .i64 (4 * keys + 100) := (hdd 7).trans ((hoff 7 (by decide)).trans rfl)
     have j8 : cd 8 = pt p := (hdd 8).trans ((hoff 8 (by decide)).trans rfl)
     have j10 : cd 10 = pt tb := (hdd 10).trans ((hoff 10 (by decide)).trans rfl)
     have j11 : cd 11 = .pointer (some ⟨w3.heap.size, 0, none⟩) := (hdd 11).trans ((hoff 11 (by decide)).trans rfl)
     have j12 : cd 12 = .int .i64 Y := (hdd 12).trans ((hoff 12 (by decide)).trans rfl)
     have j13 : cd 13 = .int .i64 i := (hdd 13).trans ((hoff 13 (by decide)).trans rfl)
     have j123 := (hdd 123).trans x123
     have HF7 : Hid _ := And.intro L7 (And.intro bx7 (And.intro T7 (And.intro nvb3 low3)))
     clear hs2 hd2 hoff x123 hdd hA7 ht7 L7 bx7 T7 T6 bx6 L6 ht5 low3 nvb3 L5 hW3' ht2 hA3 hW3 htb3 hV3 hf3 hS3 hk3
     subst hcd
     simp only [lit135, j0, j1, j2, j7, j8, j10, j11, j12, j13, j123]
     clear j0 j1 j2 j7 j8 j10 j11 j12 j13 j123
     go_wp2
     obtain ⟨L7, bx7, T7, nvb3, low3⟩ := HF7.out
     refine ⟨⟨⟨i + 1, Y, F3, s3, St3, it' + gone.length, o', _, .inr (by omega), ⟨rfl, rfl, rfl, rfl, rfl, by rw [hn]; rfl, rfl, rfl, rfl, rfl, rfl, hY0, hY1, L7, bx7, nvb3, T7, low3, HI.out.lowv⟩⟩⟩, ?_⟩
     simp [intOf, Act.eval]
     omega)
 ·have hi4 : (prs o).length ≤ 100000 := by omega
  have H1 : Hid (Calls Tryz.prog 12 #[pt tb, .agg #[.int .i64 (rootO o), lv], .int .i64 begins, .int .i64 (begins * 2)] x fun e w' => e = .returned (.bool true) ∧ Turned F' x w' ∧ At w' p F' s) := cTellsA PL TL HI.out.lr.at_ HI.out.lr.tb_ HI.out.lr.ntb HI.out.lr.pv.ok HI.out.lr.hO HI.out.lr.row HI.out.lr.nl hi4 begins (begins * 2)
  have hfa := HI.out.lr.faults
  go_wp2_with (first
   | (go_at_call 12; refine H1.out.mono ?_; rintro e y1 ⟨rfl, ht1, hA1⟩; have T5 : Hid (Turned [] w y1) := HI.out.turned.inner ht1 (fun z hz => .inr (HI.out.low z hz)); have A5 : Hid _ := hA1; clear ht1 hA1)
   | (go_at_call 13; refine (PL.faults A5.out).mono ?_; rintro e y2 ⟨rfl, ht2, hA2⟩; have T6 : Hid (Turned [] w y2) := T5.out.inner ht2 (fun z hz => .inr (HI.out.low z hz)); clear ht2 hA2; rw [hfa]))
  go_ret
  exact ⟨rfl, T6.out⟩
end
end Go.Proofs.YtpfipdglpbmieaaGreatDoor

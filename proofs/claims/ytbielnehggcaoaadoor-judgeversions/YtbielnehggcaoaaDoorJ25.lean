/-
  Plain mathematics of words, keys and parts; nothing of the program: the answers of the document as functions on integers, and what they do.
-/
import Derived.Laws.Bits64
import Derived.Test.YtbielnehggcaoaaDoorJ24
namespace Go.Proofs.YtbielnehggcaoaaDoor

def packV (i t : Int) : Int := if (0 ≤ i ∧ i ≤ 1048575) ∧ (0 ≤ t ∧ t ≤ 1099511627775) then i * 1099511627776 + t else 0
def packE (i t : Int) : Int := if 0 ≤ i ∧ i ≤ 1048575 then (if 0 ≤ t ∧ t ≤ 1099511627775 then 0 else 11) else 10
def idxV (w : Int) : Int := if 0 ≤ w ∧ w ≤ 1152921504606846975 then w / 1099511627776 else 0
def tagV (w : Int) : Int := if 0 ≤ w ∧ w ≤ 1152921504606846975 then w % 1099511627776 else 0
def nextV (w i : Int) : Int := if (0 ≤ i ∧ i ≤ 1048575) ∧ (0 ≤ w ∧ w ≤ 1152921504606846975) then i * 1099511627776 + (w % 1099511627776 + 1) % 1099511627776 else 0
def nextE (w i : Int) : Int := if 0 ≤ i ∧ i ≤ 1048575 then (if 0 ≤ w ∧ w ≤ 1152921504606846975 then 0 else 11) else 10

/- bit operations on integers of 64 bits that are not below 0 -/
theorem ofInt_i64 (a : Nat) (ha : a < 9223372036854775808) : (BitVec.ofInt 64 (a : Int)).toNat = a := by
  rw [BitVec.ofInt_natCast, BitVec.toNat_ofNat]; exact Nat.mod_eq_of_lt (by omega)
theorem wrapI64 (n : Int) (h0 : 0 ≤ n) (h : n < 9223372036854775808) : IntKind.i64.wrap n = n := by
  simp [IntKind.wrap, IntKind.bits, IntKind.signed]; omega
theorem i64_and_nat (a b : Nat) (ha : a < 9223372036854775808) (hb : b < 9223372036854775808) : bits .and .i64 (a : Int) (b : Int) = ((a &&& b : Nat) : Int) := by
  have hx : a &&& b ≤ a := Nat.and_le_left
  show IntKind.i64.wrap ((BitVec.ofInt 64 (a : Int) &&& BitVec.ofInt 64 (b : Int)).toNat : Int) = _
  rw [BitVec.toNat_and, ofInt_i64 a ha, ofInt_i64 b hb]
  exact wrapI64 _ (by omega) (by omega)
theorem i64_or_nat (a b : Nat) (ha : a < 9223372036854775808) (hb : b < 9223372036854775808) : bits .or .i64 (a : Int) (b : Int) = ((a ||| b : Nat) : Int) := by
  have hx : a ||| b < 2 ^ 63 := Nat.or_lt_two_pow (by omega) (by omega)
  show IntKind.i64.wrap ((BitVec.ofInt 64 (a : Int) ||| BitVec.ofInt 64 (b : Int)).toNat : Int) = _
  rw [BitVec.toNat_or, ofInt_i64 a ha, ofInt_i64 b hb]
  exact wrapI64 _ (by omega) (by omega)
theorem i64_xor_nat (a b : Nat) (ha : a < 9223372036854775808) (hb : b < 9223372036854775808) : bits .xor .i64 (a : Int) (b : Int) = ((a ^^^ b : Nat) : Int) := by
  have hx : a ^^^ b < 2 ^ 63 := Nat.xor_lt_two_pow (by omega) (by omega)
  show IntKind.i64.wrap ((BitVec.ofInt 64 (a : Int) ^^^ BitVec.ofInt 64 (b : Int)).toNat : Int) = _
  rw [BitVec.toNat_xor, ofInt_i64 a ha, ofInt_i64 b hb]
  exact wrapI64 _ (by omega) (by omega)
theorem i64_and_mask (a : Int) (k : Nat) (m : Int) (hm : m = 2 ^ k - 1) (hk : k < 63) (h0 : 0 ≤ a) (ha : a < 9223372036854775808) : bits .and .i64 a m = a % (m + 1) := by
  obtain ⟨A, rfl⟩ := Int.eq_ofNat_of_zero_le h0
  have h2 : 2 ^ k < 2 ^ 63 := Nat.pow_lt_pow_right (by omega) hk
  have h1 : 1 ≤ 2 ^ k := Nat.one_le_two_pow
  have e : m = ((2 ^ k - 1 : Nat) : Int) := by
    rw [hm]; push_cast [h1]; rfl
  rw [e, i64_and_nat A _ (by omega) (by omega), Nat.and_two_pow_sub_one_eq_mod]
  push_cast [h1]
  congr 1
  omega
theorem i64_or_join (i t : Int) (h0 : 0 ≤ i) (h1 : i ≤ 1048575) (h2 : 0 ≤ t) (h3 : t ≤ 1099511627775) : bits .or .i64 (i * 1099511627776) t = i * 1099511627776 + t := by
  obtain ⟨I, rfl⟩ := Int.eq_ofNat_of_zero_le h0
  obtain ⟨T, rfl⟩ := Int.eq_ofNat_of_zero_le h2
  have hT : T < 2 ^ 40 := by omega
  have e := Nat.two_pow_add_eq_or_of_lt hT I
  have e1 : ((I : Int) * 1099511627776) = ((2 ^ 40 * I : Nat) : Int) := by omega
  rw [e1, i64_or_nat _ _ (by omega) (by omega), ← e]
  omega
theorem i64_and_index (x : Int) (h0 : 0 ≤ x) (h1 : x ≤ 1152921504606846975) : bits .and .i64 (x / 1099511627776) 1048575 = x / 1099511627776 := by
  rw [i64_and_mask _ 20 1048575 (by decide) (by decide) (by omega) (by omega)]; omega
theorem i64_and_tag (x : Int) (h0 : 0 ≤ x) (h1 : x ≤ 1152921504606846976) : bits .and .i64 x 1099511627775 = x % 1099511627776 := by
  rw [i64_and_mask _ 40 1099511627775 (by decide) (by decide) (by omega) (by omega)]; omega
/- the answers, way by way -/
theorem pack_ok (i t : Int) (h0 : 0 ≤ i) (h1 : i ≤ 1048575) (h2 : 0 ≤ t) (h3 : t ≤ 1099511627775) : packV i t = i * 1099511627776 + t ∧ packE i t = 0 := by
  simp [packV, packE, h0, h1, h2, h3]
theorem pack_badI (i t : Int) (h : i < 0 ∨ 1048575 < i) : packV i t = 0 ∧ packE i t = 10 := by
  unfold packV packE; constructor
  · rw [if_neg (by omega)]
  · rw [if_neg (by omega)]
theorem pack_badT (i t : Int) (h0 : 0 ≤ i) (h1 : i ≤ 1048575) (h : t < 0 ∨ 1099511627775 < t) : packV i t = 0 ∧ packE i t = 11 := by
  unfold packV packE; constructor
  · rw [if_neg (by omega)]
  · rw [if_pos (by omega), if_neg (by omega)]
theorem idx_ok (x : Int) (h0 : 0 ≤ x) (h1 : x ≤ 1152921504606846975) : idxV x = x / 1099511627776 := by simp [idxV, h0, h1]
theorem idx_bad (x : Int) (h : x < 0 ∨ 1152921504606846975 < x) : idxV x = 0 := by unfold idxV; rw [if_neg (by omega)]
theorem tag_ok (x : Int) (h0 : 0 ≤ x) (h1 : x ≤ 1152921504606846975) : tagV x = x % 1099511627776 := by simp [tagV, h0, h1]
theorem tag_bad (x : Int) (h : x < 0 ∨ 1152921504606846975 < x) : tagV x = 0 := by unfold tagV; rw [if_neg (by omega)]
theorem next_ok (x i : Int) (h0 : 0 ≤ i) (h1 : i ≤ 1048575) (h2 : 0 ≤ x) (h3 : x ≤ 1152921504606846975) : nextV x i = i * 1099511627776 + (x % 1099511627776 + 1) % 1099511627776 ∧ nextE x i = 0 := by
  simp [nextV, nextE, h0, h1, h2, h3]
theorem next_badI (x i : Int) (h : i < 0 ∨ 1048575 < i) : nextV x i = 0 ∧ nextE x i = 10 := by
  unfold nextV nextE; constructor
  · rw [if_neg (by omega)]
  · rw [if_neg (by omega)]
theorem next_badW (x i : Int) (h0 : 0 ≤ i) (h1 : i ≤ 1048575) (h : x < 0 ∨ 1152921504606846975 < x) : nextV x i = 0 ∧ nextE x i = 11 := by
  unfold nextV nextE; constructor
  · rw [if_neg (by omega)]
  · rw [if_pos (by omega), if_neg (by omega)]
theorem ret_int {k : IntKind} {a b : Int} (h : a = b) : Ending.returned (.int k a) = .returned (.int k b) := by rw [h]
theorem ret_two {k l : IntKind} {a b c d : Int} (h : a = c) (g : b = d) : Ending.returned (.tuple #[.int k a, .int l b]) = .returned (.tuple #[.int k c, .int l d]) := by rw [h, g]
theorem ret_three {k l m : IntKind} {a b c d e f : Int} (h : a = d) (g : b = e) (i : c = f) : Ending.returned (.tuple #[.int k a, .int l b, .int m c]) = .returned (.tuple #[.int k d, .int l e, .int m f]) := by rw [h, g, i]
end Go.Proofs.YtbielnehggcaoaaDoor
/-
  Numbers one behind the other; deeds that are gathered; by contract. (By the verifier; no statement.)
-/
namespace Go.Proofs.YtbielnehggcaoaaDoor
open Go.RowKit
set_option maxHeartbeats 800000 in
theorem cPlace {k n : Int} (w : World) (hn : 0 < n) (hn2 : n ≤ 4000000000) : Calls Tryd.prog 26 #[.int .i64 k, .int .i64 n] w fun r w' => (∃ q : Int, r = .returned (.int .i64 q) ∧ 0 ≤ q ∧ q < n) ∧ w' = w := by
  have h1 : -n < Int.tmod k n := by
    have h := Int.tmod_lt_of_pos (-k) hn
    rw [Int.neg_tmod] at h
    omega
  have h2 : Int.tmod k n < n := Int.tmod_lt_of_pos k hn
  have h0 : n ≠ 0 := by omega
  by_cases g : Int.tmod k n < 0
  · have d1 : decide (Int.tmod k n < 0) = true := decide_eq_true g
    have e1 : wrap64 (Int.tmod k n) = Int.tmod k n := by unfold wrap64; omega
    have e2 : wrap64 (Int.tmod k n + n) = Int.tmod k n + n := by unfold wrap64; omega
    go_enter Tryd.func26, Tryd.ntmps26
    go_wp2
    go_ret
    exact ⟨⟨_, rfl, by omega, by omega⟩, rfl⟩
  · have d1 : decide (Int.tmod k n < 0) = false := decide_eq_false g
    have e1 : wrap64 (Int.tmod k n) = Int.tmod k n := by unfold wrap64; omega
    go_enter Tryd.func26, Tryd.ntmps26
    go_wp2
    go_ret
    exact ⟨⟨_, rfl, by omega, by omega⟩, rfl⟩
def tObj (x : Int) : Obj := .cells #[.int .i64 x] 60 (0, 0)
set_option maxHeartbeats 800000 in
theorem cNext {w : World} {tb : Nat} {x n : Int} (h : w.heap[tb]? = some (tObj x)) (hx : 0 ≤ x ∧ x < 2147483648) (hn : 0 < n) (hn2 : n ≤ 1000) : Calls Tryd.prog 28 #[.pointer (some ⟨tb, 0, none⟩), .int .i64 n] w fun r w' => ∃ q x' : Int, r = .returned (.int .i64 q) ∧ 0 ≤ q ∧ q < n ∧ 0 ≤ x' ∧ x' < 2147483648 ∧ w'.heap[tb]? = some (tObj x') ∧ Turned [tb] w w' := by
  have c0 : w.cell? ⟨tb, 0, none⟩ = some (.int .i64 x) := by rw [cell_at h]; rfl
  have f0 := froz_at h 0
  have hl := lt_of_heap h
  obtain ⟨x', hx'⟩ : ∃ x' : Int, x' = (x * 1103515 + 12345) % 2147483648 := ⟨_, rfl⟩
  have hb : 0 ≤ x' ∧ x' < 2147483648 := by omega
  have e1 : bits .and .i64 (x * 1103515 + 12345) 2147483647 = x' := by
    rw [i64_and_mask _ 31 2147483647 (by decide) (by decide) (by omega) (by omega), hx']
    rfl
  have H : Hid (w.heap[tb]? = some (tObj x)) := h
  have e3 : Int.tdiv x' 64 = x' / 64 := Int.tdiv_eq_ediv_of_nonneg hb.1
  have e4 : Int.tmod (x' / 64) n = (x' / 64) % n := Int.tmod_eq_emod_of_nonneg (by omega)
  have q1 : 0 ≤ (x' / 64) % n := Int.emod_nonneg _ (by omega)
  have q2 : (x' / 64) % n < n := Int.emod_lt_of_pos _ hn
  have h0 : n ≠ 0 := by omega
  clear h hx'
  go_enter Tryd.func28, Tryd.ntmps28
  go_wp2
  go_ret
  refine ⟨x' / 64 % n, x', ?_, q1, q2, hb.1, hb.2, ?_, ?_⟩
  · rfl
  · exact blk_set H.out 0 (.int .i64 x')
  · exact (Turned.refl [tb] w).set (by simp) 0 (.int .i64 x')
end Go.Proofs.YtbielnehggcaoaaDoor
/-
  Deeds gathered in a row; the law's state. (By the verifier; no statement.)
-/
namespace Go.Proofs.YtbielnehggcaoaaDoor
open Go.RowKit
theorem dcs_len (R : List Dd) : (R.flatMap dcs).length = R.length * 8 := by
  induction R with
  | nil => rfl
  | cons x l ih => rw [List.flatMap_cons, List.length_append, ih, List.length_cons]; simp only [List.length_cons, List.length_nil]; omega
/-- The slice v is the deeds R, in memory of its own from B on. -/
structure DR (B : Nat) (w : World) (v : Value) (R : List Dd) : Prop where
  own : w.ownsRow B 27 8 v R.length (R.flatMap dcs)
section
variable {B : Nat} {w w' : World} {v : Value} {R : List Dd}
theorem DR.nil (B : Nat) (w : World) : DR B w (.slice none 0 0) [] := ⟨World.ownsRow_nil _ _ _ _⟩
theorem DR.keep {F : List Nat} (h : DR B w v R) (ht : Turned F w w') (hF : ∀ g, v.ownBlock = some g → g ∉ F) : DR B w' v R := by
  refine ⟨h.own.1, ?_⟩
  rcases h.own.2 with h0 | ⟨g, c, cs, rfl, hb, hg, h3⟩
  · exact .inl h0
  · exact .inr ⟨g, c, cs, rfl, hb, ht.heap hg (hF g rfl), h3⟩
theorem DR.still (h : DR B w v R) (ht : Turned [] w w') : DR B w' v R := h.keep ht (by simp)
theorem DR.fresh (h : DR B w v R) {g : Nat} (hg : v.ownBlock = some g) : B ≤ g ∧ g < w.heap.size := h.own.lt g hg
theorem DR.type (h : DR B w v R) {g : Nat} (hg : v.ownBlock = some g) : ∃ cs, w.heap[g]? = some (.cells cs 27 (0, 0)) := by
  rcases h.own.2 with ⟨rfl, h0⟩ | ⟨g', c, cs, rfl, hb, hg', h3⟩
  · cases hg
  · cases hg; exact ⟨cs, hg'⟩
theorem DR.form (h : DR B w v R) : (v = .slice none 0 0 ∧ R = []) ∨ ∃ g c, v = .slice (some ⟨g, 0, none⟩) R.length c := by
  rcases h.own.2 with ⟨rfl, h0⟩ | ⟨g, c, cs, rfl, _⟩
  · exact .inl ⟨rfl, List.length_eq_zero_iff.1 h0⟩
  · exact .inr ⟨g, c, rfl⟩
theorem DR.somes {x : Dd} (h : DR B w v (R ++ [x])) : ∃ g c, v = .slice (some ⟨g, 0, none⟩) (R.length + 1) c := by
  rcases h.own.2 with ⟨_, e⟩ | ⟨g, c, cs, rfl, _⟩
  · simp at e
  · exact ⟨g, c, by simp⟩
theorem DR.view (h : DR B w v R) : ∃ ad c, v = .slice ad R.length c ∧ DsAt w ad R ∧ ∀ b o, ad = some ⟨b, o, none⟩ → b < w.heap.size := by
  rcases h.form with ⟨rfl, rfl⟩ | ⟨g, c, rfl⟩
  · exact ⟨none, 0, rfl, ⟨fun i d hd => by simp at hd⟩, fun b o e => by cases e⟩
  · obtain ⟨cs, hg⟩ := h.type (g := g) rfl
    refine ⟨_, c, rfl, ⟨fun i d hd => ?_⟩, fun b o e => by cases e; exact lt_of_heap hg⟩
    have hi := (List.getElem?_eq_some_iff.1 hd).1
    have f : ∀ j, j < 8 → w.cell? ⟨g, 0 + i * 8 + j, none⟩ = (dcs d)[j]? := fun j hj => by
      rw [show 0 + i * 8 + j = i * 8 + j by omega, h.own.cellAt _ (by omega)]
      have e : R = R.take i ++ d :: R.drop (i + 1) := by
        obtain ⟨_, rfl⟩ := List.getElem?_eq_some_iff.1 hd
        rw [← List.drop_eq_getElem_cons hi, List.take_append_drop]
      have hl : ((R.take i).flatMap dcs).length = i * 8 := by rw [dcs_len, List.length_take, Nat.min_eq_left (by omega)]
      conv => lhs; rw [e]
      rw [List.flatMap_append, List.flatMap_cons, List.getElem?_append_right (by omega), hl, show i * 8 + j - i * 8 = j by omega, List.getElem?_append_left (by simp only [List.length_cons, List.length_nil]; omega)]
    exact ⟨g, 0, rfl, lt_of_heap hg, f 0 (by omega), f 1 (by omega), f 2 (by omega), f 3 (by omega), f 4 (by omega), f 5 (by omega), f 6 (by omega), f 7 (by omega)⟩
end
theorem infoDd : (Tryd.prog.info? 27).map (fun i => (i.zero, i.size, i.bytes)) = some (some (.agg #[.int .i64 0, .int .i64 0, .int .i64 0, .int .i64 0, .int .i64 0, .int .i64 0, .int .i64 0, .bool false]), 8, 64) := by kernel_rfl
theorem undDds : Tryd.prog.underlying 23 = some (.slice 27) := by kernel_rfl
/-- 'append(list, d)'. -/
theorem wpList_apDd {w : World} {ops : Array Oper} {rest : List Oper} {o : Oper} {a : Act} {Q : Exit → Act → World → Prop} {B : Nat} {v : Value} {r : Dd} {R : List Dd} {g : Nat} (hgd : o.guard = none) (p q : Operand) (ho : o.op = .call { callee := .builtin .append, args := #[p, q], argTypes := #[23, 23] })
    (hs : a.eval p = v) (hR : DR B w v R) (hy : a.eval q = .slice (some ⟨g, 0, none⟩) 1 1) (hg : w.heap[g]? = some (.cells (dcs r).toArray 27 (0, 0))) (hm : R.length ≤ 1000000) (hB : B ≤ w.heap.size)
    (h : ∀ v' w', DR B w' v' (R ++ [r]) → Turned v.ownBlock.toList w w' → (v'.ownBlock = v.ownBlock ∨ v'.ownBlock = some w.heap.size) → wpList Tryd.prog ops Q rest (a.put o.dst v') w') : wpList Tryd.prog ops Q (o :: rest) a w := by
  obtain ⟨i, hi, hzz⟩ := Option.map_eq_some_iff.1 infoDd
  simp only [Prod.mk.injEq] at hzz
  obtain ⟨hz, hs1, hb⟩ := hzz
  refine wpList_plain hgd fun K hK => ?_
  obtain ⟨v', w', hrun, h2, h3, h4, h5⟩ := run_append_own_at (P := Tryd.prog) w B 23 o.type 27 i _ 8 64 undDds hi hz hs1 hb rfl (by decide) v R.length (R.flatMap dcs) hR.own ⟨g, 0, none⟩ 1 1 (dcs r) rfl (fun j u hj => by
    have hadd : (⟨g, 0, none⟩ : Addr).add j = ⟨g, j, none⟩ := by unfold Addr.add; split <;> simp_all
    rw [hadd, cell_at hg j, List.getElem?_toArray]
    exact hj) (fun u hu => by
      simp only [List.mem_cons, List.not_mem_nil, or_false] at hu
      rcases hu with rfl | rfl | rfl | rfl | rfl | rfl | rfl | rfl <;> rfl) (by unfold maxLen; omega) (by omega) hB
  unfold Oper.wp execOp
  simp only [ho, resolve, invoke, builtin, Sem.run_bind, Sem.run_pure, Result.andThen_ok, List.map_toArray, List.map_cons, List.map_nil, hs, hy, hrun]
  exact hK _ _ (h v' w' ⟨by rw [show (R ++ [r]).length = R.length + 1 by simp, show (R ++ [r]).flatMap dcs = R.flatMap dcs ++ dcs r by simp]; exact h2⟩ ⟨h3.os, h3.tape, h3.output, h3.size, fun k hk hn => h3.block k hk fun e => hn (by rw [← e]; simp)⟩ h5)
def cObj (v : Int → Int) : Obj := .cells #[.int .i64 (v 0), .int .i64 (v 1), .int .i64 (v 2)] 3 (0, 0)
/-- The law's state: the turner, the cells, the deeds so far. -/
structure OS (w x : World) (tb cb : Nat) (lv : Value) (D : List Dd) : Prop where
  tu : Turned [] w x
  base : w.heap.size ≤ tb ∧ w.heap.size ≤ cb
  turner : ∃ t : Int, 0 ≤ t ∧ t < 2147483648 ∧ x.heap[tb]? = some (tObj t)
  cells : x.heap[cb]? = some (cObj (runV (v0F [0, 5, 1]) D))
  row : DR w.heap.size x lv D
  times : ∀ i, i < D.length → Tm i (dAt D i)
  runs : okRun (v0F [0, 5, 1]) D
section
variable {w x : World} {tb cb : Nat} {lv : Value} {D : List Dd}
theorem OS.still {y : World} (h : OS w x tb cb lv D) (ht : Turned [] x y) : OS w y tb cb lv D := by
  obtain ⟨t, t0, t1, t2⟩ := h.turner
  exact ⟨h.tu.trans ht, h.base, ⟨t, t0, t1, ht.heap t2 (by simp)⟩, ht.heap h.cells (by simp), h.row.still ht, h.times, h.runs⟩
theorem OS.next {n : Int} (h : OS w x tb cb lv D) (hn : 0 < n) (hn2 : n ≤ 1000) : Calls Tryd.prog 28 #[.pointer (some ⟨tb, 0, none⟩), .int .i64 n] x fun r x' => ∃ q : Int, r = .returned (.int .i64 q) ∧ 0 ≤ q ∧ q < n ∧ OS w x' tb cb lv D := by
  obtain ⟨t, t0, t1, t2⟩ := h.turner
  refine (cNext t2 ⟨t0, t1⟩ hn hn2).mono ?_
  rintro r x' ⟨q, t', rfl, q0, q1, h0, h1, h2, ht⟩
  refine ⟨q, rfl, q0, q1, ⟨h.tu.inner ht (by simp; exact h.base.1), h.base, ⟨t', h0, h1, h2⟩, ht.heap h.cells (by simpa using (tyne t2 h.cells (by decide)).symm), h.row.keep ht fun g hg => ?_, h.times, h.runs⟩⟩
  obtain ⟨cs, hc⟩ := h.row.type hg
  simpa using tyne hc t2 (by decide)
/-- A deed more: what its cell becomes, and the row. -/
theorem OS.more {y : World} {lv' : Value} {d : Dd} {old : Int} (h : OS w x tb cb lv D) (hd : Tm D.length d) (ho : old = runV (v0F [0, 5, 1]) D d.a) (hn : d.n = d.ans old) (hk : d.ok = d.did old) (htu : Turned [] w y) (ht : ∃ t : Int, 0 ≤ t ∧ t < 2147483648 ∧ y.heap[tb]? = some (tObj t)) (hc : y.heap[cb]? = some (cObj (updV (runV (v0F [0, 5, 1]) D) d.a (d.next old)))) (hr : DR w.heap.size y lv' (D ++ [d])) : OS w y tb cb lv' (D ++ [d]) := by
  refine ⟨htu, h.base, ht, ?_, hr, fun i hi => ?_, okRun_append h.runs ?_⟩
  · rw [runV_append, ← ho]
    exact hc
  · rw [List.length_append] at hi
    simp only [List.length_cons, List.length_nil] at hi
    by_cases e : i < D.length
    · have e1 : dAt (D ++ [d]) i = dAt D i := by unfold dAt; simp [List.getElem?_append_left e]
      rw [e1]
      exact h.times i e
    · have e2 : i = D.length := by omega
      subst e2
      have e1 : dAt (D ++ [d]) D.length = d := by unfold dAt; simp
      rw [e1]
      exact hd
  · rw [← ho]
    unfold Dd.fits
    rw [hn, hk]
    simp
end
end Go.Proofs.YtbielnehggcaoaaDoor
/-
  OrderLong by contract. (By the verifier; no statement.)
-/
namespace Go.Proofs.YtbielnehggcaoaaDoor
open Go.RowKit
theorem cObj_set (v : Int → Int) {ix : Nat} (h : ix < 3) (u : Int) {x : World} {cb : Nat} (hc : x.heap[cb]? = some (cObj v)) : (x.setCell ⟨cb, ix, none⟩ (.int .i64 u)).heap[cb]? = some (cObj (updV v ix u)) := by
  rw [blk_set hc ix]
  unfold cObj updV
  rcases (by omega : ix = 0 ∨ ix = 1 ∨ ix = 2) with rfl | rfl | rfl <;> simp
theorem updV_self (v : Int → Int) (a : Int) : updV v a (v a) = v := by
  funext c
  unfold updV
  split
  · rename_i h; rw [h]
  · rfl
theorem cObj_at (v : Int → Int) {ix : Nat} (h : ix < 3) {x : World} {cb : Nat} (hc : x.heap[cb]? = some (cObj v)) : x.cell? ⟨cb, ix, none⟩ = some (.int .i64 (v ix)) ∧ x.frozen? ⟨cb, ix, none⟩ = false := by
  refine ⟨?_, froz_at hc ix⟩
  rw [cell_at hc]
  rcases (by omega : ix = 0 ∨ ix = 1 ∨ ix = 2) with rfl | rfl | rfl <;> rfl
/-- Behind a deed: its cell was written, or not; a box and what is appended were made; the row grew. -/
theorem OS.grown {w x X y : World} {tb cb : Nat} {lv lv' : Value} {D : List Dd} {d : Dd} {ix : Nat} {old : Int} (h : OS w x tb cb lv D) (hX : Turned [cb] x X) (hXc : X.heap[cb]? = some (cObj (updV (runV (v0F [0, 5, 1]) D) ix (d.next old)))) (hy : Turned lv.ownBlock.toList X y) (hr : DR w.heap.size y lv' (D ++ [d])) (hd : Tm D.length d) (ha : d.a = ix) (ho : old = runV (v0F [0, 5, 1]) D ix) (hn : d.n = d.ans old) (hk : d.ok = d.did old) : OS w y tb cb lv' (D ++ [d]) := by
  obtain ⟨t, t0, t1, t2⟩ := h.turner
  have hne : ∀ g, lv.ownBlock = some g → g ≠ cb ∧ g ≠ tb ∧ w.heap.size ≤ g := fun g hg => by
    obtain ⟨cs, hc⟩ := h.row.type hg
    exact ⟨tyne hc h.cells (by decide), tyne hc t2 (by decide), (h.row.fresh hg).1⟩
  have hT : Turned [] w X := h.tu.inner hX (by simp; exact h.base.2)
  refine h.more hd (by rw [ha]; exact ho) hn hk (hT.inner hy fun g hg => .inr (by simp only [Option.mem_toList] at hg; exact (hne g hg).2.2)) ⟨t, t0, t1, ?_⟩ ?_ hr
  · exact hy.heap (hX.heap t2 (by simpa using tyne t2 h.cells (by decide))) fun hg => by simp only [Option.mem_toList] at hg; exact (hne _ hg).2.1 rfl
  · rw [ha]
    exact hy.heap hXc fun hg => by simp only [Option.mem_toList] at hg; exact (hne _ hg).1 rfl
theorem OrP.can {D : List Dd} {F : List Int} {w w' : World} {r : Ending} (h : OrP D F w r w') (h0 : chkD F.length D = 0) (hc : Can D (bitsP 0) (v0F F)) : ∃ os v, r = .returned (.tuple #[v, .bool true, .int .i64 0]) ∧ Goes D (bitsP 0) (v0F F) os ∧ IR w.heap.size w' v (ints os) := by
  rcases h.ans with ⟨h1, _⟩ | ⟨_, ⟨os, v, h1, h2, h3⟩ | ⟨_, h2⟩⟩
  · exact absurd h0 h1
  · refine ⟨os, v, h1, h2.goes, ⟨?_⟩⟩
    rw [List.length_map, List.map_map]
    exact h3
  · exact absurd hc h2
theorem goes_len {D : List Dd} {S : Pl} {v : Int → Int} {os : List Nat} (h : Goes D S v os) : os.length ≤ outN D.length S := by
  induction h with
  | nil _ => simp
  | @cons S v i os hi hm hf _ ih =>
    have := outN_upd hi (may_iff.1 hm).1
    rw [List.length_cons]
    omega
theorem blk_newS2 {x x' : World} (h : x'.heap.size = x.heap.size) (A B : Obj) : ((x'.alloc A).alloc B).heap[x.heap.size + 1]? = some B := by rw [← h]; exact blk_new2 x' A B
structure OX (w : World) (tb cb n : Nat) (i lv : Value) (x : World) : Prop where
  ex : ∃ D : List Dd, D.length ≤ n ∧ i = .int .i64 (D.length : Nat) ∧ OS w x tb cb lv D
set_option maxRecDepth 100000 in
set_option maxHeartbeats 12800000 in
theorem cOrderLong {w : World} {seed count : Int} (hT : Tab w) (hz : 0 < w.heap.size) : Calls Tryd.prog 8 #[.int .i64 seed, .int .i64 count] w fun r w' => r = .returned (.bool true) ∧ Turned [] w w' := by
  have HT : Hid (Tab w ∧ 0 < w.heap.size) := ⟨hT, hz⟩
  clear hT hz
  go_enter Tryd.func8, Tryd.ntmps8
  go_wp2_with (fail)
  refine (cPlace w (by decide) (by decide)).mono ?_
  rintro r x1 ⟨⟨q1, rfl, h1, h2⟩, rfl⟩
  obtain ⟨n, rfl⟩ : ∃ n : Nat, q1 = n := ⟨q1.toNat, by omega⟩
  have hn : n ≤ 64 := by omega
  clear h1 h2
  go_wp2_with (fail)
  refine (cPlace x1 (by decide) (by decide)).mono ?_
  rintro r x2 ⟨⟨q2, rfl, h1, h2⟩, rfl⟩
  have HQ : Hid (0 ≤ q2 ∧ q2 < 2147483648) := ⟨h1, by omega⟩
  clear h1 h2
  go_wp2_with (fail)
  have HS0 : Hid (OS x2 ((x2.alloc (tObj q2)).alloc (.cells #[.int .i64 0, .int .i64 5, .int .i64 1] 3 (0, 0))) x2.heap.size (x2.heap.size + 1) (.slice none 0 0) []) := by
    refine ⟨((Turned.refl [] x2).alloc _).alloc _, ⟨Nat.le_refl _, by omega⟩, ⟨q2, HQ.out.1, HQ.out.2, blk_old (blk_new x2 _) _⟩, blk_new2 x2 _ _, DR.nil _ _, fun i hi => by simp at hi, trivial⟩
  have e0 : (x2.alloc (Obj.cells #[.int .i64 q2] 60 (0, 0))) = x2.alloc (tObj q2) := rfl
  rw [e0]
  clear e0
  generalize (x2.alloc (tObj q2)).alloc (Obj.cells #[.int .i64 0, .int .i64 5, .int .i64 1] 3 (0, 0)) = x0 at HS0 ⊢
  generalize x2.heap.size + 1 = cb at HS0 ⊢
  generalize hsz : x2.heap.size = tb at HS0 ⊢
  clear hsz
  go_loopw [9, 8] (fun i lv wx => OX x2 tb cb n i lv wx) (fun i _ _ => n - (intOf i).toNat)
  case atStart => exact ⟨[], by simp, rfl, HS0.out⟩
  case round =>
    obtain ⟨D, hD, rfl, hS⟩ := hrel.ex
    have HS : Hid _ := hS
    clear hrel hS HS0
    by_cases hlt : D.length < n
    · have hDl : D.length ≤ 64 := by omega
      go_wp2_with (fail)
      refine (OS.next HS.out (by decide) (by decide)).mono ?_
      rintro r y1 ⟨qb, rfl, qb0, qb1, S2⟩
      have HS1 : Hid _ := S2
      clear S2 HS
      go_wp2_with (fail)
      refine (OS.next HS1.out (by decide) (by decide)).mono ?_
      rintro r y2 ⟨qe, rfl, qe0, qe1, S2⟩
      have HS2 : Hid _ := S2
      clear S2 HS1
      go_wp2_with (fail)
      refine (OS.next HS2.out (by decide) (by decide)).mono ?_
      rintro r y3 ⟨qk, rfl, qk0, qk1, S2⟩
      have HS3 : Hid _ := S2
      clear S2 HS2
      go_wp2_with (fail)
      refine (OS.next HS3.out (by decide) (by decide)).mono ?_
      rintro r y4 ⟨qa, rfl, qa0, qa1, S2⟩
      have HS4 : Hid _ := S2
      clear S2 HS3
      go_wp2_with (fail)
      refine (OS.next HS4.out (by decide) (by decide)).mono ?_
      rintro r y5 ⟨qx, rfl, qx0, qx1, S2⟩
      have HS5 : Hid _ := S2
      clear S2 HS4
      go_wp2_with (fail)
      refine (OS.next HS5.out (by decide) (by decide)).mono ?_
      rintro r y6 ⟨qc, rfl, qc0, qc1, S2⟩
      have HS6 : Hid _ := S2
      clear S2 HS5
      obtain ⟨ix, rfl⟩ : ∃ ix : Nat, qa = ix := ⟨qa.toNat, by omega⟩
      have hix : ix < 3 := by omega
      obtain ⟨c1, c2⟩ := cObj_at _ hix HS6.out.cells
      have cl := lt_of_heap HS6.out.cells
      obtain ⟨V, hV⟩ : ∃ V, V = runV (v0F [0, 5, 1]) D ix := ⟨_, rfl⟩
      have HV : Hid (V = runV (v0F [0, 5, 1]) D ix) := hV
      rw [← hV] at c1
      clear hV
      have HTm : Hid (∀ (k n : Int) (ok : Bool), 1 ≤ k → k ≤ 7 → Tm D.length ⟨max (1 + 4 * (D.length : Int) - qb) 1, 1 + 4 * (D.length : Int) + qe, k, ix, qx, qc, n, ok⟩) := fun k n ok h1 h2 => ⟨by show 1 ≤ max _ 1; omega, by show 4 * (D.length : Int) - 8 ≤ max _ 1; omega, by show max _ 1 ≤ 1 + 4 * (D.length : Int); omega, by show 1 + 4 * (D.length : Int) ≤ 1 + 4 * (D.length : Int) + qe; omega, by show 1 + 4 * (D.length : Int) + qe ≤ 10 + 4 * (D.length : Int); omega, h1, h2, by show 0 ≤ (ix : Int); omega, by show (ix : Int) < 3; omega⟩
      have HB : Hid (x2.heap.size ≤ y6.heap.size) := HS6.out.tu.size
      rcases (by omega : qk = 0 ∨ qk = 1 ∨ qk = 2 ∨ qk = 3 ∨ qk = 4 ∨ qk = 5 ∨ qk = 6) with rfl | rfl | rfl | rfl | rfl | rfl | rfl
      · go_wp2_with (at_builtin; refine wpList_apDd (B := x2.heap.size) (v := u8) (R := D) (r := ⟨max (1 + 4 * (D.length : Int) - qb) 1, 1 + 4 * (D.length : Int) + qe, 1, ix, qx, qc, V, false⟩) (g := y6.heap.size + 1) rfl _ _ rfl rfl (HS6.out.row.keep (F := [cb]) (((Turned.refl [cb] y6).alloc _).alloc _) (fun g hg => by obtain ⟨cs, hc⟩ := HS6.out.row.type hg; simpa using tyne hc HS6.out.cells (by decide))) rfl (blk_new2 y6 _ _) (by omega) (by have := HB.out; simp; omega) ?_; intro v1 w1 hr1 ht1 ho1; have HS7 : Hid (OS x2 w1 tb cb v1 (D ++ [⟨max (1 + 4 * (D.length : Int) - qb) 1, 1 + 4 * (D.length : Int) + qe, 1, ix, qx, qc, V, false⟩])) := HS6.out.grown (ix := ix) (old := V) (((Turned.refl [cb] y6).alloc _).alloc _) (by rw [show ((⟨max (1 + 4 * (D.length : Int) - qb) 1, 1 + 4 * (D.length : Int) + qe, 1, ix, qx, qc, V, false⟩ : Dd)).next V = V by simp [Dd.next], HV.out, updV_self]; exact blk_old (blk_old HS6.out.cells _) _) ht1 hr1 (HTm.out 1 _ _ (by decide) (by decide)) rfl HV.out (by show V = Dd.ans _ V; simp [Dd.ans]) (by show false = Dd.did _ V; simp [Dd.did]); clear hr1 ht1 ho1)
        go_roundw
        case rel => exact ⟨_, by simp; omega, by simp, HS7.out⟩
        case measure => simp [intOf]; omega
      · go_wp2_with (at_builtin; refine wpList_apDd (B := x2.heap.size) (v := u8) (R := D) (r := ⟨max (1 + 4 * (D.length : Int) - qb) 1, 1 + 4 * (D.length : Int) + qe, 2, ix, qx, qc, 0, false⟩) (g := y6.heap.size + 1) rfl _ _ rfl rfl (HS6.out.row.keep (F := [cb]) ((((Turned.refl [cb] y6).set (by simp) ix (.int .i64 qx)).alloc _).alloc _) (fun g hg => by obtain ⟨cs, hc⟩ := HS6.out.row.type hg; simpa using tyne hc HS6.out.cells (by decide))) rfl (blk_newS2 (size_set y6 ⟨cb, ix, none⟩ (.int .i64 qx)) _ _) (by omega) (by have := HB.out; simp [World.setCell]; omega) ?_; intro v1 w1 hr1 ht1 ho1; have HS7 : Hid (OS x2 w1 tb cb v1 (D ++ [⟨max (1 + 4 * (D.length : Int) - qb) 1, 1 + 4 * (D.length : Int) + qe, 2, ix, qx, qc, 0, false⟩])) := HS6.out.grown (ix := ix) (old := V) ((((Turned.refl [cb] y6).set (by simp) ix (.int .i64 qx)).alloc _).alloc _) (by rw [show ((⟨max (1 + 4 * (D.length : Int) - qb) 1, 1 + 4 * (D.length : Int) + qe, 2, ix, qx, qc, 0, false⟩ : Dd)).next V = qx by simp [Dd.next]]; exact blk_old (blk_old (cObj_set _ hix qx HS6.out.cells) _) _) ht1 hr1 (HTm.out 2 _ _ (by decide) (by decide)) rfl HV.out (by show 0 = Dd.ans _ V; simp [Dd.ans]) (by show false = Dd.did _ V; simp [Dd.did]); clear hr1 ht1 ho1)
        go_roundw
        case rel => exact ⟨_, by simp; omega, by simp, HS7.out⟩
        case measure => simp [intOf]; omega
      · go_wp2_with (at_builtin; refine wpList_apDd (B := x2.heap.size) (v := u8) (R := D) (r := ⟨max (1 + 4 * (D.length : Int) - qb) 1, 1 + 4 * (D.length : Int) + qe, 3, ix, qx, qc, (wrap64 (V + qx)), false⟩) (g := y6.heap.size + 1) rfl _ _ rfl rfl (HS6.out.row.keep (F := [cb]) ((((Turned.refl [cb] y6).set (by simp) ix (.int .i64 (wrap64 (V + qx)))).alloc _).alloc _) (fun g hg => by obtain ⟨cs, hc⟩ := HS6.out.row.type hg; simpa using tyne hc HS6.out.cells (by decide))) rfl (blk_newS2 (size_set y6 ⟨cb, ix, none⟩ (.int .i64 (wrap64 (V + qx)))) _ _) (by omega) (by have := HB.out; simp [World.setCell]; omega) ?_; intro v1 w1 hr1 ht1 ho1; have HS7 : Hid (OS x2 w1 tb cb v1 (D ++ [⟨max (1 + 4 * (D.length : Int) - qb) 1, 1 + 4 * (D.length : Int) + qe, 3, ix, qx, qc, (wrap64 (V + qx)), false⟩])) := HS6.out.grown (ix := ix) (old := V) ((((Turned.refl [cb] y6).set (by simp) ix (.int .i64 (wrap64 (V + qx)))).alloc _).alloc _) (by rw [show ((⟨max (1 + 4 * (D.length : Int) - qb) 1, 1 + 4 * (D.length : Int) + qe, 3, ix, qx, qc, (wrap64 (V + qx)), false⟩ : Dd)).next V = (wrap64 (V + qx)) by simp [Dd.next]]; exact blk_old (blk_old (cObj_set _ hix (wrap64 (V + qx)) HS6.out.cells) _) _) ht1 hr1 (HTm.out 3 _ _ (by decide) (by decide)) rfl HV.out (by show (wrap64 (V + qx)) = Dd.ans _ V; simp [Dd.ans]) (by show false = Dd.did _ V; simp [Dd.did]); clear hr1 ht1 ho1)
        go_roundw
        case rel => exact ⟨_, by simp; omega, by simp, HS7.out⟩
        case measure => simp [intOf]; omega
      · go_wp2_with (at_builtin; refine wpList_apDd (B := x2.heap.size) (v := u8) (R := D) (r := ⟨max (1 + 4 * (D.length : Int) - qb) 1, 1 + 4 * (D.length : Int) + qe, 4, ix, qx, qc, V, false⟩) (g := y6.heap.size + 1) rfl _ _ rfl rfl (HS6.out.row.keep (F := [cb]) ((((Turned.refl [cb] y6).set (by simp) ix (.int .i64 qx)).alloc _).alloc _) (fun g hg => by obtain ⟨cs, hc⟩ := HS6.out.row.type hg; simpa using tyne hc HS6.out.cells (by decide))) rfl (blk_newS2 (size_set y6 ⟨cb, ix, none⟩ (.int .i64 qx)) _ _) (by omega) (by have := HB.out; simp [World.setCell]; omega) ?_; intro v1 w1 hr1 ht1 ho1; have HS7 : Hid (OS x2 w1 tb cb v1 (D ++ [⟨max (1 + 4 * (D.length : Int) - qb) 1, 1 + 4 * (D.length : Int) + qe, 4, ix, qx, qc, V, false⟩])) := HS6.out.grown (ix := ix) (old := V) ((((Turned.refl [cb] y6).set (by simp) ix (.int .i64 qx)).alloc _).alloc _) (by rw [show ((⟨max (1 + 4 * (D.length : Int) - qb) 1, 1 + 4 * (D.length : Int) + qe, 4, ix, qx, qc, V, false⟩ : Dd)).next V = qx by simp [Dd.next]]; exact blk_old (blk_old (cObj_set _ hix qx HS6.out.cells) _) _) ht1 hr1 (HTm.out 4 _ _ (by decide) (by decide)) rfl HV.out (by show V = Dd.ans _ V; simp [Dd.ans]) (by show false = Dd.did _ V; simp [Dd.did]); clear hr1 ht1 ho1)
        go_roundw
        case rel => exact ⟨_, by simp; omega, by simp, HS7.out⟩
        case measure => simp [intOf]; omega
      · by_cases ge : V = qx
        · have g1 : (V == qx) = true := by simpa using ge
          have Ge : Hid (V = qx) := ge
          clear ge
          go_wp2_with (at_builtin; refine wpList_apDd (B := x2.heap.size) (v := u8) (R := D) (r := ⟨max (1 + 4 * (D.length : Int) - qb) 1, 1 + 4 * (D.length : Int) + qe, 5, ix, qx, qc, 0, true⟩) (g := y6.heap.size + 1) rfl _ _ rfl rfl (HS6.out.row.keep (F := [cb]) ((((Turned.refl [cb] y6).set (by simp) ix (.int .i64 qc)).alloc _).alloc _) (fun g hg => by obtain ⟨cs, hc⟩ := HS6.out.row.type hg; simpa using tyne hc HS6.out.cells (by decide))) rfl (blk_newS2 (size_set y6 ⟨cb, ix, none⟩ (.int .i64 qc)) _ _) (by omega) (by have := HB.out; simp [World.setCell]; omega) ?_; intro v1 w1 hr1 ht1 ho1; have HS7 : Hid (OS x2 w1 tb cb v1 (D ++ [⟨max (1 + 4 * (D.length : Int) - qb) 1, 1 + 4 * (D.length : Int) + qe, 5, ix, qx, qc, 0, true⟩])) := HS6.out.grown (ix := ix) (old := V) ((((Turned.refl [cb] y6).set (by simp) ix (.int .i64 qc)).alloc _).alloc _) (by rw [show ((⟨max (1 + 4 * (D.length : Int) - qb) 1, 1 + 4 * (D.length : Int) + qe, 5, ix, qx, qc, 0, true⟩ : Dd)).next V = qc by simp [Dd.next, Ge.out]]; exact blk_old (blk_old (cObj_set _ hix qc HS6.out.cells) _) _) ht1 hr1 (HTm.out 5 _ _ (by decide) (by decide)) rfl HV.out (by show 0 = Dd.ans _ V; simp [Dd.ans]) (by show true = Dd.did _ V; simp [Dd.did, Ge.out]); clear hr1 ht1 ho1)
          go_roundw
          case rel => exact ⟨_, by simp; omega, by simp, HS7.out⟩
          case measure => simp [intOf]; omega
        · have g1 : (V == qx) = false := by simpa using ge
          have Ge : Hid (V ≠ qx) := ge
          clear ge
          go_wp2_with (at_builtin; refine wpList_apDd (B := x2.heap.size) (v := u8) (R := D) (r := ⟨max (1 + 4 * (D.length : Int) - qb) 1, 1 + 4 * (D.length : Int) + qe, 5, ix, qx, qc, 0, false⟩) (g := y6.heap.size + 1) rfl _ _ rfl rfl (HS6.out.row.keep (F := [cb]) (((Turned.refl [cb] y6).alloc _).alloc _) (fun g hg => by obtain ⟨cs, hc⟩ := HS6.out.row.type hg; simpa using tyne hc HS6.out.cells (by decide))) rfl (blk_new2 y6 _ _) (by omega) (by have := HB.out; simp; omega) ?_; intro v1 w1 hr1 ht1 ho1; have HS7 : Hid (OS x2 w1 tb cb v1 (D ++ [⟨max (1 + 4 * (D.length : Int) - qb) 1, 1 + 4 * (D.length : Int) + qe, 5, ix, qx, qc, 0, false⟩])) := HS6.out.grown (ix := ix) (old := V) (((Turned.refl [cb] y6).alloc _).alloc _) (by rw [show ((⟨max (1 + 4 * (D.length : Int) - qb) 1, 1 + 4 * (D.length : Int) + qe, 5, ix, qx, qc, 0, false⟩ : Dd)).next V = V by simp [Dd.next, Ge.out], HV.out, updV_self]; exact blk_old (blk_old HS6.out.cells _) _) ht1 hr1 (HTm.out 5 _ _ (by decide) (by decide)) rfl HV.out (by show 0 = Dd.ans _ V; simp [Dd.ans]) (by show false = Dd.did _ V; simp [Dd.did, Ge.out]); clear hr1 ht1 ho1)
          go_roundw
          case rel => exact ⟨_, by simp; omega, by simp, HS7.out⟩
          case measure => simp [intOf]; omega
      · go_wp2_with (at_builtin; refine wpList_apDd (B := x2.heap.size) (v := u8) (R := D) (r := ⟨max (1 + 4 * (D.length : Int) - qb) 1, 1 + 4 * (D.length : Int) + qe, 6, ix, qx, qc, (max V qx), false⟩) (g := y6.heap.size + 1) rfl _ _ rfl rfl (HS6.out.row.keep (F := [cb]) ((((Turned.refl [cb] y6).set (by simp) ix (.int .i64 (max V qx))).alloc _).alloc _) (fun g hg => by obtain ⟨cs, hc⟩ := HS6.out.row.type hg; simpa using tyne hc HS6.out.cells (by decide))) rfl (blk_newS2 (size_set y6 ⟨cb, ix, none⟩ (.int .i64 (max V qx))) _ _) (by omega) (by have := HB.out; simp [World.setCell]; omega) ?_; intro v1 w1 hr1 ht1 ho1; have HS7 : Hid (OS x2 w1 tb cb v1 (D ++ [⟨max (1 + 4 * (D.length : Int) - qb) 1, 1 + 4 * (D.length : Int) + qe, 6, ix, qx, qc, (max V qx), false⟩])) := HS6.out.grown (ix := ix) (old := V) ((((Turned.refl [cb] y6).set (by simp) ix (.int .i64 (max V qx))).alloc _).alloc _) (by rw [show ((⟨max (1 + 4 * (D.length : Int) - qb) 1, 1 + 4 * (D.length : Int) + qe, 6, ix, qx, qc, (max V qx), false⟩ : Dd)).next V = (max V qx) by simp [Dd.next]]; exact blk_old (blk_old (cObj_set _ hix (max V qx) HS6.out.cells) _) _) ht1 hr1 (HTm.out 6 _ _ (by decide) (by decide)) rfl HV.out (by show (max V qx) = Dd.ans _ V; simp [Dd.ans]) (by show false = Dd.did _ V; simp [Dd.did]); clear hr1 ht1 ho1)
        go_roundw
        case rel => exact ⟨_, by simp; omega, by simp, HS7.out⟩
        case measure => simp [intOf]; omega
      · go_wp2_with (at_builtin; refine wpList_apDd (B := x2.heap.size) (v := u8) (R := D) (r := ⟨max (1 + 4 * (D.length : Int) - qb) 1, 1 + 4 * (D.length : Int) + qe, 7, ix, qx, qc, (min V qx), false⟩) (g := y6.heap.size + 1) rfl _ _ rfl rfl (HS6.out.row.keep (F := [cb]) ((((Turned.refl [cb] y6).set (by simp) ix (.int .i64 (min V qx))).alloc _).alloc _) (fun g hg => by obtain ⟨cs, hc⟩ := HS6.out.row.type hg; simpa using tyne hc HS6.out.cells (by decide))) rfl (blk_newS2 (size_set y6 ⟨cb, ix, none⟩ (.int .i64 (min V qx))) _ _) (by omega) (by have := HB.out; simp [World.setCell]; omega) ?_; intro v1 w1 hr1 ht1 ho1; have HS7 : Hid (OS x2 w1 tb cb v1 (D ++ [⟨max (1 + 4 * (D.length : Int) - qb) 1, 1 + 4 * (D.length : Int) + qe, 7, ix, qx, qc, (min V qx), false⟩])) := HS6.out.grown (ix := ix) (old := V) ((((Turned.refl [cb] y6).set (by simp) ix (.int .i64 (min V qx))).alloc _).alloc _) (by rw [show ((⟨max (1 + 4 * (D.length : Int) - qb) 1, 1 + 4 * (D.length : Int) + qe, 7, ix, qx, qc, (min V qx), false⟩ : Dd)).next V = (min V qx) by simp [Dd.next]]; exact blk_old (blk_old (cObj_set _ hix (min V qx) HS6.out.cells) _) _) ht1 hr1 (HTm.out 7 _ _ (by decide) (by decide)) rfl HV.out (by show (min V qx) = Dd.ans _ V; simp [Dd.ans]) (by show false = Dd.did _ V; simp [Dd.did]); clear hr1 ht1 ho1)
        go_roundw
        case rel => exact ⟨_, by simp; omega, by simp, HS7.out⟩
        case measure => simp [intOf]; omega
    · have e : D.length = n := by omega
      subst e
      have hDl : D.length ≤ 64 := hn
      obtain ⟨ad, lc, rfl, hDs, hbd⟩ := HS.out.row.view
      have HDs : Hid (DsAt wr ad D) := hDs
      have HBd : Hid (∀ b o, ad = some ⟨b, o, none⟩ → b < wr.heap.size) := hbd
      have HChk : Hid (chkD 3 D = 0) := chk_run hDl HS.out.times
      have HCan : Hid (Can D (bitsP 0) (v0F [0, 5, 1])) := can_run HS.out.times HS.out.runs
      have HU : Hid (Turned [] x2 wr) := HS.out.tu
      clear hDs hbd HS
      go_wp2_with (fail)
      refine (cOrder (F := [0, 5, 1]) (iv_block (blk_new wr _) 3) (HDs.out.still ((Turned.refl [] wr).alloc _)) (by omega) (HT.out.1.keep (HU.out.alloc _) (by simp)) (by simp) (fun b o e => by have := HBd.out b o e; simp; omega)).mono ?_
      intro r z hp
      obtain ⟨os, v, rfl, hgo, hir⟩ := hp.can HChk.out HCan.out
      have HGo : Hid _ := hgo
      have HIr : Hid (IV z v (ints os)) := hir.view
      have HF : Hid (IV z (.slice (some ⟨wr.heap.size, 0, none⟩) 3 3) [0, 5, 1]) := (iv_block (l := [0, 5, 1]) (blk_new wr _) 3).still hp.tu
      have HD2 : Hid (DsAt z ad D) := (HDs.out.still ((Turned.refl [] wr).alloc _)).still hp.tu
      have HU2 : Hid (Turned [] x2 z) := (HU.out.alloc _).trans hp.tu
      have hol : (ints os).length ≤ 1000000 := by
        have h1 := goes_len hgo
        have h2 := outN_le D.length (bitsP 0)
        rw [List.length_map]
        omega
      obtain ⟨oa, oc, rfl⟩ := hir.form
      have HIr2 : Hid (IV z (.slice oa os.length oc) (ints os)) := by
        have h := HIr.out
        rw [show (ints os).length = os.length from List.length_map ..] at h
        exact h
      clear hgo hir hp HBd HDs HIr
      go_wp2_with (fail)
      refine (cFit (F := [0, 5, 1]) HF.out HD2.out HIr2.out (by simp) (by simp) (by omega) hol (chk_ok HChk.out).2.2.2).mono ?_
      rintro r z2 ⟨rfl, t2⟩
      rw [goes_fitGo HGo.out]
      have HU3 : Hid (Turned [] x2 z2) := HU2.out.trans t2
      clear t2
      go_wp2_with (fail)
      refine (cKnown (HT.out.1.keep HU3.out (by simp))).mono ?_
      rintro r z3 ⟨rfl, t3⟩
      have HU4 : Hid (Turned [] x2 z3) := HU3.out.trans t3
      clear t3
      go_wp2
      go_ret
      exact ⟨rfl, HU4.out⟩
end Go.Proofs.YtbielnehggcaoaaDoor
/-
  JudgeFits by contract. (By the verifier; no statement.)
-/
namespace Go.Proofs.YtbielnehggcaoaaDoor
open Go.RowKit
theorem not_fit {D : List Dd} {v : Int → Int} (h : ¬ Can D (bitsP 0) v) (os : List Int) : fitGo D (bitsP 0) v os = false := by
  cases hg : fitGo D (bitsP 0) v os with
  | false => rfl
  | true =>
    obtain ⟨l, -, g⟩ := fitGo_goes os _ _ hg
    exact absurd ⟨l, g⟩ h
set_option maxRecDepth 100000 in
set_option maxHeartbeats 12800000 in
theorem cJudgeFits {w : World} {D : List Dd} {F : List Int} {fv : Value} {ad : Option Addr} {n cap : Nat} (hF : F.length ≤ 256 → IV w fv F) (hfv : ∃ a c, fv = .slice a F.length c) (hD : n ≤ 64 → D.length = n ∧ DsAt w ad D ∧ ∀ b o, ad = some ⟨b, o, none⟩ → b < w.heap.size) (hT : Tab w) (hz : 0 < w.heap.size) : Calls Tryd.prog 4 #[fv, .slice ad n cap] w fun r w' => r = .returned (.bool true) ∧ Turned [] w w' := by
  have HT : Hid (Tab w ∧ 0 < w.heap.size) := ⟨hT, hz⟩
  have HF : Hid (F.length ≤ 256 → IV w fv F) := hF
  have HD : Hid (n ≤ 64 → D.length = n ∧ DsAt w ad D ∧ ∀ b o, ad = some ⟨b, o, none⟩ → b < w.heap.size) := hD
  obtain ⟨fa, fc, rfl⟩ := hfv
  clear hT hz hF hD
  go_enter Tryd.func4, Tryd.ntmps4
  go_wp2_with (fail)
  refine (cKnown HT.out.1).mono ?_
  rintro r x1 ⟨rfl, t1⟩
  have H1 : Hid (Turned [] w x1) := t1
  clear t1
  by_cases h1 : 64 < n
  · have d1 : decide ((64 : Int) < (n : Int)) = true := decide_eq_true (by omega)
    go_wp2
    go_ret
    exact ⟨rfl, H1.out⟩
  by_cases h2 : 256 < F.length
  · have d1 : decide ((64 : Int) < (n : Int)) = false := decide_eq_false (by omega)
    have d2 : decide ((256 : Int) < (F.length : Int)) = true := decide_eq_true (by omega)
    go_wp2
    go_ret
    exact ⟨rfl, H1.out⟩
  obtain ⟨rfl, hDs, hbd⟩ := HD.out (by omega)
  have d1 : decide ((64 : Int) < (D.length : Int)) = false := decide_eq_false (by omega)
  have d2 : decide ((256 : Int) < (F.length : Int)) = false := decide_eq_false (by omega)
  have HDs : Hid (DsAt w ad D) := hDs
  have HBd : Hid (∀ b o, ad = some ⟨b, o, none⟩ → b < w.heap.size) := hbd
  have HI : Hid (IV w (.slice fa F.length fc) F) := HF.out (by omega)
  clear hDs hbd HD HF
  go_wp2_with (fail)
  refine (cOrder (F := F) (HI.out.still H1.out) (HDs.out.still H1.out) (by omega) (HT.out.1.keep H1.out (by simp)) (Nat.lt_of_lt_of_le HT.out.2 H1.out.size) (fun b o e => Nat.lt_of_lt_of_le (HBd.out b o e) H1.out.size)).mono ?_
  intro r z hp
  have HU : Hid (Turned [] w z) := H1.out.trans hp.tu
  rcases hp.ans with ⟨hc, rfl⟩ | ⟨hc, ⟨os, v, rfl, hl, ho⟩ | ⟨rfl, hn⟩⟩
  · have d3 : (chkD F.length D != 0) = true := by simpa using hc
    clear hc hp
    generalize chkD F.length D = q at d3 ⊢
    go_wp2
    go_ret
    exact ⟨rfl, HU.out⟩
  · have HC : Hid (chkD F.length D = 0) := hc
    have hgo : Goes D (bitsP 0) (v0F F) os := hl.goes
    have hir : IR w.heap.size z v (ints os) := (show IR x1.heap.size z v (ints os) from ⟨by rw [List.length_map, List.map_map]; exact ho⟩).lower H1.out.size
    have HGo : Hid _ := hgo
    have hol : (ints os).length ≤ 1000000 := by
      have h1 := goes_len hgo
      have h2 := outN_le D.length (bitsP 0)
      rw [List.length_map]
      omega
    obtain ⟨oa, oc, rfl⟩ := hir.form
    have HIr2 : Hid (IV z (.slice oa os.length oc) (ints os)) := by
      have h := hir.view
      rw [show (ints os).length = os.length from List.length_map ..] at h
      exact h
    rw [show (ints os).length = os.length from List.length_map ..]
    clear hc hp hl ho hgo hir
    go_wp2_with (fail)
    refine (cFit (F := F) (HI.out.still HU.out) (HDs.out.still HU.out) HIr2.out (fun e => (chk_ok HC.out).1 (by rw [e]; rfl)) (by omega) (by omega) hol (chk_ok HC.out).2.2.2).mono ?_
    rintro r z2 ⟨rfl, t2⟩
    rw [goes_fitGo HGo.out]
    have HU3 : Hid (Turned [] w z2) := HU.out.trans t2
    clear t2
    go_wp2
    go_ret
    exact ⟨rfl, HU3.out⟩
  · have HC : Hid (chkD F.length D = 0) := hc
    have HN : Hid (∀ os, fitGo D (bitsP 0) (v0F F) os = false) := not_fit hn
    clear hc hp hn
    go_wp2_with (fail)
    refine (cBy (HDs.out.still HU.out) (by omega)).mono ?_
    rintro r z2 ⟨v2, o2, rfl, l2, r2, t2⟩
    have HU2 : Hid (Turned [] w z2) := HU.out.trans t2
    have HV2 : Hid (IV z2 v2 o2) := r2.view
    clear t2 r2
    go_wp2_with (fail)
    refine (cFit (F := F) (HI.out.still HU2.out) (HDs.out.still HU2.out) HV2.out (fun e => (chk_ok HC.out).1 (by rw [e]; rfl)) (by omega) (by omega) (by omega) (chk_ok HC.out).2.2.2).mono ?_
    rintro r z3 ⟨rfl, t3⟩
    rw [HN.out]
    have HU3 : Hid (Turned [] w z3) := HU2.out.trans t3
    clear t3 HU2 HV2 HU
    go_wp2_with (fail)
    refine (cBy (HDs.out.still HU3.out) (by omega)).mono ?_
    rintro r z4 ⟨v4, o4, rfl, l4, r4, t4⟩
    have HU4 : Hid (Turned [] w z4) := HU3.out.trans t4
    have HV4 : Hid (IV z4 v4 o4) := r4.view
    clear t4 r4
    go_wp2_with (fail)
    refine (cFit (F := F) (HI.out.still HU4.out) (HDs.out.still HU4.out) HV4.out (fun e => (chk_ok HC.out).1 (by rw [e]; rfl)) (by omega) (by omega) (by omega) (chk_ok HC.out).2.2.2).mono ?_
    rintro r z5 ⟨rfl, t5⟩
    rw [HN.out]
    have HU5 : Hid (Turned [] w z5) := HU4.out.trans t5
    clear t5
    go_wp2
    go_ret
    exact ⟨rfl, HU5.out⟩
end Go.Proofs.YtbielnehggcaoaaDoor

/-
  Plain mathematics of words, keys and parts; nothing of the program: the answers of the document as functions on integers, and what they do.
-/
import Derived.Laws.Bits64
import Derived.Test.YteflnccjhnmkpaaDoorJ24
namespace Go.Proofs.YteflnccjhnmkpaaDoor

def packV (i t : Int) : Int := if (0 ≤ i ∧ i ≤ 1048575) ∧ (0 ≤ t ∧ t ≤ 1099511627775) then i * 1099511627776 + t else 0
def packE (i t : Int) : Int := if 0 ≤ i ∧ i ≤ 1048575 then (if 0 ≤ t ∧ t ≤ 1099511627775 then 0 else 11) else 10
def idxV (w : Int) : Int := if 0 ≤ w ∧ w ≤ 1152921504606846975 then w / 1099511627776 else 0
def tagV (w : Int) : Int := if 0 ≤ w ∧ w ≤ 1152921504606846975 then w % 1099511627776 else 0
def nextV (w i : Int) : Int := if (0 ≤ i ∧ i ≤ 1048575) ∧ (0 ≤ w ∧ w ≤ 1152921504606846975) then i * 1099511627776 + (w % 1099511627776 + 1) % 1099511627776 else 0
def nextE (w i : Int) : Int := if 0 ≤ i ∧ i ≤ 1048575 then (if 0 ≤ w ∧ w ≤ 1152921504606846975 then 0 else 11) else 10

/- bit operations on integers of 64 bits that are not below 0 -/
theorem ofInt_i64 (a : Nat) (ha : a < 9223372036854775808) : (BitVec.ofInt 64 (a : Int)).toNat = a := by
  rw [BitVec.ofInt_natCast, BitVec.toNat_ofNat]; exact Nat.mod_eq_of_lt (by omega)
theorem wrapI64 (n : Int) (h0 : 0 ≤ n) (h : n < 9223372036854775808) : IntKind.i64.wrap n = n := by
  simp [IntKind.wrap, IntKind.bits, IntKind.signed]; omega
theorem i64_and_nat (a b : Nat) (ha : a < 9223372036854775808) (hb : b < 9223372036854775808) : bits .and .i64 (a : Int) (b : Int) = ((a &&& b : Nat) : Int) := by
  have hx : a &&& b ≤ a := Nat.and_le_left
  show IntKind.i64.wrap ((BitVec.ofInt 64 (a : Int) &&& BitVec.ofInt 64 (b : Int)).toNat : Int) = _
  rw [BitVec.toNat_and, ofInt_i64 a ha, ofInt_i64 b hb]
  exact wrapI64 _ (by omega) (by omega)
theorem i64_or_nat (a b : Nat) (ha : a < 9223372036854775808) (hb : b < 9223372036854775808) : bits .or .i64 (a : Int) (b : Int) = ((a ||| b : Nat) : Int) := by
  have hx : a ||| b < 2 ^ 63 := Nat.or_lt_two_pow (by omega) (by omega)
  show IntKind.i64.wrap ((BitVec.ofInt 64 (a : Int) ||| BitVec.ofInt 64 (b : Int)).toNat : Int) = _
  rw [BitVec.toNat_or, ofInt_i64 a ha, ofInt_i64 b hb]
  exact wrapI64 _ (by omega) (by omega)
theorem i64_xor_nat (a b : Nat) (ha : a < 9223372036854775808) (hb : b < 9223372036854775808) : bits .xor .i64 (a : Int) (b : Int) = ((a ^^^ b : Nat) : Int) := by
  have hx : a ^^^ b < 2 ^ 63 := Nat.xor_lt_two_pow (by omega) (by omega)
  show IntKind.i64.wrap ((BitVec.ofInt 64 (a : Int) ^^^ BitVec.ofInt 64 (b : Int)).toNat : Int) = _
  rw [BitVec.toNat_xor, ofInt_i64 a ha, ofInt_i64 b hb]
  exact wrapI64 _ (by omega) (by omega)
theorem i64_and_mask (a : Int) (k : Nat) (m : Int) (hm : m = 2 ^ k - 1) (hk : k < 63) (h0 : 0 ≤ a) (ha : a < 9223372036854775808) : bits .and .i64 a m = a % (m + 1) := by
  obtain ⟨A, rfl⟩ := Int.eq_ofNat_of_zero_le h0
  have h2 : 2 ^ k < 2 ^ 63 := Nat.pow_lt_pow_right (by omega) hk
  have h1 : 1 ≤ 2 ^ k := Nat.one_le_two_pow
  have e : m = ((2 ^ k - 1 : Nat) : Int) := by
    rw [hm]; push_cast [h1]; rfl
  rw [e, i64_and_nat A _ (by omega) (by omega), Nat.and_two_pow_sub_one_eq_mod]
  push_cast [h1]
  congr 1
  omega
theorem i64_or_join (i t : Int) (h0 : 0 ≤ i) (h1 : i ≤ 1048575) (h2 : 0 ≤ t) (h3 : t ≤ 1099511627775) : bits .or .i64 (i * 1099511627776) t = i * 1099511627776 + t := by
  obtain ⟨I, rfl⟩ := Int.eq_ofNat_of_zero_le h0
  obtain ⟨T, rfl⟩ := Int.eq_ofNat_of_zero_le h2
  have hT : T < 2 ^ 40 := by omega
  have e := Nat.two_pow_add_eq_or_of_lt hT I
  have e1 : ((I : Int) * 1099511627776) = ((2 ^ 40 * I : Nat) : Int) := by omega
  rw [e1, i64_or_nat _ _ (by omega) (by omega), ← e]
  omega
theorem i64_and_index (x : Int) (h0 : 0 ≤ x) (h1 : x ≤ 1152921504606846975) : bits .and .i64 (x / 1099511627776) 1048575 = x / 1099511627776 := by
  rw [i64_and_mask _ 20 1048575 (by decide) (by decide) (by omega) (by omega)]; omega
theorem i64_and_tag (x : Int) (h0 : 0 ≤ x) (h1 : x ≤ 1152921504606846976) : bits .and .i64 x 1099511627775 = x % 1099511627776 := by
  rw [i64_and_mask _ 40 1099511627775 (by decide) (by decide) (by omega) (by omega)]; omega
/- the answers, way by way -/
theorem pack_ok (i t : Int) (h0 : 0 ≤ i) (h1 : i ≤ 1048575) (h2 : 0 ≤ t) (h3 : t ≤ 1099511627775) : packV i t = i * 1099511627776 + t ∧ packE i t = 0 := by
  simp [packV, packE, h0, h1, h2, h3]
theorem pack_badI (i t : Int) (h : i < 0 ∨ 1048575 < i) : packV i t = 0 ∧ packE i t = 10 := by
  unfold packV packE; constructor
  · rw [if_neg (by omega)]
  · rw [if_neg (by omega)]
theorem pack_badT (i t : Int) (h0 : 0 ≤ i) (h1 : i ≤ 1048575) (h : t < 0 ∨ 1099511627775 < t) : packV i t = 0 ∧ packE i t = 11 := by
  unfold packV packE; constructor
  · rw [if_neg (by omega)]
  · rw [if_pos (by omega), if_neg (by omega)]
theorem idx_ok (x : Int) (h0 : 0 ≤ x) (h1 : x ≤ 1152921504606846975) : idxV x = x / 1099511627776 := by simp [idxV, h0, h1]
theorem idx_bad (x : Int) (h : x < 0 ∨ 1152921504606846975 < x) : idxV x = 0 := by unfold idxV; rw [if_neg (by omega)]
theorem tag_ok (x : Int) (h0 : 0 ≤ x) (h1 : x ≤ 1152921504606846975) : tagV x = x % 1099511627776 := by simp [tagV, h0, h1]
theorem tag_bad (x : Int) (h : x < 0 ∨ 1152921504606846975 < x) : tagV x = 0 := by unfold tagV; rw [if_neg (by omega)]
theorem next_ok (x i : Int) (h0 : 0 ≤ i) (h1 : i ≤ 1048575) (h2 : 0 ≤ x) (h3 : x ≤ 1152921504606846975) : nextV x i = i * 1099511627776 + (x % 1099511627776 + 1) % 1099511627776 ∧ nextE x i = 0 := by
  simp [nextV, nextE, h0, h1, h2, h3]
theorem next_badI (x i : Int) (h : i < 0 ∨ 1048575 < i) : nextV x i = 0 ∧ nextE x i = 10 := by
  unfold nextV nextE; constructor
  · rw [if_neg (by omega)]
  · rw [if_neg (by omega)]
theorem next_badW (x i : Int) (h0 : 0 ≤ i) (h1 : i ≤ 1048575) (h : x < 0 ∨ 1152921504606846975 < x) : nextV x i = 0 ∧ nextE x i = 11 := by
  unfold nextV nextE; constructor
  · rw [if_neg (by omega)]
  · rw [if_pos (by omega), if_neg (by omega)]
theorem ret_int {k : IntKind} {a b : Int} (h : a = b) : Ending.returned (.int k a) = .returned (.int k b) := by rw [h]
theorem ret_two {k l : IntKind} {a b c d : Int} (h : a = c) (g : b = d) : Ending.returned (.tuple #[.int k a, .int l b]) = .returned (.tuple #[.int k c, .int l d]) := by rw [h, g]
theorem ret_three {k l m : IntKind} {a b c d e f : Int} (h : a = d) (g : b = e) (i : c = f) : Ending.returned (.tuple #[.int k a, .int l b, .int m c]) = .returned (.tuple #[.int k d, .int l e, .int m f]) := by rw [h, g, i]
end Go.Proofs.YteflnccjhnmkpaaDoor
/-
  Numbers one behind the other; deeds that are gathered; by contract. (By the verifier; no statement.)
-/
namespace Go.Proofs.YteflnccjhnmkpaaDoor
open Go.RowKit
set_option maxHeartbeats 800000 in
theorem cPlace {k n : Int} (w : World) (hn : 0 < n) (hn2 : n ≤ 4000000000) : Calls Tryd.prog 26 #[.int .i64 k, .int .i64 n] w fun r w' => (∃ q : Int, r = .returned (.int .i64 q) ∧ 0 ≤ q ∧ q < n) ∧ w' = w := by
  have h1 : -n < Int.tmod k n := by
    have h := Int.tmod_lt_of_pos (-k) hn
    rw [Int.neg_tmod] at h
    omega
  have h2 : Int.tmod k n < n := Int.tmod_lt_of_pos k hn
  have h0 : n ≠ 0 := by omega
  by_cases g : Int.tmod k n < 0
  · have d1 : decide (Int.tmod k n < 0) = true := decide_eq_true g
    have e1 : wrap64 (Int.tmod k n) = Int.tmod k n := by unfold wrap64; omega
    have e2 : wrap64 (Int.tmod k n + n) = Int.tmod k n + n := by unfold wrap64; omega
    go_enter Tryd.func26, Tryd.ntmps26
    go_wp2
    go_ret
    exact ⟨⟨_, rfl, by omega, by omega⟩, rfl⟩
  · have d1 : decide (Int.tmod k n < 0) = false := decide_eq_false g
    have e1 : wrap64 (Int.tmod k n) = Int.tmod k n := by unfold wrap64; omega
    go_enter Tryd.func26, Tryd.ntmps26
    go_wp2
    go_ret
    exact ⟨⟨_, rfl, by omega, by omega⟩, rfl⟩
def tObj (x : Int) : Obj := .cells #[.int .i64 x] 60 (0, 0)
set_option maxHeartbeats 800000 in
theorem cNext {w : World} {tb : Nat} {x n : Int} (h : w.heap[tb]? = some (tObj x)) (hx : 0 ≤ x ∧ x < 2147483648) (hn : 0 < n) (hn2 : n ≤ 1000) : Calls Tryd.prog 28 #[.pointer (some ⟨tb, 0, none⟩), .int .i64 n] w fun r w' => ∃ q x' : Int, r = .returned (.int .i64 q) ∧ 0 ≤ q ∧ q < n ∧ 0 ≤ x' ∧ x' < 2147483648 ∧ w'.heap[tb]? = some (tObj x') ∧ Turned [tb] w w' := by
  have c0 : w.cell? ⟨tb, 0, none⟩ = some (.int .i64 x) := by rw [cell_at h]; rfl
  have f0 := froz_at h 0
  have hl := lt_of_heap h
  obtain ⟨x', hx'⟩ : ∃ x' : Int, x' = (x * 1103515 + 12345) % 2147483648 := ⟨_, rfl⟩
  have hb : 0 ≤ x' ∧ x' < 2147483648 := by omega
  have e1 : bits .and .i64 (x * 1103515 + 12345) 2147483647 = x' := by
    rw [i64_and_mask _ 31 2147483647 (by decide) (by decide) (by omega) (by omega), hx']
    rfl
  have H : Hid (w.heap[tb]? = some (tObj x)) := h
  have e3 : Int.tdiv x' 64 = x' / 64 := Int.tdiv_eq_ediv_of_nonneg hb.1
  have e4 : Int.tmod (x' / 64) n = (x' / 64) % n := Int.tmod_eq_emod_of_nonneg (by omega)
  have q1 : 0 ≤ (x' / 64) % n := Int.emod_nonneg _ (by omega)
  have q2 : (x' / 64) % n < n := Int.emod_lt_of_pos _ hn
  have h0 : n ≠ 0 := by omega
  clear h hx'
  go_enter Tryd.func28, Tryd.ntmps28
  go_wp2
  go_ret
  refine ⟨x' / 64 % n, x', ?_, q1, q2, hb.1, hb.2, ?_, ?_⟩
  · rfl
  · exact blk_set H.out 0 (.int .i64 x')
  · exact (Turned.refl [tb] w).set (by simp) 0 (.int .i64 x')
end Go.Proofs.YteflnccjhnmkpaaDoor
/-
  Deeds gathered in a row; the law's state. (By the verifier; no statement.)
-/
namespace Go.Proofs.YteflnccjhnmkpaaDoor
open Go.RowKit
theorem dcs_len (R : List Dd) : (R.flatMap dcs).length = R.length * 8 := by
  induction R with
  | nil => rfl
  | cons x l ih => rw [List.flatMap_cons, List.length_append, ih, List.length_cons]; simp only [List.length_cons, List.length_nil]; omega
/-- The slice v is the deeds R, in memory of its own from B on. -/
structure DR (B : Nat) (w : World) (v : Value) (R : List Dd) : Prop where
  own : w.ownsRow B 27 8 v R.length (R.flatMap dcs)
section
variable {B : Nat} {w w' : World} {v : Value} {R : List Dd}
theorem DR.nil (B : Nat) (w : World) : DR B w (.slice none 0 0) [] := ⟨World.ownsRow_nil _ _ _ _⟩
theorem DR.keep {F : List Nat} (h : DR B w v R) (ht : Turned F w w') (hF : ∀ g, v.ownBlock = some g → g ∉ F) : DR B w' v R := by
  refine ⟨h.own.1, ?_⟩
  rcases h.own.2 with h0 | ⟨g, c, cs, rfl, hb, hg, h3⟩
  · exact .inl h0
  · exact .inr ⟨g, c, cs, rfl, hb, ht.heap hg (hF g rfl), h3⟩
theorem DR.still (h : DR B w v R) (ht : Turned [] w w') : DR B w' v R := h.keep ht (by simp)
theorem DR.fresh (h : DR B w v R) {g : Nat} (hg : v.ownBlock = some g) : B ≤ g ∧ g < w.heap.size := h.own.lt g hg
theorem DR.type (h : DR B w v R) {g : Nat} (hg : v.ownBlock = some g) : ∃ cs, w.heap[g]? = some (.cells cs 27 (0, 0)) := by
  rcases h.own.2 with ⟨rfl, h0⟩ | ⟨g', c, cs, rfl, hb, hg', h3⟩
  · cases hg
  · cases hg; exact ⟨cs, hg'⟩
theorem DR.form (h : DR B w v R) : (v = .slice none 0 0 ∧ R = []) ∨ ∃ g c, v = .slice (some ⟨g, 0, none⟩) R.length c := by
  rcases h.own.2 with ⟨rfl, h0⟩ | ⟨g, c, cs, rfl, _⟩
  · exact .inl ⟨rfl, List.length_eq_zero_iff.1 h0⟩
  · exact .inr ⟨g, c, rfl⟩
theorem DR.somes {x : Dd} (h : DR B w v (R ++ [x])) : ∃ g c, v = .slice (some ⟨g, 0, none⟩) (R.length + 1) c := by
  rcases h.own.2 with ⟨_, e⟩ | ⟨g, c, cs, rfl, _⟩
  · simp at e
  · exact ⟨g, c, by simp⟩
theorem DR.view (h : DR B w v R) : ∃ ad c, v = .slice ad R.length c ∧ DsAt w ad R ∧ ∀ b o, ad = some ⟨b, o, none⟩ → b < w.heap.size := by
  rcases h.form with ⟨rfl, rfl⟩ | ⟨g, c, rfl⟩
  · exact ⟨none, 0, rfl, ⟨fun i d hd => by simp at hd⟩, fun b o e => by cases e⟩
  · obtain ⟨cs, hg⟩ := h.type (g := g) rfl
    refine ⟨_, c, rfl, ⟨fun i d hd => ?_⟩, fun b o e => by cases e; exact lt_of_heap hg⟩
    have hi := (List.getElem?_eq_some_iff.1 hd).1
    have f : ∀ j, j < 8 → w.cell? ⟨g, 0 + i * 8 + j, none⟩ = (dcs d)[j]? := fun j hj => by
      rw [show 0 + i * 8 + j = i * 8 + j by omega, h.own.cellAt _ (by omega)]
      have e : R = R.take i ++ d :: R.drop (i + 1) := by
        obtain ⟨_, rfl⟩ := List.getElem?_eq_some_iff.1 hd
        rw [← List.drop_eq_getElem_cons hi, List.take_append_drop]
      have hl : ((R.take i).flatMap dcs).length = i * 8 := by rw [dcs_len, List.length_take, Nat.min_eq_left (by omega)]
      conv => lhs; rw [e]
      rw [List.flatMap_append, List.flatMap_cons, List.getElem?_append_right (by omega), hl, show i * 8 + j - i * 8 = j by omega, List.getElem?_append_left (by simp only [List.length_cons, List.length_nil]; omega)]
    exact ⟨g, 0, rfl, lt_of_heap hg, f 0 (by omega), f 1 (by omega), f 2 (by omega), f 3 (by omega), f 4 (by omega), f 5 (by omega), f 6 (by omega), f 7 (by omega)⟩
end
theorem infoDd : (Tryd.prog.info? 27).map (fun i => (i.zero, i.size, i.bytes)) = some (some (.agg #[.int .i64 0, .int .i64 0, .int .i64 0, .int .i64 0, .int .i64 0, .int .i64 0, .int .i64 0, .bool false]), 8, 64) := by kernel_rfl
theorem undDds : Tryd.prog.underlying 23 = some (.slice 27) := by kernel_rfl
/-- 'append(list, d)'. -/
theorem wpList_apDd {w : World} {ops : Array Oper} {rest : List Oper} {o : Oper} {a : Act} {Q : Exit → Act → World → Prop} {B : Nat} {v : Value} {r : Dd} {R : List Dd} {g : Nat} (hgd : o.guard = none) (p q : Operand) (ho : o.op = .call { callee := .builtin .append, args := #[p, q], argTypes := #[23, 23] })
    (hs : a.eval p = v) (hR : DR B w v R) (hy : a.eval q = .slice (some ⟨g, 0, none⟩) 1 1) (hg : w.heap[g]? = some (.cells (dcs r).toArray 27 (0, 0))) (hm : R.length ≤ 1000000) (hB : B ≤ w.heap.size)
    (h : ∀ v' w', DR B w' v' (R ++ [r]) → Turned v.ownBlock.toList w w' → (v'.ownBlock = v.ownBlock ∨ v'.ownBlock = some w.heap.size) → wpList Tryd.prog ops Q rest (a.put o.dst v') w') : wpList Tryd.prog ops Q (o :: rest) a w := by
  obtain ⟨i, hi, hzz⟩ := Option.map_eq_some_iff.1 infoDd
  simp only [Prod.mk.injEq] at hzz
  obtain ⟨hz, hs1, hb⟩ := hzz
  refine wpList_plain hgd fun K hK => ?_
  obtain ⟨v', w', hrun, h2, h3, h4, h5⟩ := run_append_own_at (P := Tryd.prog) w B 23 o.type 27 i _ 8 64 undDds hi hz hs1 hb rfl (by decide) v R.length (R.flatMap dcs) hR.own ⟨g, 0, none⟩ 1 1 (dcs r) rfl (fun j u hj => by
    have hadd : (⟨g, 0, none⟩ : Addr).add j = ⟨g, j, none⟩ := by unfold Addr.add; split <;> simp_all
    rw [hadd, cell_at hg j, List.getElem?_toArray]
    exact hj) (fun u hu => by
      simp only [List.mem_cons, List.not_mem_nil, or_false] at hu
      rcases hu with rfl | rfl | rfl | rfl | rfl | rfl | rfl | rfl <;> rfl) (by unfold maxLen; omega) (by omega) hB
  unfold Oper.wp execOp
  simp only [ho, resolve, invoke, builtin, Sem.run_bind, Sem.run_pure, Result.andThen_ok, List.map_toArray, List.map_cons, List.map_nil, hs, hy, hrun]
  exact hK _ _ (h v' w' ⟨by rw [show (R ++ [r]).length = R.length + 1 by simp, show (R ++ [r]).flatMap dcs = R.flatMap dcs ++ dcs r by simp]; exact h2⟩ ⟨h3.os, h3.tape, h3.output, h3.size, fun k hk hn => h3.block k hk fun e => hn (by rw [← e]; simp)⟩ h5)
def cObj (v : Int → Int) : Obj := .cells #[.int .i64 (v 0), .int .i64 (v 1), .int .i64 (v 2)] 3 (0, 0)
/-- The law's state: the turner, the cells, the deeds so far. -/
structure OS (w x : World) (tb cb : Nat) (lv : Value) (D : List Dd) : Prop where
  tu : Turned [] w x
  base : w.heap.size ≤ tb ∧ w.heap.size ≤ cb
  turner : ∃ t : Int, 0 ≤ t ∧ t < 2147483648 ∧ x.heap[tb]? = some (tObj t)
  cells : x.heap[cb]? = some (cObj (runV (v0F [0, 5, 1]) D))
  row : DR w.heap.size x lv D
  times : ∀ i, i < D.length → Tm i (dAt D i)
  runs : okRun (v0F [0, 5, 1]) D
section
variable {w x : World} {tb cb : Nat} {lv : Value} {D : List Dd}
theorem OS.still {y : World} (h : OS w x tb cb lv D) (ht : Turned [] x y) : OS w y tb cb lv D := by
  obtain ⟨t, t0, t1, t2⟩ := h.turner
  exact ⟨h.tu.trans ht, h.base, ⟨t, t0, t1, ht.heap t2 (by simp)⟩, ht.heap h.cells (by simp), h.row.still ht, h.times, h.runs⟩
theorem OS.next {n : Int} (h : OS w x tb cb lv D) (hn : 0 < n) (hn2 : n ≤ 1000) : Calls Tryd.prog 28 #[.pointer (some ⟨tb, 0, none⟩), .int .i64 n] x fun r x' => ∃ q : Int, r = .returned (.int .i64 q) ∧ 0 ≤ q ∧ q < n ∧ OS w x' tb cb lv D := by
  obtain ⟨t, t0, t1, t2⟩ := h.turner
  refine (cNext t2 ⟨t0, t1⟩ hn hn2).mono ?_
  rintro r x' ⟨q, t', rfl, q0, q1, h0, h1, h2, ht⟩
  refine ⟨q, rfl, q0, q1, ⟨h.tu.inner ht (by simp; exact h.base.1), h.base, ⟨t', h0, h1, h2⟩, ht.heap h.cells (by simpa using (tyne t2 h.cells (by decide)).symm), h.row.keep ht fun g hg => ?_, h.times, h.runs⟩⟩
  obtain ⟨cs, hc⟩ := h.row.type hg
  simpa using tyne hc t2 (by decide)
/-- A deed more: what its cell becomes, and the row. -/
theorem OS.more {y : World} {lv' : Value} {d : Dd} {old : Int} (h : OS w x tb cb lv D) (hd : Tm D.length d) (ho : old = runV (v0F [0, 5, 1]) D d.a) (hn : d.n = d.ans old) (hk : d.ok = d.did old) (htu : Turned [] w y) (ht : ∃ t : Int, 0 ≤ t ∧ t < 2147483648 ∧ y.heap[tb]? = some (tObj t)) (hc : y.heap[cb]? = some (cObj (updV (runV (v0F [0, 5, 1]) D) d.a (d.next old)))) (hr : DR w.heap.size y lv' (D ++ [d])) : OS w y tb cb lv' (D ++ [d]) := by
  refine ⟨htu, h.base, ht, ?_, hr, fun i hi => ?_, okRun_append h.runs ?_⟩
  · rw [runV_append, ← ho]
    exact hc
  · rw [List.length_append] at hi
    simp only [List.length_cons, List.length_nil] at hi
    by_cases e : i < D.length
    · have e1 : dAt (D ++ [d]) i = dAt D i := by unfold dAt; simp [List.getElem?_append_left e]
      rw [e1]
      exact h.times i e
    · have e2 : i = D.length := by omega
      subst e2
      have e1 : dAt (D ++ [d]) D.length = d := by unfold dAt; simp
      rw [e1]
      exact hd
  · rw [← ho]
    unfold Dd.fits
    rw [hn, hk]
    simp
end
end Go.Proofs.YteflnccjhnmkpaaDoor

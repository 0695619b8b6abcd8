/- The first loop's statements. -/
import Derived.Test.YtogcjdbggihbpaaStmt
import Derived.BigRegion
namespace Go.Proofs.Ytogcjdbggihbpaa
open Go.RowKit Go.Conc Go.MuLone
structure PA where
  mb : Nat
  mo : Nat
  n : Nat
  mc : Nat
  la : Option Addr
  m : Nat
  lc : Nat
  z : Nat
/-- The slots that stay in the first loop. -/
structure FA (B : PA) (a : Act) : Prop where
  size : a.tmps.size = 369
  defers : a.defers = []
  s0 : a.eval (.tmp 0) = .slice (some ⟨B.mb, B.mo, none⟩) B.n B.mc
  s1 : a.eval (.tmp 1) = .slice B.la B.m B.lc
  s9 : a.eval (.tmp 9) = ptr B.z
theorem FA.lit {B : PA} {a : Act} (h : FA B a) : ∃ c : Nat → Value, a = ⟨litOf c, []⟩ ∧ c 0 = .slice (some ⟨B.mb, B.mo, none⟩) B.n B.mc ∧ c 1 = .slice B.la B.m B.lc ∧ c 9 = ptr B.z ∧ ∀ s, s < 369 → c s = a.eval (.tmp s) := by
  obtain ⟨c, hc, h2⟩ := expand h.size h.defers
  exact ⟨c, hc, (h2 0 (by omega)).trans h.s0, (h2 1 (by omega)).trans h.s1, (h2 9 (by omega)).trans h.s9, h2⟩
def pA : List Nat := [1, 1, 1, 1, 1, 1, 1, 0, 1, 0, 0]
section
variable {B : PA} {a : Act} {w : World} {K : Act → World → Prop} {Q : Exit → Act → World → Prop}
set_option maxRecDepth 100000 in
set_option maxHeartbeats 4000000 in
theorem a10lt {k : Nat} {v5 v6 v7 v8 v10 v11 v12 : Value} (F : FA B a) (e5 : a.eval (.tmp 5) = v5) (e6 : a.eval (.tmp 6) = v6) (e7 : a.eval (.tmp 7) = v7) (e8 : a.eval (.tmp 8) = v8) (e10 : a.eval (.tmp 10) = v10) (e11 : a.eval (.tmp 11) = v11) (e12 : a.eval (.tmp 12) = v12) (e13 : a.eval (.tmp 13) = .int .i64 k) (hk : k < B.n) (hK : ∀ a', FA B a' → a'.eval (.tmp 5) = v5 → a'.eval (.tmp 6) = v6 → a'.eval (.tmp 7) = v7 → a'.eval (.tmp 8) = v8 → a'.eval (.tmp 10) = v10 → a'.eval (.tmp 11) = v11 → a'.eval (.tmp 12) = v12 → a'.eval (.tmp 13) = .int .i64 k → K a' w) : (atc Try.f3.body (pA ++ [0])).wp Try.prog (Exit.then K Q) a w := by
  obtain ⟨c, rfl, h0, h1, h9, hc⟩ := F.lit
  have x5 : c 5 = v5 := (hc 5 (by omega)).trans e5
  have x6 : c 6 = v6 := (hc 6 (by omega)).trans e6
  have x7 : c 7 = v7 := (hc 7 (by omega)).trans e7
  have x8 : c 8 = v8 := (hc 8 (by omega)).trans e8
  have x10 : c 10 = v10 := (hc 10 (by omega)).trans e10
  have x11 : c 11 = v11 := (hc 11 (by omega)).trans e11
  have x12 : c 12 = v12 := (hc 12 (by omega)).trans e12
  have x13 : c 13 = .int .i64 k := (hc 13 (by omega)).trans e13
  clear hc e5 e6 e7 e8 e10 e11 e12 e13 F
  conv => arg 2; whnf
  unfold litOf
  simp only [h0, h1, h9, x5, x6, x7, x8, x10, x11, x12, x13]
  clear h0 h1 h9 x5 x6 x7 x8 x10 x11 x12 x13
  go_wp2
  exact hK _ ⟨rfl, rfl, rfl, rfl, rfl⟩ rfl rfl rfl rfl rfl rfl rfl rfl
set_option maxRecDepth 100000 in
set_option maxHeartbeats 4000000 in
theorem a10ge {k : Nat} {v5 v6 v7 v8 v10 v11 v12 : Value} (F : FA B a) (e5 : a.eval (.tmp 5) = v5) (e6 : a.eval (.tmp 6) = v6) (e7 : a.eval (.tmp 7) = v7) (e8 : a.eval (.tmp 8) = v8) (e10 : a.eval (.tmp 10) = v10) (e11 : a.eval (.tmp 11) = v11) (e12 : a.eval (.tmp 12) = v12) (e13 : a.eval (.tmp 13) = .int .i64 k) (hk : ¬ k < B.n) (hQ : ∀ a', FA B a' → a'.eval (.tmp 5) = v5 → a'.eval (.tmp 6) = v6 → a'.eval (.tmp 7) = v7 → a'.eval (.tmp 8) = v8 → a'.eval (.tmp 10) = v10 → a'.eval (.tmp 11) = v11 → a'.eval (.tmp 12) = v12 → Q (.exit 0) a' w) : (atc Try.f3.body (pA ++ [0])).wp Try.prog (Exit.then K Q) a w := by
  obtain ⟨c, rfl, h0, h1, h9, hc⟩ := F.lit
  have x5 : c 5 = v5 := (hc 5 (by omega)).trans e5
  have x6 : c 6 = v6 := (hc 6 (by omega)).trans e6
  have x7 : c 7 = v7 := (hc 7 (by omega)).trans e7
  have x8 : c 8 = v8 := (hc 8 (by omega)).trans e8
  have x10 : c 10 = v10 := (hc 10 (by omega)).trans e10
  have x11 : c 11 = v11 := (hc 11 (by omega)).trans e11
  have x12 : c 12 = v12 := (hc 12 (by omega)).trans e12
  have x13 : c 13 = .int .i64 k := (hc 13 (by omega)).trans e13
  clear hc e5 e6 e7 e8 e10 e11 e12 e13 F
  conv => arg 2; whnf
  unfold litOf
  simp only [h0, h1, h9, x5, x6, x7, x8, x10, x11, x12, x13]
  clear h0 h1 h9 x5 x6 x7 x8 x10 x11 x12 x13
  go_wp2
  exact hQ _ ⟨rfl, rfl, rfl, rfl, rfl⟩ rfl rfl rfl rfl rfl rfl rfl
set_option maxRecDepth 100000 in
set_option maxHeartbeats 4000000 in
theorem a11 {k : Nat} {v5 v6 v7 v8 v10 v11 v12 : Value} (F : FA B a) (e5 : a.eval (.tmp 5) = v5) (e6 : a.eval (.tmp 6) = v6) (e7 : a.eval (.tmp 7) = v7) (e8 : a.eval (.tmp 8) = v8) (e10 : a.eval (.tmp 10) = v10) (e11 : a.eval (.tmp 11) = v11) (e12 : a.eval (.tmp 12) = v12) (e13 : a.eval (.tmp 13) = .int .i64 k) (hk : k ≤ 30) (hK : ∀ a', FA B a' → a'.eval (.tmp 5) = v5 → a'.eval (.tmp 6) = v6 → a'.eval (.tmp 7) = v7 → a'.eval (.tmp 8) = v8 → a'.eval (.tmp 10) = v10 → a'.eval (.tmp 11) = v11 → a'.eval (.tmp 12) = v12 → a'.eval (.tmp 13) = .int .i64 (k + 1 : Nat) → K a' w) : (atc Try.f3.body (pA ++ [1, 1])).wp Try.prog (Exit.then K Q) a w := by
  obtain ⟨c, rfl, h0, h1, h9, hc⟩ := F.lit
  have x5 : c 5 = v5 := (hc 5 (by omega)).trans e5
  have x6 : c 6 = v6 := (hc 6 (by omega)).trans e6
  have x7 : c 7 = v7 := (hc 7 (by omega)).trans e7
  have x8 : c 8 = v8 := (hc 8 (by omega)).trans e8
  have x10 : c 10 = v10 := (hc 10 (by omega)).trans e10
  have x11 : c 11 = v11 := (hc 11 (by omega)).trans e11
  have x12 : c 12 = v12 := (hc 12 (by omega)).trans e12
  have x13 : c 13 = .int .i64 k := (hc 13 (by omega)).trans e13
  clear hc e5 e6 e7 e8 e10 e11 e12 e13 F
  conv => arg 2; whnf
  unfold litOf
  simp only [h0, h1, h9, x5, x6, x7, x8, x10, x11, x12, x13]
  clear h0 h1 h9 x5 x6 x7 x8 x10 x11 x12 x13
  go_wp2
  exact hK _ ⟨rfl, rfl, rfl, rfl, rfl⟩ rfl rfl rfl rfl rfl rfl rfl rfl
set_option maxRecDepth 100000 in
set_option maxHeartbeats 4000000 in
theorem a12 {k : Nat} {v5 v6 v7 v8 v10 v11 v12 : Value} {Fk Vk : Int} {Lk : Bool} {W : World} {e : Nat → Nat → Nat} {ob : Nat → Nat → Obj} {vs : Nat → Value} {xs : Nat → List Value} (F : FA B a) (e5 : a.eval (.tmp 5) = v5) (e6 : a.eval (.tmp 6) = v6) (e7 : a.eval (.tmp 7) = v7) (e8 : a.eval (.tmp 8) = v8) (e10 : a.eval (.tmp 10) = v10) (e11 : a.eval (.tmp 11) = v11) (e12 : a.eval (.tmp 12) = v12) (e13 : a.eval (.tmp 13) = .int .i64 k) (hk : k < B.n) (d1 : w.cell? ⟨B.mb, B.mo + k * 3, none⟩ = some (.int .i64 Fk)) (d2 : w.cell? ⟨B.mb, B.mo + k * 3 + 1, none⟩ = some (.bool Lk)) (d3 : w.cell? ⟨B.mb, B.mo + k * 3 + 2, none⟩ = some (.int .i64 Vk)) (hl1 : B.mb < w.heap.size) (HM : Hid (Mid W (B.z + 1) B.z (vs 2) w k 0 e ob vs xs)) (hK : ∀ a' w' s14 s15 s16, FA B a' → a'.eval (.tmp 5) = v5 → a'.eval (.tmp 6) = v6 → a'.eval (.tmp 7) = v7 → a'.eval (.tmp 8) = v8 → a'.eval (.tmp 10) = v10 → a'.eval (.tmp 11) = v11 → a'.eval (.tmp 12) = v12 → a'.eval (.tmp 13) = .int .i64 k → a'.eval (.tmp 14) = s14 → a'.eval (.tmp 15) = s15 → a'.eval (.tmp 16) = s16 → P3 W B.z w' k e ob vs xs (oneObj Fk Lk Vk 0) s14 s15 s16 → K a' w') : (atc Try.f3.body (pA ++ [1, 0, 0, 0])).wp Try.prog (Exit.then K Q) a w := by
  obtain ⟨c, rfl, h0, h1, h9, hc⟩ := F.lit
  have x5 : c 5 = v5 := (hc 5 (by omega)).trans e5
  have x6 : c 6 = v6 := (hc 6 (by omega)).trans e6
  have x7 : c 7 = v7 := (hc 7 (by omega)).trans e7
  have x8 : c 8 = v8 := (hc 8 (by omega)).trans e8
  have x10 : c 10 = v10 := (hc 10 (by omega)).trans e10
  have x11 : c 11 = v11 := (hc 11 (by omega)).trans e11
  have x12 : c 12 = v12 := (hc 12 (by omega)).trans e12
  have x13 : c 13 = .int .i64 k := (hc 13 (by omega)).trans e13
  clear hc e5 e6 e7 e8 e10 e11 e12 e13 F
  conv => arg 2; whnf
  unfold litOf
  simp only [h0, h1, h9, x5, x6, x7, x8, x10, x11, x12, x13]
  clear h0 h1 h9 x5 x6 x7 x8 x10 x11 x12 x13
  have hK' : Hid _ := hK
  clear hK
  refine wp_mono (Q := Exit.then K (fun _ _ _ => False)) ?_ (fun e a w h => by cases e <;> first | exact h | exact h.elim)
  go_region
  all_goals
    go_wp2
    refine hK'.out _ _ _ _ _ ⟨rfl, rfl, rfl, rfl, rfl⟩ rfl rfl rfl rfl rfl rfl rfl rfl rfl rfl rfl (p3_start HM.out _ _ _ rfl rfl rfl ?_ ?_ ?_ ?_ ?_ ?_) <;> omega
set_option maxRecDepth 100000 in
set_option maxHeartbeats 4000000 in
theorem a14 {k x y t : Nat} {u7 u8 : Value} {W wr : World} {e : Nat → Nat → Nat} {ob : Nat → Nat → Obj} {vs : Nat → Value} {xs : Nat → List Value} {F : Nat → Int} {L : Nat → Bool} {V : Nat → Int} (FF : FA B a) (e5 : a.eval (.tmp 5) = vs 3) (e6 : a.eval (.tmp 6) = vs 4) (e7 : a.eval (.tmp 7) = u7) (e8 : a.eval (.tmp 8) = u8) (e10 : a.eval (.tmp 10) = vs 5) (e11 : a.eval (.tmp 11) = vs 6) (e12 : a.eval (.tmp 12) = vs 7) (e13 : a.eval (.tmp 13) = .int .i64 k) (e14 : a.eval (.tmp 14) = ptr x) (e15 : a.eval (.tmp 15) = ptr y) (hk : k < B.n) (hn : B.n ≤ 30) (HH : Hid (Head W (B.z + 1) B.z wr k F L V e ob vs xs)) (HP : Hid (P13 W B.z w k e ob vs xs (upd (upd (upd (fun s => e s k) 0 x) 1 y) 2 t) (upd (upd (upd (fun s => ob s k) 0 (oneObj (F k) (L k) (V k) 0)) 1 (oneObj (F k) (L k) (V k) 0)) 2 (oneObj (F k) (L k) (V k) 0)) x y t u7 u8)) (HK3 : Hid (∀ wx : World, Below W.heap.size W wx → wx.cell? ⟨B.mb, B.mo + k * 3, none⟩ = some (.int .i64 (F k)) ∧ wx.cell? ⟨B.mb, B.mo + k * 3 + 1, none⟩ = some (.bool (L k)) ∧ wx.cell? ⟨B.mb, B.mo + k * 3 + 2, none⟩ = some (.int .i64 (V k)))) (hK : ∀ a' w' n5 n6 n10 n11 n12, FA B a' → a'.eval (.tmp 5) = n5 → a'.eval (.tmp 6) = n6 → a'.eval (.tmp 7) = u7 → a'.eval (.tmp 8) = u8 → a'.eval (.tmp 10) = n10 → a'.eval (.tmp 11) = n11 → a'.eval (.tmp 12) = n12 → a'.eval (.tmp 13) = .int .i64 k → HeadAt W B.z w' (k + 1) F L V n5 n6 u7 u8 n10 n11 n12 → K a' w') : (atc Try.f3.body (pA ++ [1, 0, 0, 1, 1])).wp Try.prog (Exit.then K Q) a w := by
  obtain ⟨c, rfl, h0, h1, h9, hc⟩ := FF.lit
  have x5 : c 5 = vs 3 := (hc 5 (by omega)).trans e5
  have x6 : c 6 = vs 4 := (hc 6 (by omega)).trans e6
  have x7 : c 7 = u7 := (hc 7 (by omega)).trans e7
  have x8 : c 8 = u8 := (hc 8 (by omega)).trans e8
  have x10 : c 10 = vs 5 := (hc 10 (by omega)).trans e10
  have x11 : c 11 = vs 6 := (hc 11 (by omega)).trans e11
  have x12 : c 12 = vs 7 := (hc 12 (by omega)).trans e12
  have x13 : c 13 = .int .i64 k := (hc 13 (by omega)).trans e13
  have x14 : c 14 = ptr x := (hc 14 (by omega)).trans e14
  have x15 : c 15 = ptr y := (hc 15 (by omega)).trans e15
  clear hc e5 e6 e7 e8 e10 e11 e12 e13 e14 e15 FF
  conv => arg 2; whnf
  unfold litOf
  simp only [h0, h1, h9, x5, x6, x7, x8, x10, x11, x12, x13, x14, x15]
  clear h0 h1 h9 x5 x6 x7 x8 x10 x11 x12 x13 x14 x15
  have hK' : Hid _ := hK
  have L3 : Hid _ := HH.out.len (t := 3) (by omega)
  have L4 : Hid _ := HH.out.len (t := 4) (by omega)
  have L5 : Hid _ := HH.out.len (t := 5) (by omega)
  have L6 : Hid _ := HH.out.len (t := 6) (by omega)
  have L7 : Hid _ := HH.out.len (t := 7) (by omega)
  obtain ⟨v2, hM3⟩ := HP.out
  have H3 : Hid _ := hM3
  have hzc : B.z < w.heap.size := lt_of_heap hM3.box
  clear hM3 hK HP
  go_wp2_with (first
    | (go_at_call_of 7 (ptr x); refine (cMaker _ _).mono ?_; rintro e' w' ⟨rfl, rfl⟩)
    | (go_at_call_of 7 (ptr y); refine (cMaker _ _).mono ?_; rintro e' w' ⟨rfl, rfl⟩)
    | (go_at_call 6; refine (cNewOnce _ _ _).mono ?_; rintro e' w' ⟨rfl, rfl⟩)
    | (go_at_call 8; refine (cNewRetry _ _ _).mono ?_; rintro e' w' ⟨rfl, rfl⟩)
    | (at_builtin; refine wpList_push rfl _ _ 25 rfl (B.z + 1) 34 (.pointer none) 8 Try.underlying25 Try.info34 rfl (vs 3) k (xs 3) rfl ((((H3.out.next' (pbox x) w.heap.size rfl).next' (onceObj 0 0 (mk32 w.heap.size) 0 0 0) (w.heap.size + 1) (by simp)).alloc _).row' 3 L3.out) ⟨_, 0, none⟩ 1 (ptr (w.heap.size + 1)) rfl (by repeat (first | exact cnew _ _ _ _ (by simp) | refine cold ?_)) rfl (by unfold maxLen; omega) (by omega) (by simp; omega) ?_; intro v3 q3 ho3 hg3; have H4 : Hid _ := (((H3.out.next' (pbox x) w.heap.size rfl).next' (onceObj 0 0 (mk32 w.heap.size) 0 0 0) (w.heap.size + 1) (by simp)).alloc _).push' 3 L3.out ho3 hg3; obtain ⟨e1q3, e2q3, e3q3⟩ := HK3.out _ H4.out.below; have hzq3 : B.z < q3.heap.size := lt_of_heap H4.out.box)
    | (at_builtin; refine wpList_push rfl _ _ 26 rfl (B.z + 1) 38 (.pointer none) 8 Try.underlying26 Try.info38 rfl (vs 4) k (xs 4) rfl ((((H4.out.next' (pbox y) q3.heap.size rfl).next' (retryObj 0 (mk32 q3.heap.size) none) (q3.heap.size + 1) (by simp)).alloc _).row' 4 L4.out) ⟨_, 0, none⟩ 1 (ptr (q3.heap.size + 1)) rfl (by repeat (first | exact cnew _ _ _ _ (by simp) | refine cold ?_)) rfl (by unfold maxLen; omega) (by omega) (by simp; omega) ?_; intro v4 q4 ho4 hg4; have H6 : Hid _ := (((H4.out.next' (pbox y) q3.heap.size rfl).next' (retryObj 0 (mk32 q3.heap.size) none) (q3.heap.size + 1) (by simp)).alloc _).push' 4 L4.out ho4 hg4; obtain ⟨e1q4, e2q4, e3q4⟩ := HK3.out _ H6.out.below; have hzq4 : B.z < q4.heap.size := lt_of_heap H6.out.box)
    | (at_builtin; refine wpList_push rfl _ _ 28 rfl (B.z + 1) 40 (.pointer none) 8 Try.underlying28 Try.info40 rfl (vs 5) k (xs 5) rfl (((H6.out.next' (cellObj (F k) (L k) (V k) true 0 false false 0 0) q4.heap.size rfl).alloc _).row' 5 L5.out) ⟨_, 0, none⟩ 1 (ptr q4.heap.size) rfl (by repeat (first | exact cnew _ _ _ _ (by simp) | refine cold ?_)) rfl (by unfold maxLen; omega) (by omega) (by simp; omega) ?_; intro v5 q5 ho5 hg5; have H7 : Hid _ := ((H6.out.next' (cellObj (F k) (L k) (V k) true 0 false false 0 0) q4.heap.size rfl).alloc _).push' 5 L5.out ho5 hg5; obtain ⟨e1q5, e2q5, e3q5⟩ := HK3.out _ H7.out.below; have hzq5 : B.z < q5.heap.size := lt_of_heap H7.out.box)
    | (at_builtin; refine wpList_push rfl _ _ 28 rfl (B.z + 1) 40 (.pointer none) 8 Try.underlying28 Try.info40 rfl (vs 6) k (xs 6) rfl (((H7.out.next' (cellObj (F k) (L k) (V k) false 0 false false 0 0) q5.heap.size rfl).alloc _).row' 6 L6.out) ⟨_, 0, none⟩ 1 (ptr q5.heap.size) rfl (by repeat (first | exact cnew _ _ _ _ (by simp) | refine cold ?_)) rfl (by unfold maxLen; omega) (by omega) (by simp; omega) ?_; intro v6 q6 ho6 hg6; have H8 : Hid _ := ((H7.out.next' (cellObj (F k) (L k) (V k) false 0 false false 0 0) q5.heap.size rfl).alloc _).push' 6 L6.out ho6 hg6; obtain ⟨e1q6, e2q6, e3q6⟩ := HK3.out _ H8.out.below; have hzq6 : B.z < q6.heap.size := lt_of_heap H8.out.box)
    | (at_builtin; refine wpList_push rfl _ _ 28 rfl (B.z + 1) 40 (.pointer none) 8 Try.underlying28 Try.info40 rfl (vs 7) k (xs 7) rfl (((H8.out.next' (cellObj (F k) (L k) (V k) true 0 false false 0 0) q6.heap.size rfl).alloc _).row' 7 L7.out) ⟨_, 0, none⟩ 1 (ptr q6.heap.size) rfl (by repeat (first | exact cnew _ _ _ _ (by simp) | refine cold ?_)) rfl (by unfold maxLen; omega) (by omega) (by simp; omega) ?_; intro v7 q7 ho7 hg7; have H9 : Hid _ := ((H8.out.next' (cellObj (F k) (L k) (V k) true 0 false false 0 0) q6.heap.size rfl).alloc _).push' 7 L7.out ho7 hg7))
  have HX := HH.out.next' H9.out rfl
  refine hK'.out _ _ _ _ _ _ _ ⟨rfl, rfl, rfl, rfl, rfl⟩ rfl rfl rfl rfl rfl rfl rfl rfl ⟨_, _, _, _, ?_, ?_, ?_, ?_, ?_, ?_, ?_, HX ?_ ?_⟩
  all_goals first
    | rfl
    | exact ⟨rfl, rfl, rfl, rfl, rfl, rfl, rfl, rfl, rfl, rfl⟩
    | (intro r hr
       rcases (by omega : r = 0 ∨ r = 1 ∨ r = 2 ∨ r = 3 ∨ r = 4 ∨ r = 5 ∨ r = 6 ∨ r = 7) with rfl | rfl | rfl | rfl | rfl | rfl | rfl | rfl <;> rfl)
end
end Go.Proofs.Ytogcjdbggihbpaa

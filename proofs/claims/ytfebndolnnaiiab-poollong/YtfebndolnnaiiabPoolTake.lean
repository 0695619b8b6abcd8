/- Package pool's Take and Give, by contract. -/
import Derived.Test.YtfebndolnnaiiabPoolTold
namespace Go.Proofs.Ytfebndolnnaiiab
open Go.RowKit
def lit60 (c : Nat → Value) : Array Value := #[c 0, c 1, c 2, c 3, c 4, c 5, c 6, c 7, c 8, c 9, c 10, c 11, c 12, c 13, c 14, c 15, c 16, c 17, c 18, c 19, c 20, c 21, c 22, c 23, c 24, c 25, c 26, c 27, c 28, c 29, c 30, c 31, c 32, c 33, c 34, c 35, c 36, c 37, c 38, c 39, c 40, c 41, c 42, c 43, c 44, c 45, c 46, c 47, c 48, c 49, c 50, c 51, c 52, c 53, c 54, c 55, c 56, c 57, c 58, c 59]
set_option maxRecDepth 100000 in
theorem lit60_eq (c : Nat → Value) : lit60 c = ((List.range 60).map c).toArray := by rfl
theorem expand60 {a : Act} (hs : a.tmps.size = 60) (hd : a.defers = []) : ∃ c : Nat → Value, a = ⟨lit60 c, []⟩ ∧ ∀ s, c s = a.eval (.tmp s) := by
  refine ⟨fun s => a.tmps.getD s undef, ?_, fun s => rfl⟩
  obtain ⟨t, d⟩ := a
  simp only at hs hd
  subst hd
  congr 1
  rw [lit60_eq]
  refine Array.ext (by simp [hs]) fun i h1 h2 => ?_
  simp [Array.getD, h1]
def lit57 (c : Nat → Value) : Array Value := #[c 0, c 1, c 2, c 3, c 4, c 5, c 6, c 7, c 8, c 9, c 10, c 11, c 12, c 13, c 14, c 15, c 16, c 17, c 18, c 19, c 20, c 21, c 22, c 23, c 24, c 25, c 26, c 27, c 28, c 29, c 30, c 31, c 32, c 33, c 34, c 35, c 36, c 37, c 38, c 39, c 40, c 41, c 42, c 43, c 44, c 45, c 46, c 47, c 48, c 49, c 50, c 51, c 52, c 53, c 54, c 55, c 56]
set_option maxRecDepth 100000 in
theorem lit57_eq (c : Nat → Value) : lit57 c = ((List.range 57).map c).toArray := by rfl
theorem expand57 {a : Act} (hs : a.tmps.size = 57) (hd : a.defers = []) : ∃ c : Nat → Value, a = ⟨lit57 c, []⟩ ∧ ∀ s, c s = a.eval (.tmp s) := by
  refine ⟨fun s => a.tmps.getD s undef, ?_, fun s => rfl⟩
  obtain ⟨t, d⟩ := a
  simp only at hs hd
  subst hd
  congr 1
  rw [lit57_eq]
  refine Array.ext (by simp [hs]) fun i h1 h2 => ?_
  simp [Array.getD, h1]
theorem ev_same {a a' : Act} {s : Nat} (h : a'.tmps[s]? = a.tmps[s]?) : a'.eval (.tmp s) = a.eval (.tmp s) := by
  simp only [Act.eval, Array.getD_eq_getD_getElem?, h]
theorem run_poolField (w : World) (b : Nat) : (Instr.fieldAt 63 (pv b 0) 0).run Try.prog w = .ok (pv b 0) w := by
  unfold pv
  go_simp
theorem run_loadSlots {w : World} {p sb pb n : Nat} {fa : Int} (h : w.heap[p]? = some (poolObj sb pb n fa)) : (Instr.loadAt 56 (pv p 0)).run Try.prog w = .ok (.slice (some ⟨sb, 0, none⟩) (n + 1) (n + 1)) w := by
  have c0 := cell_at h 0
  simp at c0
  unfold pv
  go_simp
theorem run_indexSlots (w : World) (sb n i : Nat) (h : i ≤ n) : (Instr.indexAt 56 (.slice (some ⟨sb, 0, none⟩) (n + 1) (n + 1)) (.int .i64 i)).run Try.prog w = .ok (pv sb i) w := by
  have hlt : (i : Int) < (n : Int) + 1 := by omega
  unfold pv
  go_simp
theorem run_loadNode {w : World} {b : Nat} {a e c d : Int} (h : w.heap[b]? = some (nodeObj a e c d)) : (Instr.loadAt 31 (pv b 0)).run Try.prog w = .ok (.agg #[.int .i64 a, .int .i64 e, .int .i64 c, .int .i64 d]) w := by
  have n0 := cell_at h 0
  have n1 := cell_at h 1
  have n2 := cell_at h 2
  have n3 := cell_at h 3
  simp at n0 n1 n2 n3
  unfold pv
  go_simp
theorem x_add1 {ρ : Operand → Value} {o : Oper} {w : World} {x y : Operand} {t : TypeId} {a : Int} (h : o.op = .binOp .add 3 x y t) (hx : ρ x = .int .i64 a) (hy : ρ y = .int .i64 1) (h0 : 0 ≤ a) (h1 : a ≤ 1099511627774) : (execOp ρ o).run Try.prog w = .ok (.value (.int .i64 (a + 1))) w := by
  have hw : IntKind.i64.wrap (a + 1) = a + 1 := by simp [IntKind.wrap, IntKind.bits, IntKind.signed]; omega
  refine x_bin h hx hy (by simp [eqGuard]) ?_
  simp [binOp, Op.intArith, hw]
section
variable {w : World} {p sb pb nb : Nat} {L : Nat → Nat} {s : PSt} {i : Nat} {g : Int}
/-- What a slot's new life, and its lead there, leave. -/
def ledW (w : World) (sb i : Nat) (gen a b c d mark link : Int) : World := (lifeW w gen a b c d mark link).setCell ⟨sb, i, none⟩ (.pointer (some ⟨w.heap.size + 1, 0, none⟩))
theorem PA.led (h : PA w p sb pb nb L s) (hi : i ≤ s.n) (gen a b c d mark link : Int) : PA (ledW w sb i gen a b c d mark link) p sb pb nb (upd L i (w.heap.size + 1)) { s with slot := upd s.slot i ⟨gen, mark, link, a, b, c, d⟩ } :=
  (h.keep (lifeW_turned [] w gen a b c d mark link) (by simp)).lead hi (lifeW_new w gen a b c d mark link) (fun k hk => by have := lt_of_heap (h.life k hk); omega)
theorem ledW_turned {l : List Nat} (hl : sb ∈ l) (w : World) (i : Nat) (gen a b c d mark link : Int) : Turned l w (ledW w sb i gen a b c d mark link) := (lifeW_turned l w gen a b c d mark link).set (.inl hl) _ _
theorem cLed (h : PA w p sb pb nb L s) (hi : i ≤ s.n) (gen a b c d mark link : Int) : Calls Try.prog 22 #[pv sb i, pv (L i) 0, pv (w.heap.size + 1) 0] (lifeW w gen a b c d mark link) fun e w' => e = .returned (.bool true) ∧ w' = ledW w sb i gen a b c d mark link := by
  have h1 := h.keep (lifeW_turned [] w gen a b c d mark link) (by simp)
  exact cPCas (ptr_cell h1.slots hi) (froz_at h1.slots i) (h1.life i hi) rfl (lifeW_new w gen a b c d mark link) rfl
set_option maxHeartbeats 800000 in
theorem cPTakeFull (h : PA w p sb pb nb L s) (hi : idxV s.h = 0) (a b c d link : Int) :
    Calls Try.prog 8 #[.pointer (some ⟨p, 0, none⟩), .pointer none, .agg #[.int .i64 a, .int .i64 b, .int .i64 c, .int .i64 d], .int .i64 link] w fun e w' => e = .returned (.tuple #[.int .i64 0, .int .i64 102]) ∧ Turned [] w w' ∧ PA w' p sb pb nb L s := by
  have hA := h.alloc (.cells #[.int .i64 a, .int .i64 b, .int .i64 c, .int .i64 d] 31)
  have c1 := cell_at h.pool 1
  simp at c1
  have hpl := lt_of_heap h.pool
  have hne : ¬ p = w.heap.size := by omega
  go_enter Try.func8, Try.ntmps8
  go_wp2_with (go_at_call 20; refine (cPopEmpty hA.pile.head hi).mono ?_; rintro e w' ⟨rfl, hw⟩; obtain rfl := hw.symm)
  go_ret2
  exact ⟨rfl, (Turned.refl _ _).alloc _, hA⟩
set_option maxRecDepth 100000 in
set_option maxHeartbeats 1600000 in
theorem cPTake (h : PA w p sb pb nb L s) (ho : s.Ok) (hi : idxV s.h = i) (h0 : i ≠ 0) (hg0 : 0 ≤ (s.slot i).gen) (hg1 : (s.slot i).gen ≤ 1099511627774) (a b c d link : Int) :
    Calls Try.prog 8 #[.pointer (some ⟨p, 0, none⟩), .pointer none, .agg #[.int .i64 a, .int .i64 b, .int .i64 c, .int .i64 d], .int .i64 link] w fun e w' => e = .returned (.tuple #[.int .i64 (hnd i ((s.slot i).gen + 1)), .int .i64 0]) ∧ Turned (blocks p sb pb nb L s.n) w w' ∧ ∃ b', w.heap.size ≤ b' ∧ PA w' p sb pb nb (upd L i b') (s.take i a b c d link) := by
  have hA := h.alloc (.cells #[.int .i64 a, .int .i64 b, .int .i64 c, .int .i64 d] 31)
  have hin : i ≤ s.n := by have := ho.top; omega
  have hn2 := ho.n2
  have hB := hA.pop (nextV s.h (s.f i))
  have c1 := cell_at h.pool 1
  simp at c1
  have hpl := lt_of_heap h.pool
  have hne : ¬ p = w.heap.size := by omega
  have hlt : (i : Int) < (s.n : Int) + 1 := by omega
  have hN : ((w.alloc (.cells #[.int .i64 a, .int .i64 b, .int .i64 c, .int .i64 d] 31)).setCell ⟨pb, 0, none⟩ (.int .i64 (nextV s.h (s.f i)))).heap[w.heap.size]? = some (nodeObj a b c d) := by
    have := lt_of_heap h.pile.head
    rw [blk_other (by omega)]
    exact blk_new w _
  have hT : Turned (blocks p sb pb nb L s.n) w ((w.alloc (.cells #[.int .i64 a, .int .i64 b, .int .i64 c, .int .i64 d] 31)).setCell ⟨pb, 0, none⟩ (.int .i64 (nextV s.h (s.f i)))) := ((Turned.refl _ _).alloc _).set (.inl (by simp [blocks])) _ _
  have HPk := fun w => cPack i ((s.slot i).gen + 1) w
  rw [(pack_ok i ((s.slot i).gen + 1) (by omega) (by omega) (by omega) (by omega)).1, (pack_ok i ((s.slot i).gen + 1) (by omega) (by omega) (by omega) (by omega)).2] at HPk
  go_enter Try.func8, Try.ntmps8
  go_wp2_with (go_at_call 20; refine (cPop hA.pile hi h0 hin).mono ?_; rintro e w' ⟨rfl, rfl⟩)
  refine wp_loop_once ?_
  generalize ((w.alloc (.cells #[.int .i64 a, .int .i64 b, .int .i64 c, .int .i64 d] 31)).setCell ⟨pb, 0, none⟩ (.int .i64 (nextV s.h (s.f i)))) = W at *
  have c0 := cell_at hB.pool 0
  simp at c0
  have HLd := cPLoad (ptr_cell hB.slots hin) (hB.life i hin) rfl
  have HB : Hid _ := hB
  have HN : Hid _ := hN
  have HT : Hid _ := hT
  clear hA hB hN hT c1 h
  go_wp2_with (go_at_call 21; refine HLd.mono ?_; rintro e w' ⟨rfl, hw⟩; obtain rfl := hw.symm)
  rename_i K hK
  clear c0 HLd
  have hB := HB.out
  have hBd : PA W.drew p sb pb nb L { s with h := nextV s.h (s.f i) } := hB.keep ((Turned.refl [] W).drew) (by simp)
  have HNL := cNewLife W.drew ((s.slot i).gen + 1) a b c d 0 link
  have HC := cLed hBd hin ((s.slot i).gen + 1) a b c d 0 link
  have tL : Turned [] W.drew (lifeW W.drew ((s.slot i).gen + 1) a b c d 0 link) := lifeW_turned [] _ _ _ _ _ _ _ _
  have tP : ∀ (o : Obj) (r : Nat), W.heap[r]? = some o → r ≠ sb → (W.drew.heap[r]? = some o ∧ (lifeW W.drew ((s.slot i).gen + 1) a b c d 0 link).heap[r]? = some o ∧ (ledW W.drew sb i ((s.slot i).gen + 1) a b c d 0 link).heap[r]? = some o) := fun o r hr hne => ⟨hr, tL.heap hr (by simp), (blk_other hne _ _).trans (tL.heap hr (by simp))⟩
  have fP := tP _ _ hB.pool hB.d1
  have fL := tP _ _ (hB.life i hin) (hB.l2 hin)
  have fN := tP _ _ HN.out (other_type HN.out hB.slots (by decide))
  refine wp_region_two (w1 := lifeW W.drew ((s.slot i).gen + 1) a b c d 0 link) (w2 := ledW W.drew sb i ((s.slot i).gen + 1) a b c d 0 link) (by kernel_rfl) [some 33, some 34, some 35, some 36, some 37, some 38, some 39, some 40, some 41, some 42, some 43, some 44, some 45, some 46, some 47, some 48] (fun k => match k with
    | 0 => pv p 0 | 1 => pv p 0 | 2 => pv p 0 | 3 => .slice (some ⟨sb, 0, none⟩) (s.n + 1) (s.n + 1) | 4 => .int .i64 i | 5 => pv sb i | 6 => pv (L i) 0 | 7 => pv (L i) 0 | 8 => pv (L i) 0 | 9 => pv (L i) 0 | 10 => .int .i64 (s.slot i).gen | 11 => .int .i64 ((s.slot i).gen + 1) | 12 => .agg #[.int .i64 a, .int .i64 b, .int .i64 c, .int .i64 d] | 13 => .int .i64 link | 14 => pv (W.drew.heap.size + 1) 0 | _ => .bool true) (by kernel_rfl) 14 15 (by decide) (by decide) (by decide) (by decide +kernel) ?_ ?_ ?_
  · intro k g b' h
    exact (no_guard (by kernel_rfl) h).elim
  · intro k hk o ac wa wb K ho hd _ hoff hv hL hK
    rcases (by simp at hk; omega : k = 0 ∨ k = 1 ∨ k = 2 ∨ k = 3 ∨ k = 4 ∨ k = 5 ∨ k = 6 ∨ k = 7 ∨ k = 8 ∨ k = 9 ∨ k = 10 ∨ k = 11 ∨ k = 12 ∨ k = 13 ∨ k = 14 ∨ k = 15) with rfl | rfl | rfl | rfl | rfl | rfl | rfl | rfl | rfl | rfl | rfl | rfl | rfl | rfl | rfl | rfl
    case inr.inr.inr.inr.inr.inr.inr.inr.inr.inr.inr.inr.inr.inr.inl =>
      obtain ⟨rfl, rfl⟩ : wa = W.drew ∧ wb = lifeW W.drew ((s.slot i).gen + 1) a b c d 0 link := by
        rcases hL with ⟨-, h2, h3⟩ | ⟨h1, -⟩ | ⟨h1, -⟩
        · exact ⟨h2, h3⟩
        · exact absurd h1 (by decide)
        · exact absurd rfl h1
      exact l_call hd (op_is rfl ho) (by simp [hv 11 44 rfl (by kernel_rfl), hv 12 45 rfl (by kernel_rfl), hv 13 46 rfl (by kernel_rfl)]; rfl) Try.func23 (by kernel_rfl) (by rfl) HNL hK
    case inr.inr.inr.inr.inr.inr.inr.inr.inr.inr.inr.inr.inr.inr.inr =>
      obtain ⟨rfl, rfl⟩ : wa = lifeW W.drew ((s.slot i).gen + 1) a b c d 0 link ∧ wb = ledW W.drew sb i ((s.slot i).gen + 1) a b c d 0 link := by
        rcases hL with ⟨h1, -⟩ | ⟨-, h2, h3⟩ | ⟨-, h1, -⟩
        · exact absurd h1 (by decide)
        · exact ⟨h2, h3⟩
        · exact absurd rfl h1
      exact l_call hd (op_is rfl ho) (by simp [hv 5 38 rfl (by kernel_rfl), hv 6 39 rfl (by kernel_rfl), hv 14 47 rfl (by kernel_rfl)]) Try.func22 (by kernel_rfl) (by rfl) HC hK
    all_goals
      obtain ⟨rfl, hw3⟩ : wb = wa ∧ (wa = W.drew ∨ wa = lifeW W.drew ((s.slot i).gen + 1) a b c d 0 link ∨ wa = ledW W.drew sb i ((s.slot i).gen + 1) a b c d 0 link) := by
        rcases hL with ⟨h1, -⟩ | ⟨h1, -⟩ | ⟨-, -, h2, h3 | ⟨-, h3⟩ | ⟨-, -, h3⟩⟩
        · exact absurd h1 (by decide)
        · exact absurd h1 (by decide)
        · exact ⟨h2, .inl h3⟩
        · exact ⟨h2, .inr (.inl h3)⟩
        · exact ⟨h2, .inr (.inr h3)⟩
      have three : ∀ {o : Obj} {r : Nat}, (W.drew.heap[r]? = some o ∧ (lifeW W.drew ((s.slot i).gen + 1) a b c d 0 link).heap[r]? = some o ∧ (ledW W.drew sb i ((s.slot i).gen + 1) a b c d 0 link).heap[r]? = some o) → wb.heap[r]? = some o := fun {o r} f => by
        rcases hw3 with e | e | e
        · rw [e]; exact f.1
        · rw [e]; exact f.2.1
        · rw [e]; exact f.2.2
      have gP := three fP
      have gL := three fL
      have gN := three fN
    · exact l_val hd ((x_move (op_is rfl ho)).trans (by rw [hoff 0 (by decide)]; rfl)) hK
    · exact l_val hd (x_nil (op_is rfl ho) (hv 0 33 rfl (by kernel_rfl))) hK
    · exact l_val hd (x_field (op_is rfl ho) (by rw [hv 1 34 rfl (by kernel_rfl)]; exact run_poolField _ p)) hK
    · exact l_val hd (x_load (op_is rfl ho) (by rw [hv 2 35 rfl (by kernel_rfl)]; exact run_loadSlots gP)) hK
    · exact l_val hd ((x_move (op_is rfl ho)).trans (by rw [hoff 10 (by decide)]; rfl)) hK
    · exact l_val hd (x_index (op_is rfl ho) (by rw [hv 3 36 rfl (by kernel_rfl), hv 4 37 rfl (by kernel_rfl)]; exact run_indexSlots _ sb s.n i hin)) hK
    · exact l_val hd ((x_move (op_is rfl ho)).trans (by rw [hoff 12 (by decide)]; rfl)) hK
    · exact l_val hd ((x_move (op_is rfl ho)).trans (by rw [hoff 12 (by decide)]; rfl)) hK
    · exact l_val hd (x_nil (op_is rfl ho) (hv 7 40 rfl (by kernel_rfl))) hK
    · exact l_val hd (x_field (op_is rfl ho) (by rw [hv 8 41 rfl (by kernel_rfl)]; exact (run_lifeField _ (L i)).1)) hK
    · exact l_val hd (x_load (op_is rfl ho) (by rw [hv 9 42 rfl (by kernel_rfl)]; exact run_lifeGen gL)) hK
    · exact l_val hd (x_add1 (op_is rfl ho) (hv 10 43 rfl (by kernel_rfl)) rfl hg0 hg1) hK
    · exact l_val hd (x_load (op_is rfl ho) (by rw [hoff 6 (by decide)]; exact run_loadNode gN)) hK
    · exact l_val hd ((x_move (op_is rfl ho)).trans (by rw [hoff 3 (by decide)]; rfl)) hK
  · intro a' h1 h2 h3 h4
    obtain ⟨cc, rfl, hcc⟩ := expand60 h1 h2
    have x10 : cc 10 = .int .i64 i := (hcc 10).trans ((ev_same (h3 10 (by decide))).trans rfl)
    have x12 : cc 12 = .pointer (some ⟨L i, 0, none⟩) := (hcc 12).trans ((ev_same (h3 12 (by decide))).trans rfl)
    have x48 : cc 48 = .bool true := (hcc 48).trans (h4 15 48 rfl)
    have hLed := hBd.led hin ((s.slot i).gen + 1) a b c d 0 link
    have l0 := cell_at fL.2.2 0
    simp at l0
    have HLed : Hid _ := hLed
    have hTW : Turned (blocks p sb pb nb L s.n) w (ledW W.drew sb i ((s.slot i).gen + 1) a b c d 0 link) := HT.out.drew.inner (ledW_turned (l := blocks p sb pb nb L s.n) (by simp [blocks]) W.drew i _ _ _ _ _ _ _) (fun x hx => .inl hx)
    have hsz := HT.out.size
    clear h1 h2 h3 h4 hcc hLed fP fL fN tP tL HC HNL hBd hB HB HN HT
    refine hK _ _ ?_
    unfold lit60
    simp only [x10, x12, x48]
    clear x10 x12 x48
    generalize hW2 : ledW W.drew sb i ((s.slot i).gen + 1) a b c d 0 link = W2 at *
    go_wp2_with (go_at_call 16; refine (HPk _).mono ?_; rintro e w' ⟨rfl, hw⟩; obtain rfl := hw.symm)
    go_ret2
    exact ⟨rfl, hTW, W.drew.heap.size + 1, (by show w.heap.size ≤ W.heap.size + 1; omega), HLed.out⟩
end
end Go.Proofs.Ytfebndolnnaiiab

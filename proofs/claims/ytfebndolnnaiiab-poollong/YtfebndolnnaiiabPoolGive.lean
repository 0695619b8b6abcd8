/- Package pool's Give, by contract. -/
import Derived.Test.YtfebndolnnaiiabPoolTake
import Derived.Test.YtfebndolnnaiiabPart
namespace Go.Proofs.Ytfebndolnnaiiab
open Go.RowKit
theorem one_guard {ops : Array Oper} {g0 : Nat} {b0 : Bool} (h : ops.all (fun o => o.guard == none || o.guard == some (g0, b0)) = true) {i g : Nat} {b : Bool} (hh : (ops[i]?).bind (fun o : Oper => o.guard) = some (g, b)) : g = g0 ∧ b = b0 := by
  obtain ⟨o, ho, hg⟩ := Option.bind_eq_some_iff.1 hh
  rw [Array.all_eq_true] at h
  obtain ⟨hi, e⟩ := Array.getElem?_eq_some_iff.1 ho
  have := h i hi
  rw [e, hg] at this
  simpa using this
section
variable {ρ : Operand → Value} {o : Oper} {w : World}
theorem x_neqInt {x y : Operand} {t : TypeId} {a b : Int} (h : o.op = .binOp .neq 3 x y t) (hx : ρ x = .int .i64 a) (hy : ρ y = .int .i64 b) : (execOp ρ o).run Try.prog w = .ok (.value (.bool (a != b))) w := by
  refine x_bin h hx hy (by simp [eqGuard]) ?_
  simp [binOp, Op.intCmp]
theorem x_not {x : Operand} {t : TypeId} {b : Bool} (h : o.op = .unOp .not t x) (hx : ρ x = .bool b) : (execOp ρ o).run Try.prog w = .ok (.value (.bool !b)) w := by
  simp [execOp, h, hx, Op.unary]
theorem x_pick {x y z : Operand} {b : Bool} (h : o.op = .pick x y z) (hx : ρ x = .bool b) : (execOp ρ o).run Try.prog w = .ok (.value (if b then ρ y else ρ z)) w := by
  simp [execOp, h, hx, asBool]
end
section
variable {w : World} {p sb pb nb : Nat} {L : Nat → Nat} {s : PSt} {i : Nat} {g : Int}
set_option maxHeartbeats 1600000 in
theorem cPGiveGone (h : PA w p sb pb nb L s) (h1 : 1 ≤ i) (h2 : i ≤ s.n) (hn : s.n ≤ 4096) (g0 : 0 ≤ g) (g1 : g ≤ 1099511627774) (g2 : g % 2 = 1) (hg : (s.slot i).gen ≠ g) :
    Calls Try.prog 9 #[.pointer (some ⟨p, 0, none⟩), .pointer none, .int .i64 (hnd i g)] w fun e w' => e = .returned (.int .i64 104) ∧ w' = w.drew := by
  have HS := cSlot h h1 h2 hn g0 g1 g2
  have c0 := cell_at h.pool 0
  simp at c0
  have hlt : (i : Int) < (s.n : Int) + 1 := by omega
  have HLd := cPLoad (ptr_cell h.slots h2) (h.life i h2) rfl
  have l0 := cell_at (h.life i h2) 0
  simp at l0
  have HB : Hid _ := h
  clear h l0
  go_enter Try.func9, Try.ntmps9
  go_wp2_with (first
    | (go_at_call 25; refine HS.mono ?_; rintro e w' ⟨rfl, hw⟩; obtain rfl := hw.symm)
    | (go_at_call 24; refine (cStep _).mono ?_; rintro e w' ⟨rfl, hw⟩; obtain rfl := hw.symm)
    | (go_at_call 21; refine HLd.mono ?_; rintro e w' ⟨rfl, hw⟩; obtain rfl := hw.symm))
  rename_i K hK
  clear c0 HLd HS
  have gL : w.drew.heap[L i]? = some (lifeObj (s.slot i)) := HB.out.life i h2
  refine wp_region_part (by kernel_rfl) [some 30, some 31, some 32, some 33, some 34, some 35, some 36, some 37, some 38, some 39, some 40, some 41, some 42, some 43, some 44, some 45, some 46, some 47, some 48, some 49] (fun k => match k with
    | 0 => pv (L i) 0 | 1 => pv (L i) 0 | 2 => pv (L i) 0 | 3 => .int .i64 (s.slot i).gen | 4 => .int .i64 g | 5 => .bool true | 6 => .bool true | 19 => .bool true | _ => undef) (by kernel_rfl) ?_ ?_ ?_
  · intro k g b' h
    obtain ⟨rfl, rfl⟩ := one_guard (g0 := 6) (b0 := false) (by kernel_rfl) h
    refine ⟨true, rfl, fun _ => ?_⟩
    match k, h with
    | 0, h => exact (nomatch (show (none : Option (Nat × Bool)) = some (6, false) from h))
    | 1, h => exact (nomatch (show (none : Option (Nat × Bool)) = some (6, false) from h))
    | 2, h => exact (nomatch (show (none : Option (Nat × Bool)) = some (6, false) from h))
    | 3, h => exact (nomatch (show (none : Option (Nat × Bool)) = some (6, false) from h))
    | 4, h => exact (nomatch (show (none : Option (Nat × Bool)) = some (6, false) from h))
    | 5, h => exact (nomatch (show (none : Option (Nat × Bool)) = some (6, false) from h))
    | 6, h => exact (nomatch (show (none : Option (Nat × Bool)) = some (6, false) from h))
    | 7, h => exact rfl
    | 8, h => exact rfl
    | 9, h => exact rfl
    | 10, h => exact rfl
    | 11, h => exact rfl
    | 12, h => exact rfl
    | 13, h => exact rfl
    | 14, h => exact rfl
    | 15, h => exact rfl
    | 16, h => exact rfl
    | 17, h => exact rfl
    | 18, h => exact rfl
    | 19, h => exact (nomatch (show (none : Option (Nat × Bool)) = some (6, false) from h))
    | k + 20, _ => rfl
  · intro k hk hgd o ac K ho hd _ hoff hv hK
    rcases (by simp at hk; omega : k = 0 ∨ k = 1 ∨ k = 2 ∨ k = 3 ∨ k = 4 ∨ k = 5 ∨ k = 6 ∨ k = 7 ∨ k = 8 ∨ k = 9 ∨ k = 10 ∨ k = 11 ∨ k = 12 ∨ k = 13 ∨ k = 14 ∨ k = 15 ∨ k = 16 ∨ k = 17 ∨ k = 18 ∨ k = 19) with rfl | rfl | rfl | rfl | rfl | rfl | rfl | rfl | rfl | rfl | rfl | rfl | rfl | rfl | rfl | rfl | rfl | rfl | rfl | rfl
    case inl => exact l_val hd ((x_move (op_is rfl ho)).trans (by rw [hoff 10 (by decide)]; rfl)) hK
    case inr.inl => exact l_val hd (x_nil (op_is rfl ho) (hv 0 30 rfl (by kernel_rfl))) hK
    case inr.inr.inl => exact l_val hd (x_field (op_is rfl ho) (by rw [hv 1 31 rfl (by kernel_rfl)]; exact (run_lifeField _ (L i)).1)) hK
    case inr.inr.inr.inl => exact l_val hd (x_load (op_is rfl ho) (by rw [hv 2 32 rfl (by kernel_rfl)]; exact run_lifeGen gL)) hK
    case inr.inr.inr.inr.inl => exact l_val hd ((x_move (op_is rfl ho)).trans (by rw [hoff 8 (by decide)]; rfl)) hK
    case inr.inr.inr.inr.inr.inl => exact l_val hd ((x_neqInt (op_is rfl ho) (hv 3 33 rfl (by kernel_rfl)) (hv 4 34 rfl (by kernel_rfl))).trans (by rw [show ((s.slot i).gen != g) = true from by simp [hg]]; rfl)) hK
    case inr.inr.inr.inr.inr.inr.inl => exact l_val hd ((x_move (op_is rfl ho)).trans (by rw [hv 5 35 rfl (by kernel_rfl)]; rfl)) hK
    case inr.inr.inr.inr.inr.inr.inr.inr.inr.inr.inr.inr.inr.inr.inr.inr.inr.inr.inr => exact l_val (v := .bool true) hd ((x_pick (op_is (p := .pick (.tmp 36) (.const (.bool true)) (.tmp 48)) rfl ho) (hv 6 36 rfl (by kernel_rfl))).trans rfl) hK
    all_goals
      exact absurd (hgd 6 false rfl) (by intro e; cases e)
  · intro a' h1' h2' h3 h4
    obtain ⟨cc, rfl, hcc⟩ := expand57 h1' h2'
    have x49 : cc 49 = .bool true := (hcc 49).trans (h4 19 49 rfl)
    clear h1' h2' h3 h4 hcc HB gL
    refine hK _ _ ?_
    unfold lit57
    simp only [x49]
    clear x49
    go_wp2
    go_ret
    exact ⟨rfl, rfl⟩
set_option maxRecDepth 100000 in
set_option maxHeartbeats 1600000 in
theorem cPGive (h : PA w p sb pb nb L s) (h1 : 1 ≤ i) (h2 : i ≤ s.n) (hn : s.n ≤ 4096) (g0 : 0 ≤ g) (g1 : g ≤ 1099511627774) (g2 : g % 2 = 1) (hg : (s.slot i).gen = g) (ho : s.Ok) :
    Calls Try.prog 9 #[.pointer (some ⟨p, 0, none⟩), .pointer none, .int .i64 (hnd i g)] w fun e w' => e = .returned (.int .i64 0) ∧ Turned (blocks p sb pb nb L s.n) w w' ∧ ∃ b', w.heap.size ≤ b' ∧ PA w' p sb pb nb (upd L i b') (s.give i (-7777777)) := by
  have HS := cSlot h h1 h2 hn g0 g1 g2
  have c0 := cell_at h.pool 0
  simp at c0
  have hlt : (i : Int) < (s.n : Int) + 1 := by omega
  have HLd := cPLoad (ptr_cell h.slots h2) (h.life i h2) rfl
  have HB : Hid _ := h
  clear h
  go_enter Try.func9, Try.ntmps9
  go_wp2_with (first
    | (go_at_call 25; refine HS.mono ?_; rintro e w' ⟨rfl, hw⟩; obtain rfl := hw.symm)
    | (go_at_call 24; refine (cStep _).mono ?_; rintro e w' ⟨rfl, hw⟩; obtain rfl := hw.symm)
    | (go_at_call 21; refine HLd.mono ?_; rintro e w' ⟨rfl, hw⟩; obtain rfl := hw.symm))
  rename_i K hK
  clear c0 HLd HS
  have hB := HB.out
  have hBd : PA w.drew p sb pb nb L s := hB.keep ((Turned.refl [] w).drew) (by simp)
  have HNL := cGiven w.drew (g + 1)
  have HC := cLed hBd h2 (g + 1) (-7777777) (-7777777) (-7777777) (-7777777) (-7777777) (-7777777)
  have tL : Turned [] w.drew (lifeW w.drew (g + 1) (-7777777) (-7777777) (-7777777) (-7777777) (-7777777) (-7777777)) := lifeW_turned [] _ _ _ _ _ _ _ _
  have tP : ∀ (o : Obj) (r : Nat), w.heap[r]? = some o → r ≠ sb → (w.drew.heap[r]? = some o ∧ (lifeW w.drew (g + 1) (-7777777) (-7777777) (-7777777) (-7777777) (-7777777) (-7777777)).heap[r]? = some o ∧ (ledW w.drew sb i (g + 1) (-7777777) (-7777777) (-7777777) (-7777777) (-7777777) (-7777777)).heap[r]? = some o) := fun o r hr hne => ⟨hr, tL.heap hr (by simp), (blk_other hne _ _).trans (tL.heap hr (by simp))⟩
  have fP := tP _ _ hB.pool hB.d1
  have fL := tP _ _ (hB.life i h2) (hB.l2 h2)
  refine wp_region_two (w1 := lifeW w.drew (g + 1) (-7777777) (-7777777) (-7777777) (-7777777) (-7777777) (-7777777)) (w2 := ledW w.drew sb i (g + 1) (-7777777) (-7777777) (-7777777) (-7777777) (-7777777) (-7777777)) (by kernel_rfl) [some 30, some 31, some 32, some 33, some 34, some 35, some 36, some 37, some 38, some 39, some 40, some 41, some 42, some 43, some 44, some 45, some 46, some 47, some 48, some 49] (fun k => match k with
    | 0 => pv (L i) 0 | 1 => pv (L i) 0 | 2 => pv (L i) 0 | 3 => .int .i64 g | 4 => .int .i64 g | 5 => .bool false | 6 => .bool false | 7 => pv p 0 | 8 => pv p 0 | 9 => pv p 0 | 10 => .slice (some ⟨sb, 0, none⟩) (s.n + 1) (s.n + 1) | 11 => .int .i64 i | 12 => pv sb i | 13 => pv (L i) 0 | 14 => .int .i64 g | 15 => .int .i64 (g + 1) | 16 => pv (w.drew.heap.size + 1) 0 | 17 => .bool true | _ => .bool false) (by kernel_rfl) 16 17 (by decide) (by decide) (by decide) (by decide +kernel) ?_ ?_ ?_
  · intro k g b' h
    obtain ⟨rfl, rfl⟩ := one_guard (g0 := 6) (b0 := false) (by kernel_rfl) h
    rfl
  · intro k hk o ac wa wb K ho hd _ hoff hv hL hK
    rcases (by simp at hk; omega : k = 0 ∨ k = 1 ∨ k = 2 ∨ k = 3 ∨ k = 4 ∨ k = 5 ∨ k = 6 ∨ k = 7 ∨ k = 8 ∨ k = 9 ∨ k = 10 ∨ k = 11 ∨ k = 12 ∨ k = 13 ∨ k = 14 ∨ k = 15 ∨ k = 16 ∨ k = 17 ∨ k = 18 ∨ k = 19) with rfl | rfl | rfl | rfl | rfl | rfl | rfl | rfl | rfl | rfl | rfl | rfl | rfl | rfl | rfl | rfl | rfl | rfl | rfl | rfl
    case inr.inr.inr.inr.inr.inr.inr.inr.inr.inr.inr.inr.inr.inr.inr.inr.inl =>
      obtain ⟨rfl, rfl⟩ : wa = w.drew ∧ wb = lifeW w.drew (g + 1) (-7777777) (-7777777) (-7777777) (-7777777) (-7777777) (-7777777) := by
        rcases hL with ⟨-, h2, h3⟩ | ⟨h1, -⟩ | ⟨h1, -⟩
        · exact ⟨h2, h3⟩
        · exact absurd h1 (by decide)
        · exact absurd rfl h1
      exact l_call hd (op_is rfl ho) (by simp [hv 15 45 rfl (by kernel_rfl)]) Try.func26 (by kernel_rfl) (by rfl) HNL hK
    case inr.inr.inr.inr.inr.inr.inr.inr.inr.inr.inr.inr.inr.inr.inr.inr.inr.inl =>
      obtain ⟨rfl, rfl⟩ : wa = lifeW w.drew (g + 1) (-7777777) (-7777777) (-7777777) (-7777777) (-7777777) (-7777777) ∧ wb = ledW w.drew sb i (g + 1) (-7777777) (-7777777) (-7777777) (-7777777) (-7777777) (-7777777) := by
        rcases hL with ⟨h1, -⟩ | ⟨-, h2, h3⟩ | ⟨-, h1, -⟩
        · exact absurd h1 (by decide)
        · exact ⟨h2, h3⟩
        · exact absurd rfl h1
      exact l_call hd (op_is rfl ho) (by simp [hv 12 42 rfl (by kernel_rfl), hv 13 43 rfl (by kernel_rfl), hv 16 46 rfl (by kernel_rfl)]) Try.func22 (by kernel_rfl) (by rfl) HC hK
    all_goals
      obtain ⟨rfl, hw3⟩ : wb = wa ∧ (wa = w.drew ∨ wa = lifeW w.drew (g + 1) (-7777777) (-7777777) (-7777777) (-7777777) (-7777777) (-7777777) ∨ wa = ledW w.drew sb i (g + 1) (-7777777) (-7777777) (-7777777) (-7777777) (-7777777) (-7777777)) := by
        rcases hL with ⟨h1, -⟩ | ⟨h1, -⟩ | ⟨-, -, h2, h3 | ⟨-, h3⟩ | ⟨-, -, h3⟩⟩
        · exact absurd h1 (by decide)
        · exact absurd h1 (by decide)
        · exact ⟨h2, .inl h3⟩
        · exact ⟨h2, .inr (.inl h3)⟩
        · exact ⟨h2, .inr (.inr h3)⟩
      have three : ∀ {o : Obj} {r : Nat}, (w.drew.heap[r]? = some o ∧ (lifeW w.drew (g + 1) (-7777777) (-7777777) (-7777777) (-7777777) (-7777777) (-7777777)).heap[r]? = some o ∧ (ledW w.drew sb i (g + 1) (-7777777) (-7777777) (-7777777) (-7777777) (-7777777) (-7777777)).heap[r]? = some o) → wb.heap[r]? = some o := fun {o r} f => by
        rcases hw3 with e | e | e
        · rw [e]; exact f.1
        · rw [e]; exact f.2.1
        · rw [e]; exact f.2.2
      have gP := three fP
      have gL := three fL
    · exact l_val hd ((x_move (op_is rfl ho)).trans (by rw [hoff 10 (by decide)]; rfl)) hK
    · exact l_val hd (x_nil (op_is rfl ho) (hv 0 30 rfl (by kernel_rfl))) hK
    · exact l_val hd (x_field (op_is rfl ho) (by rw [hv 1 31 rfl (by kernel_rfl)]; exact (run_lifeField _ (L i)).1)) hK
    · exact l_val hd (x_load (op_is rfl ho) (by rw [hv 2 32 rfl (by kernel_rfl)]; exact (run_lifeGen gL).trans (by rw [hg]; rfl))) hK
    · exact l_val hd ((x_move (op_is rfl ho)).trans (by rw [hoff 8 (by decide)]; rfl)) hK
    · exact l_val hd ((x_neqInt (op_is rfl ho) (hv 3 33 rfl (by kernel_rfl)) (hv 4 34 rfl (by kernel_rfl))).trans (by rw [bne_self_eq_false]; rfl)) hK
    · exact l_val hd ((x_move (op_is rfl ho)).trans (by rw [hv 5 35 rfl (by kernel_rfl)]; rfl)) hK
    · exact l_val hd ((x_move (op_is rfl ho)).trans (by rw [hoff 0 (by decide)]; rfl)) hK
    · exact l_val hd (x_nil (op_is rfl ho) (hv 7 37 rfl (by kernel_rfl))) hK
    · exact l_val hd (x_field (op_is rfl ho) (by rw [hv 8 38 rfl (by kernel_rfl)]; exact run_poolField _ p)) hK
    · exact l_val hd (x_load (op_is rfl ho) (by rw [hv 9 39 rfl (by kernel_rfl)]; exact run_loadSlots gP)) hK
    · exact l_val hd ((x_move (op_is rfl ho)).trans (by rw [hoff 7 (by decide)]; rfl)) hK
    · exact l_val hd (x_index (op_is rfl ho) (by rw [hv 10 40 rfl (by kernel_rfl), hv 11 41 rfl (by kernel_rfl)]; exact run_indexSlots _ sb s.n i h2)) hK
    · exact l_val hd ((x_move (op_is rfl ho)).trans (by rw [hoff 10 (by decide)]; rfl)) hK
    · exact l_val hd ((x_move (op_is rfl ho)).trans (by rw [hoff 8 (by decide)]; rfl)) hK
    · exact l_val hd (x_add1 (op_is rfl ho) (hv 14 44 rfl (by kernel_rfl)) rfl g0 g1) hK
    · exact l_val hd ((x_not (op_is rfl ho) (hv 17 47 rfl (by kernel_rfl))).trans rfl) hK
    · exact l_val (v := .bool false) hd ((x_pick (op_is (p := .pick (.tmp 36) (.const (.bool true)) (.tmp 48)) rfl ho) (hv 6 36 rfl (by kernel_rfl))).trans (by show Result.ok (Next.value (ac.eval (.tmp 48))) _ = _; rw [hv 18 48 rfl (by kernel_rfl)]; rfl)) hK
  · intro a' h1' h2' h3 h4
    obtain ⟨cc, rfl, hcc⟩ := expand57 h1' h2'
    have x0 : cc 0 = .pointer (some ⟨p, 0, none⟩) := (hcc 0).trans ((ev_same (h3 0 (by decide))).trans rfl)
    have x1 : cc 1 = .pointer none := (hcc 1).trans ((ev_same (h3 1 (by decide))).trans rfl)
    have x7 : cc 7 = .int .i64 i := (hcc 7).trans ((ev_same (h3 7 (by decide))).trans rfl)
    have x49 : cc 49 = .bool false := (hcc 49).trans (h4 19 49 rfl)
    have hLed := hBd.led h2 (g + 1) (-7777777) (-7777777) (-7777777) (-7777777) (-7777777) (-7777777)
    have c1 := cell_at hLed.pool 1
    simp at c1
    have HPu := cPush0 hLed.pile (i := i) (by omega) h2
    have HLed : Hid _ := hLed
    have hTW : Turned (blocks p sb pb nb L s.n) w (ledW w.drew sb i (g + 1) (-7777777) (-7777777) (-7777777) (-7777777) (-7777777) (-7777777)) := ((Turned.refl (blocks p sb pb nb L s.n) w).drew).inner (ledW_turned (l := blocks p sb pb nb L s.n) (by simp [blocks]) w.drew i _ _ _ _ _ _ _) (fun x hx => .inl hx)
    clear h1' h2' h3 h4 hcc hLed fP fL tP tL HC HNL hBd hB HB
    refine hK _ _ ?_
    unfold lit57
    simp only [x0, x1, x7, x49]
    clear x0 x1 x7 x49
    generalize hW2 : ledW w.drew sb i (g + 1) (-7777777) (-7777777) (-7777777) (-7777777) (-7777777) (-7777777) = W2 at *
    go_wp2_with (go_at_call 27; refine HPu.mono ?_; rintro e w' ⟨rfl, rfl⟩)
    go_ret
    have mp : pb ∈ blocks p sb pb nb L s.n ∨ w.heap.size ≤ pb := .inl (by simp [blocks])
    have mn : nb ∈ blocks p sb pb nb L s.n ∨ w.heap.size ≤ nb := .inl (by simp [blocks])
    have hge : s.give i (-7777777) = { s with slot := upd s.slot i ⟨g + 1, -7777777, -7777777, -7777777, -7777777, -7777777, -7777777⟩, h := nextV s.h i, f := upd s.f i (idxV s.h).toNat } := by unfold PSt.give; rw [hg]
    refine ⟨rfl, (hTW.drew.set mn _ _).set mp _ _, w.drew.heap.size + 1, (by show w.heap.size ≤ w.heap.size + 1; omega), ?_⟩
    rw [hge]
    exact HLed.out.push h2 ho.h0 _
end
end Go.Proofs.Ytfebndolnnaiiab

/- Package pool's Give, by contract. -/
import Derived.Test.YtjbhnpofdafmbaaGreatDoorJ26
import Derived.Test.YtjbhnpofdafmbaaGreatDoorJ11
import Derived.Test.YtjbhnpofdafmbaaGreatDoorJ15
import Derived.Test.YtjbhnpofdafmbaaGreatDoorJ25
import Derived.Test.YtjbhnpofdafmbaaGreatDoorJ12
import Derived.Test.YtjbhnpofdafmbaaGreatDoorJ13
namespace Go.Proofs.YtjbhnpofdafmbaaGreatDoor
open Go.RowKit
theorem one_guard {ops : Array Oper} {g0 : Nat} {b0 : Bool} (h : ops.all (fun o => o.guard == none || o.guard == some (g0, b0)) = true) {i g : Nat} {b : Bool} (hh : (ops[i]?).bind (fun o : Oper => o.guard) = some (g, b)) : g = g0 ∧ b = b0 := by
  obtain ⟨o, ho, hg⟩ := Option.bind_eq_some_iff.1 hh
  rw [Array.all_eq_true] at h
  obtain ⟨hi, e⟩ := Array.getElem?_eq_some_iff.1 ho
  have := h i hi
  rw [e, hg] at this
  simpa using this
section
variable {ρ : Operand → Value} {o : Oper} {w : World}
theorem x_neqInt {x y : Operand} {t : TypeId} {a b : Int} (h : o.op = .binOp .neq 3 x y t) (hx : ρ x = .int .i64 a) (hy : ρ y = .int .i64 b) : (execOp ρ o).run Tryz.prog w = .ok (.value (.bool (a != b))) w := by
  refine x_bin h hx hy (by simp [eqGuard]) ?_
  simp [binOp, Op.intCmp]
end
section
variable {w : World} {p sb pb nb : Nat} {L : Nat → Nat} {s : PSt} {i : Nat} {g : Int}
set_option maxHeartbeats 1600000 in
theorem cPGiveGone (h : PA w p sb pb nb L s) (h1 : 1 ≤ i) (h2 : i ≤ s.n) (hn : s.n ≤ 4096) (g0 : 0 ≤ g) (g1 : g ≤ 1099511627775) (g2 : g % 2 = 1) (hg : (s.slot i).gen ≠ g) :
    Calls Tryz.prog 13 #[.pointer (some ⟨p, 0, none⟩), .pointer none, .int .i64 (hnd i g)] w fun e w' => e = .returned (.int .i64 104) ∧ w' = w.drew := by
  have HS := cSlot h h1 h2 hn g0 g1 g2
  have c0 := cell_at h.pool 0
  simp at c0
  have hlt : (i : Int) < (s.n : Int) + 1 := by omega
  have HLd := cPLoad (ptr_cell h.slots h2) (h.life i h2) rfl
  have l0 := cell_at (h.life i h2) 0
  simp at l0
  have HB : Hid _ := h
  clear h l0
  go_enter Tryz.func13, Tryz.ntmps13
  go_wp2_with (first
    | (go_at_call 62; refine HS.mono ?_; rintro e w' ⟨rfl, hw⟩; obtain rfl := hw.symm)
    | (go_at_call 61; refine (cStep _).mono ?_; rintro e w' ⟨rfl, hw⟩; obtain rfl := hw.symm)
    | (go_at_call 58; refine HLd.mono ?_; rintro e w' ⟨rfl, hw⟩; obtain rfl := hw.symm))
  rename_i K hK
  clear c0 HLd HS
  have gL : w.drew.heap[L i]? = some (lifeObj (s.slot i)) := HB.out.life i h2
  refine wp_region_part (by kernel_rfl) [some 30, some 31, some 32, some 33, some 34, some 35, some 36, some 37, some 38, some 39, some 40, some 41, some 42, some 43, some 44, some 45, some 46, some 47, some 48, some 49] (fun k => match k with
    | 0 => pv (L i) 0 | 1 => pv (L i) 0 | 2 => pv (L i) 0 | 3 => .int .i64 (s.slot i).gen | 4 => .int .i64 g | 5 => .bool true | 6 => .bool true | 19 => .bool true | _ => undef) (by kernel_rfl) ?_ ?_ ?_
  · intro k g b' h
    obtain ⟨rfl, rfl⟩ := one_guard (g0 := 6) (b0 := false) (by kernel_rfl) h
    refine ⟨true, rfl, fun _ => ?_⟩
    match k, h with
    | 0, h => exact (nomatch (show (none : Option (Nat × Bool)) = some (6, false) from h))
    | 1, h => exact (nomatch (show (none : Option (Nat × Bool)) = some (6, false) from h))
    | 2, h => exact (nomatch (show (none : Option (Nat × Bool)) = some (6, false) from h))
    | 3, h => exact (nomatch (show (none : Option (Nat × Bool)) = some (6, false) from h))
    | 4, h => exact (nomatch (show (none : Option (Nat × Bool)) = some (6, false) from h))
    | 5, h => exact (nomatch (show (none : Option (Nat × Bool)) = some (6, false) from h))
    | 6, h => exact (nomatch (show (none : Option (Nat × Bool)) = some (6, false) from h))
    | 7, h => exact rfl
    | 8, h => exact rfl
    | 9, h => exact rfl
    | 10, h => exact rfl
    | 11, h => exact rfl
    | 12, h => exact rfl
    | 13, h => exact rfl
    | 14, h => exact rfl
    | 15, h => exact rfl
    | 16, h => exact rfl
    | 17, h => exact rfl
    | 18, h => exact rfl
    | 19, h => exact (nomatch (show (none : Option (Nat × Bool)) = some (6, false) from h))
    | k + 20, _ => rfl
  · intro k hk hgd o ac K ho hd _ hoff hv hK
    rcases (by simp at hk; omega : k = 0 ∨ k = 1 ∨ k = 2 ∨ k = 3 ∨ k = 4 ∨ k = 5 ∨ k = 6 ∨ k = 7 ∨ k = 8 ∨ k = 9 ∨ k = 10 ∨ k = 11 ∨ k = 12 ∨ k = 13 ∨ k = 14 ∨ k = 15 ∨ k = 16 ∨ k = 17 ∨ k = 18 ∨ k = 19) with rfl | rfl | rfl | rfl | rfl | rfl | rfl | rfl | rfl | rfl | rfl | rfl | rfl | rfl | rfl | rfl | rfl | rfl | rfl | rfl
    case inl => exact l_val hd ((x_move (op_is rfl ho)).trans (by rw [hoff 10 (by decide)]; rfl)) hK
    case inr.inl => exact l_val hd (x_nil (op_is rfl ho) (hv 0 30 rfl (by kernel_rfl))) hK
    case inr.inr.inl => exact l_val hd (x_field (op_is rfl ho) (by rw [hv 1 31 rfl (by kernel_rfl)]; exact (run_lifeField _ (L i)).1)) hK
    case inr.inr.inr.inl => exact l_val hd (x_load (op_is rfl ho) (by rw [hv 2 32 rfl (by kernel_rfl)]; exact run_lifeGen gL)) hK
    case inr.inr.inr.inr.inl => exact l_val hd ((x_move (op_is rfl ho)).trans (by rw [hoff 8 (by decide)]; rfl)) hK
    case inr.inr.inr.inr.inr.inl => exact l_val hd ((x_neqInt (op_is rfl ho) (hv 3 33 rfl (by kernel_rfl)) (hv 4 34 rfl (by kernel_rfl))).trans (by rw [show ((s.slot i).gen != g) = true from by simp [hg]]; rfl)) hK
    case inr.inr.inr.inr.inr.inr.inl => exact l_val hd ((x_move (op_is rfl ho)).trans (by rw [hv 5 35 rfl (by kernel_rfl)]; rfl)) hK
    case inr.inr.inr.inr.inr.inr.inr.inr.inr.inr.inr.inr.inr.inr.inr.inr.inr.inr.inr => exact l_val (v := .bool true) hd ((x_pick (op_is (p := .pick (.tmp 36) (.const (.bool true)) (.tmp 48)) rfl ho) (hv 6 36 rfl (by kernel_rfl))).trans rfl) hK
    all_goals
      exact absurd (hgd 6 false rfl) (by intro e; cases e)
  · intro a' h1' h2' h3 h4
    obtain ⟨cc, rfl, hcc⟩ := expand57 h1' h2'
    have x49 : cc 49 = .bool true := (hcc 49).trans (h4 19 49 rfl)
    clear h1' h2' h3 h4 hcc HB gL
    refine hK _ _ ?_
    unfold lit57
    simp only [x49]
    clear x49
    go_wp2
    go_ret
    exact ⟨rfl, rfl⟩
set_option maxRecDepth 100000 in
set_option maxHeartbeats 1600000 in
theorem cPGive (h : PA w p sb pb nb L s) (h1 : 1 ≤ i) (h2 : i ≤ s.n) (hn : s.n ≤ 4096) (g0 : 0 ≤ g) (g1 : g ≤ 1099511627774) (g2 : g % 2 = 1) (hg : (s.slot i).gen = g) (ho : s.Ok) :
    Calls Tryz.prog 13 #[.pointer (some ⟨p, 0, none⟩), .pointer none, .int .i64 (hnd i g)] w fun e w' => e = .returned (.int .i64 0) ∧ Turned (blocks p sb pb nb L s.n) w w' ∧ ∃ b', w.heap.size ≤ b' ∧ PA w' p sb pb nb (upd L i b') (s.give i (-7777777)) := by
  have HS := cSlot h h1 h2 hn g0 (by omega) g2
  have c0 := cell_at h.pool 0
  simp at c0
  have hlt : (i : Int) < (s.n : Int) + 1 := by omega
  have HLd := cPLoad (ptr_cell h.slots h2) (h.life i h2) rfl
  have HB : Hid _ := h
  clear h
  go_enter Tryz.func13, Tryz.ntmps13
  go_wp2_with (first
    | (go_at_call 62; refine HS.mono ?_; rintro e w' ⟨rfl, hw⟩; obtain rfl := hw.symm)
    | (go_at_call 61; refine (cStep _).mono ?_; rintro e w' ⟨rfl, hw⟩; obtain rfl := hw.symm)
    | (go_at_call 58; refine HLd.mono ?_; rintro e w' ⟨rfl, hw⟩; obtain rfl := hw.symm))
  rename_i K hK
  clear c0 HLd HS
  have hB := HB.out
  have hBd : PA w.drew p sb pb nb L s := hB.keep ((Turned.refl [] w).drew) (by simp)
  have HNL := cGiven w.drew (g + 1)
  have HC := cLed hBd h2 (g + 1) (-7777777) (-7777777) (-7777777) (-7777777) (-7777777) (-7777777)
  have tL : Turned [] w.drew (lifeW w.drew (g + 1) (-7777777) (-7777777) (-7777777) (-7777777) (-7777777) (-7777777)) := lifeW_turned [] _ _ _ _ _ _ _ _
  have tP : ∀ (o : Obj) (r : Nat), w.heap[r]? = some o → r ≠ sb → (w.drew.heap[r]? = some o ∧ (lifeW w.drew (g + 1) (-7777777) (-7777777) (-7777777) (-7777777) (-7777777) (-7777777)).heap[r]? = some o ∧ (ledW w.drew sb i (g + 1) (-7777777) (-7777777) (-7777777) (-7777777) (-7777777) (-7777777)).heap[r]? = some o) := fun o r hr hne => ⟨hr, tL.heap hr (by simp), (blk_other hne _ _).trans (tL.heap hr (by simp))⟩
  have fP := tP _ _ hB.pool hB.d1
  have fL := tP _ _ (hB.life i h2) (hB.l2 h2)
  refine wp_region_two (w1 := lifeW w.drew (g + 1) (-7777777) (-7777777) (-7777777) (-7777777) (-7777777) (-7777777)) (w2 := ledW w.drew sb i (g + 1) (-7777777) (-7777777) (-7777777) (-7777777) (-7777777) (-7777777)) (by kernel_rfl) [some 30, some 31, some 32, some 33, some 34, some 35, some 36, some 37, some 38, some 39, some 40, some 41, some 42, some 43, some 44, some 45, some 46, some 47, some 48, some 49] (fun k => match k with
    | 0 => pv (L i) 0 | 1 => pv (L i) 0 | 2 => pv (L i) 0 | 3 => .int .i64 g | 4 => .int .i64 g | 5 => .bool false | 6 => .bool false | 7 => pv p 0 | 8 => pv p 0 | 9 => pv p 0 | 10 => .slice (some ⟨sb, 0, none⟩) (s.n + 1) (s.n + 1) | 11 => .int .i64 i | 12 => pv sb i | 13 => pv (L i) 0 | 14 => .int .i64 g | 15 => .int .i64 (g + 1) | 16 => pv (w.drew.heap.size + 1) 0 | 17 => .bool true | _ => .bool false) (by kernel_rfl) 16 17 (by decide) (by decide) (by decide) (by decide +kernel) ?_ ?_ ?_
  · intro k g b' h
    obtain ⟨rfl, rfl⟩ := one_guard (g0 := 6) (b0 := false) (by kernel_rfl) h
    rfl
  · intro k hk o ac wa wb K ho hd _ hoff hv hL hK
    rcases (by simp at hk; omega : k = 0 ∨ k = 1 ∨ k = 2 ∨ k = 3 ∨ k = 4 ∨ k = 5 ∨ k = 6 ∨ k = 7 ∨ k = 8 ∨ k = 9 ∨ k = 10 ∨ k = 11 ∨ k = 12 ∨ k = 13 ∨ k = 14 ∨ k = 15 ∨ k = 16 ∨ k = 17 ∨ k = 18 ∨ k = 19) with rfl | rfl | rfl | rfl | rfl | rfl | rfl | rfl | rfl | rfl | rfl | rfl | rfl | rfl | rfl | rfl | rfl | rfl | rfl | rfl
    case inr.inr.inr.inr.inr.inr.inr.inr.inr.inr.inr.inr.inr.inr.inr.inr.inl =>
      obtain ⟨rfl, rfl⟩ : wa = w.drew ∧ wb = lifeW w.drew (g + 1) (-7777777) (-7777777) (-7777777) (-7777777) (-7777777) (-7777777) := by
        rcases hL with ⟨-, h2, h3⟩ | ⟨h1, -⟩ | ⟨h1, -⟩
        · exact ⟨h2, h3⟩
        · exact absurd h1 (by decide)
        · exact absurd rfl h1
      exact l_call hd (op_is rfl ho) (by simp [hv 15 45 rfl (by kernel_rfl)]) Tryz.func63 (by kernel_rfl) (by rfl) HNL hK
    case inr.inr.inr.inr.inr.inr.inr.inr.inr.inr.inr.inr.inr.inr.inr.inr.inr.inl =>
      obtain ⟨rfl, rfl⟩ : wa = lifeW w.drew (g + 1) (-7777777) (-7777777) (-7777777) (-7777777) (-7777777) (-7777777) ∧ wb = ledW w.drew sb i (g + 1) (-7777777) (-7777777) (-7777777) (-7777777) (-7777777) (-7777777) := by
        rcases hL with ⟨h1, -⟩ | ⟨-, h2, h3⟩ | ⟨-, h1, -⟩
        · exact absurd h1 (by decide)
        · exact ⟨h2, h3⟩
        · exact absurd rfl h1
      exact l_call hd (op_is rfl ho) (by simp [hv 12 42 rfl (by kernel_rfl), hv 13 43 rfl (by kernel_rfl), hv 16 46 rfl (by kernel_rfl)]) Tryz.func59 (by kernel_rfl) (by rfl) HC hK
    all_goals
      obtain ⟨rfl, hw3⟩ : wb = wa ∧ (wa = w.drew ∨ wa = lifeW w.drew (g + 1) (-7777777) (-7777777) (-7777777) (-7777777) (-7777777) (-7777777) ∨ wa = ledW w.drew sb i (g + 1) (-7777777) (-7777777) (-7777777) (-7777777) (-7777777) (-7777777)) := by
        rcases hL with ⟨h1, -⟩ | ⟨h1, -⟩ | ⟨-, -, h2, h3 | ⟨-, h3⟩ | ⟨-, -, h3⟩⟩
        · exact absurd h1 (by decide)
        · exact absurd h1 (by decide)
        · exact ⟨h2, .inl h3⟩
        · exact ⟨h2, .inr (.inl h3)⟩
        · exact ⟨h2, .inr (.inr h3)⟩
      have three : ∀ {o : Obj} {r : Nat}, (w.drew.heap[r]? = some o ∧ (lifeW w.drew (g + 1) (-7777777) (-7777777) (-7777777) (-7777777) (-7777777) (-7777777)).heap[r]? = some o ∧ (ledW w.drew sb i (g + 1) (-7777777) (-7777777) (-7777777) (-7777777) (-7777777) (-7777777)).heap[r]? = some o) → wb.heap[r]? = some o := fun {o r} f => by
        rcases hw3 with e | e | e
        · rw [e]; exact f.1
        · rw [e]; exact f.2.1
        · rw [e]; exact f.2.2
      have gP := three fP
      have gL := three fL
    · exact l_val hd ((x_move (op_is rfl ho)).trans (by rw [hoff 10 (by decide)]; rfl)) hK
    · exact l_val hd (x_nil (op_is rfl ho) (hv 0 30 rfl (by kernel_rfl))) hK
    · exact l_val hd (x_field (op_is rfl ho) (by rw [hv 1 31 rfl (by kernel_rfl)]; exact (run_lifeField _ (L i)).1)) hK
    · exact l_val hd (x_load (op_is rfl ho) (by rw [hv 2 32 rfl (by kernel_rfl)]; exact (run_lifeGen gL).trans (by rw [hg]; rfl))) hK
    · exact l_val hd ((x_move (op_is rfl ho)).trans (by rw [hoff 8 (by decide)]; rfl)) hK
    · exact l_val hd ((x_neqInt (op_is rfl ho) (hv 3 33 rfl (by kernel_rfl)) (hv 4 34 rfl (by kernel_rfl))).trans (by rw [bne_self_eq_false]; rfl)) hK
    · exact l_val hd ((x_move (op_is rfl ho)).trans (by rw [hv 5 35 rfl (by kernel_rfl)]; rfl)) hK
    · exact l_val hd ((x_move (op_is rfl ho)).trans (by rw [hoff 0 (by decide)]; rfl)) hK
    · exact l_val hd (x_nil (op_is rfl ho) (hv 7 37 rfl (by kernel_rfl))) hK
    · exact l_val hd (x_field (op_is rfl ho) (by rw [hv 8 38 rfl (by kernel_rfl)]; exact run_poolField _ p)) hK
    · exact l_val hd (x_load (op_is rfl ho) (by rw [hv 9 39 rfl (by kernel_rfl)]; exact run_loadSlots gP)) hK
    · exact l_val hd ((x_move (op_is rfl ho)).trans (by rw [hoff 7 (by decide)]; rfl)) hK
    · exact l_val hd (x_index (op_is rfl ho) (by rw [hv 10 40 rfl (by kernel_rfl), hv 11 41 rfl (by kernel_rfl)]; exact run_indexSlots _ sb s.n i h2)) hK
    · exact l_val hd ((x_move (op_is rfl ho)).trans (by rw [hoff 10 (by decide)]; rfl)) hK
    · exact l_val hd ((x_move (op_is rfl ho)).trans (by rw [hoff 8 (by decide)]; rfl)) hK
    · exact l_val hd (x_add1 (op_is rfl ho) (hv 14 44 rfl (by kernel_rfl)) rfl g0 g1) hK
    · exact l_val hd ((x_not (op_is rfl ho) (hv 17 47 rfl (by kernel_rfl))).trans rfl) hK
    · exact l_val (v := .bool false) hd ((x_pick (op_is (p := .pick (.tmp 36) (.const (.bool true)) (.tmp 48)) rfl ho) (hv 6 36 rfl (by kernel_rfl))).trans (by show Result.ok (Next.value (ac.eval (.tmp 48))) _ = _; rw [hv 18 48 rfl (by kernel_rfl)]; rfl)) hK
  · intro a' h1' h2' h3 h4
    obtain ⟨cc, rfl, hcc⟩ := expand57 h1' h2'
    have x0 : cc 0 = .pointer (some ⟨p, 0, none⟩) := (hcc 0).trans ((ev_same (h3 0 (by decide))).trans rfl)
    have x1 : cc 1 = .pointer none := (hcc 1).trans ((ev_same (h3 1 (by decide))).trans rfl)
    have x7 : cc 7 = .int .i64 i := (hcc 7).trans ((ev_same (h3 7 (by decide))).trans rfl)
    have x49 : cc 49 = .bool false := (hcc 49).trans (h4 19 49 rfl)
    have hLed := hBd.led h2 (g + 1) (-7777777) (-7777777) (-7777777) (-7777777) (-7777777) (-7777777)
    have c1 := cell_at hLed.pool 1
    simp at c1
    have HPu := cPush0 hLed.pile (i := i) (by omega) h2
    have HLed : Hid _ := hLed
    have hTW : Turned (blocks p sb pb nb L s.n) w (ledW w.drew sb i (g + 1) (-7777777) (-7777777) (-7777777) (-7777777) (-7777777) (-7777777)) := ((Turned.refl (blocks p sb pb nb L s.n) w).drew).inner (ledW_turned (l := blocks p sb pb nb L s.n) (by simp [blocks]) w.drew i _ _ _ _ _ _ _) (fun x hx => .inl hx)
    clear h1' h2' h3 h4 hcc hLed fP fL tP tL HC HNL hBd hB HB
    refine hK _ _ ?_
    unfold lit57
    simp only [x0, x1, x7, x49]
    clear x0 x1 x7 x49
    generalize hW2 : ledW w.drew sb i (g + 1) (-7777777) (-7777777) (-7777777) (-7777777) (-7777777) (-7777777) = W2 at *
    go_wp2_with (go_at_call 64; refine HPu.mono ?_; rintro e w' ⟨rfl, rfl⟩)
    go_ret
    have mp : pb ∈ blocks p sb pb nb L s.n ∨ w.heap.size ≤ pb := .inl (by simp [blocks])
    have mn : nb ∈ blocks p sb pb nb L s.n ∨ w.heap.size ≤ nb := .inl (by simp [blocks])
    have hge : s.give i (-7777777) = { s with slot := upd s.slot i ⟨g + 1, -7777777, -7777777, -7777777, -7777777, -7777777, -7777777⟩, h := nextV s.h i, f := upd s.f i (idxV s.h).toNat } := by unfold PSt.give; rw [hg]
    refine ⟨rfl, (hTW.drew.set mn _ _).set mp _ _, w.drew.heap.size + 1, (by show w.heap.size ≤ w.heap.size + 1; omega), ?_⟩
    rw [hge]
    exact HLed.out.push h2 ho.h0 _
end
end Go.Proofs.YtjbhnpofdafmbaaGreatDoor
/- Package pile, alone: Look. -/
namespace Go.Proofs.YtjbhnpofdafmbaaGreatDoor
open Go.RowKit
set_option maxHeartbeats 800000 in
theorem cLook {w : World} {b nb n : Nat} {h : Int} {f : Nat → Nat} (H : PileAt w b nb n h fun k => (f k : Int)) (hn : n ≤ 4096) (hf : ∀ k, k ≤ n → f k ≤ n) {i0 : Nat} (hi : idxV h = i0) (hi0 : i0 ≤ n) :
    Calls Tryz.prog 126 #[.pointer (some ⟨b, 0, none⟩), .pointer none] w fun e w' => ∃ v, e = .returned v ∧ Turned [] w w' ∧ w'.ownsRow w.heap.size 3 1 v (chain f (n + 1) i0 []).length (placesV (chain f (n + 1) i0 [])) := by
  have HI := cIndex h
  rw [hi] at HI
  have hb := H.head
  have HB := cBelow H hn hf hi0
  clear H
  go_enter Tryz.func126, Tryz.ntmps126
  go_wp2
  refine wp_loop_once ?_
  go_wp2_with (first
    | (go_at_call 61; refine (cStep _).mono ?_; rintro e w' ⟨rfl, hw⟩; obtain rfl := hw.symm)
    | (go_at_call 108; refine (cHead hb).mono ?_; rintro e w' ⟨rfl, hw⟩; obtain rfl := hw.symm)
    | (go_at_call 109; refine (HI _).mono ?_; rintro e w' ⟨rfl, hw⟩; obtain rfl := hw.symm)
    | (go_at_call 128; refine HB.mono ?_; rintro e w2 ⟨v, rfl, hT, hR⟩; have hb2 := hT.heap hb (by simp); clear hb)
    | (go_at_call 108; refine (cHead hb2).mono ?_; rintro e w' ⟨rfl, hw⟩; obtain rfl := hw.symm))
  go_ret
  exact ⟨_, rfl, hT, hR⟩
end Go.Proofs.YtjbhnpofdafmbaaGreatDoor
/- Package pool's calls on any handle, alone, by contract; Look, Free. -/
namespace Go.Proofs.YtjbhnpofdafmbaaGreatDoor
open Go.RowKit
section
variable {w : World} {p sb pb nb : Nat} {L : Nat → Nat} {s : PSt} {i : Nat} {g : Int}
set_option maxHeartbeats 800000 in
theorem cPLink (h : PA w p sb pb nb L s) (h1 : 1 ≤ i) (h2 : i ≤ s.n) (hn : s.n ≤ 4096) (g0 : 0 ≤ g) (g1 : g ≤ 1099511627775) (g2 : g % 2 = 1) (hg : (s.slot i).gen = g) :
    Calls Tryz.prog 27 #[.pointer (some ⟨p, 0, none⟩), .pointer none, .int .i64 (hnd i g)] w fun e w' => e = .returned (.tuple #[.int .i64 (s.slot i).link, .int .i64 0]) ∧ w' = w := by
  have HM := cMeet h h1 h2 hn g0 g1 g2 hg
  have c6 := cell_at (h.life i h2) 6
  simp at c6
  go_enter Tryz.func27, Tryz.ntmps27
  go_wp2_with (first
    | (go_at_call 66; refine HM.mono ?_; rintro e w' ⟨rfl, hw⟩; obtain rfl := hw.symm)
    | (go_at_call 67; refine (cALoad c6).mono ?_; rintro e w' ⟨rfl, hw⟩; obtain rfl := hw.symm))
  go_ret2
  exact ⟨rfl, rfl⟩
set_option maxHeartbeats 800000 in
theorem cPMarkGone (h : PA w p sb pb nb L s) (h1 : 1 ≤ i) (h2 : i ≤ s.n) (hn : s.n ≤ 4096) (g0 : 0 ≤ g) (g1 : g ≤ 1099511627775) (g2 : g % 2 = 1) (hg : (s.slot i).gen ≠ g) (hf0 : 0 ≤ s.faults) (hf1 : s.faults ≤ 1000000) :
    Calls Tryz.prog 23 #[.pointer (some ⟨p, 0, none⟩), .pointer none, .int .i64 (hnd i g)] w fun e w' => e = .returned (.tuple #[.int .i64 0, .int .i64 104]) ∧ w' = w.setCell ⟨p, 2, none⟩ (.int .i64 (s.faults + 1)) := by
  have HM := cMeetGone h h1 h2 hn g0 g1 g2 hg hf0 hf1
  go_enter Tryz.func23, Tryz.ntmps23
  go_wp2_with (go_at_call 66; refine HM.mono ?_; rintro e w' ⟨rfl, rfl⟩)
  go_ret2
  exact ⟨rfl, rfl⟩
set_option maxHeartbeats 800000 in
theorem cPMarkBad {x : Int} (h : PA w p sb pb nb L s) (hb : idxV x < 1 ∨ s.n < idxV x ∨ tagV x % 2 = 0) :
    Calls Tryz.prog 23 #[.pointer (some ⟨p, 0, none⟩), .pointer none, .int .i64 x] w fun e w' => e = .returned (.tuple #[.int .i64 0, .int .i64 103]) ∧ w' = w := by
  have HM := cMeetBad h hb
  go_enter Tryz.func23, Tryz.ntmps23
  go_wp2_with (go_at_call 66; refine HM.mono ?_; rintro e w' ⟨rfl, hw⟩; obtain rfl := hw.symm)
  go_ret2
  exact ⟨rfl, rfl⟩
set_option maxHeartbeats 800000 in
theorem cPLinkGone (h : PA w p sb pb nb L s) (h1 : 1 ≤ i) (h2 : i ≤ s.n) (hn : s.n ≤ 4096) (g0 : 0 ≤ g) (g1 : g ≤ 1099511627775) (g2 : g % 2 = 1) (hg : (s.slot i).gen ≠ g) (hf0 : 0 ≤ s.faults) (hf1 : s.faults ≤ 1000000) :
    Calls Tryz.prog 27 #[.pointer (some ⟨p, 0, none⟩), .pointer none, .int .i64 (hnd i g)] w fun e w' => e = .returned (.tuple #[.int .i64 0, .int .i64 104]) ∧ w' = w.setCell ⟨p, 2, none⟩ (.int .i64 (s.faults + 1)) := by
  have HM := cMeetGone h h1 h2 hn g0 g1 g2 hg hf0 hf1
  go_enter Tryz.func27, Tryz.ntmps27
  go_wp2_with (go_at_call 66; refine HM.mono ?_; rintro e w' ⟨rfl, rfl⟩)
  go_ret2
  exact ⟨rfl, rfl⟩
set_option maxHeartbeats 800000 in
theorem cPLinkBad {x : Int} (h : PA w p sb pb nb L s) (hb : idxV x < 1 ∨ s.n < idxV x ∨ tagV x % 2 = 0) :
    Calls Tryz.prog 27 #[.pointer (some ⟨p, 0, none⟩), .pointer none, .int .i64 x] w fun e w' => e = .returned (.tuple #[.int .i64 0, .int .i64 103]) ∧ w' = w := by
  have HM := cMeetBad h hb
  go_enter Tryz.func27, Tryz.ntmps27
  go_wp2_with (go_at_call 66; refine HM.mono ?_; rintro e w' ⟨rfl, hw⟩; obtain rfl := hw.symm)
  go_ret2
  exact ⟨rfl, rfl⟩
set_option maxHeartbeats 800000 in
theorem cPCasMarkGone (h : PA w p sb pb nb L s) (h1 : 1 ≤ i) (h2 : i ≤ s.n) (hn : s.n ≤ 4096) (g0 : 0 ≤ g) (g1 : g ≤ 1099511627775) (g2 : g % 2 = 1) (hg : (s.slot i).gen ≠ g) (hf0 : 0 ≤ s.faults) (hf1 : s.faults ≤ 1000000) (old v : Int) :
    Calls Tryz.prog 25 #[.pointer (some ⟨p, 0, none⟩), .pointer none, .int .i64 (hnd i g), .int .i64 old, .int .i64 v] w fun e w' => e = .returned (.tuple #[.bool false, .int .i64 104]) ∧ w' = w.setCell ⟨p, 2, none⟩ (.int .i64 (s.faults + 1)) := by
  have HM := cMeetGone h h1 h2 hn g0 g1 g2 hg hf0 hf1
  go_enter Tryz.func25, Tryz.ntmps25
  go_wp2_with (go_at_call 66; refine HM.mono ?_; rintro e w' ⟨rfl, rfl⟩)
  go_ret2
  exact ⟨rfl, rfl⟩
set_option maxHeartbeats 800000 in
theorem cPCasMarkBad {x : Int} (h : PA w p sb pb nb L s) (hb : idxV x < 1 ∨ s.n < idxV x ∨ tagV x % 2 = 0) (old v : Int) :
    Calls Tryz.prog 25 #[.pointer (some ⟨p, 0, none⟩), .pointer none, .int .i64 x, .int .i64 old, .int .i64 v] w fun e w' => e = .returned (.tuple #[.bool false, .int .i64 103]) ∧ w' = w := by
  have HM := cMeetBad h hb
  go_enter Tryz.func25, Tryz.ntmps25
  go_wp2_with (go_at_call 66; refine HM.mono ?_; rintro e w' ⟨rfl, hw⟩; obtain rfl := hw.symm)
  go_ret2
  exact ⟨rfl, rfl⟩
set_option maxHeartbeats 800000 in
theorem cPSwapLinkGone (h : PA w p sb pb nb L s) (h1 : 1 ≤ i) (h2 : i ≤ s.n) (hn : s.n ≤ 4096) (g0 : 0 ≤ g) (g1 : g ≤ 1099511627775) (g2 : g % 2 = 1) (hg : (s.slot i).gen ≠ g) (hf0 : 0 ≤ s.faults) (hf1 : s.faults ≤ 1000000) (v : Int) :
    Calls Tryz.prog 29 #[.pointer (some ⟨p, 0, none⟩), .pointer none, .int .i64 (hnd i g), .int .i64 v] w fun e w' => e = .returned (.tuple #[.int .i64 0, .int .i64 104]) ∧ w' = w.setCell ⟨p, 2, none⟩ (.int .i64 (s.faults + 1)) := by
  have HM := cMeetGone h h1 h2 hn g0 g1 g2 hg hf0 hf1
  go_enter Tryz.func29, Tryz.ntmps29
  go_wp2_with (go_at_call 66; refine HM.mono ?_; rintro e w' ⟨rfl, rfl⟩)
  go_ret2
  exact ⟨rfl, rfl⟩
set_option maxHeartbeats 800000 in
theorem cPSwapLinkBad {x : Int} (h : PA w p sb pb nb L s) (hb : idxV x < 1 ∨ s.n < idxV x ∨ tagV x % 2 = 0) (v : Int) :
    Calls Tryz.prog 29 #[.pointer (some ⟨p, 0, none⟩), .pointer none, .int .i64 x, .int .i64 v] w fun e w' => e = .returned (.tuple #[.int .i64 0, .int .i64 103]) ∧ w' = w := by
  have HM := cMeetBad h hb
  go_enter Tryz.func29, Tryz.ntmps29
  go_wp2_with (go_at_call 66; refine HM.mono ?_; rintro e w' ⟨rfl, hw⟩; obtain rfl := hw.symm)
  go_ret2
  exact ⟨rfl, rfl⟩
set_option maxHeartbeats 800000 in
theorem cPGiveBad {x : Int} (h : PA w p sb pb nb L s) (hb : idxV x < 1 ∨ s.n < idxV x ∨ tagV x % 2 = 0) :
    Calls Tryz.prog 13 #[.pointer (some ⟨p, 0, none⟩), .pointer none, .int .i64 x] w fun e w' => e = .returned (.int .i64 103) ∧ w' = w := by
  have HS := cSlotBad h hb
  go_enter Tryz.func13, Tryz.ntmps13
  go_wp2_with (first
    | (go_at_call 62; refine HS.mono ?_; rintro e w' ⟨rfl, hw⟩; obtain rfl := hw.symm)
    | (go_at_call 61; refine (cStep _).mono ?_; rintro e w' ⟨rfl, hw⟩; obtain rfl := hw.symm))
  go_ret
  exact ⟨rfl, rfl⟩
/-- What is free, from the top. -/
def PSt.places (s : PSt) : List Nat := chain s.f (s.n + 1) (idxV s.h).toNat []
set_option maxHeartbeats 800000 in
theorem cPFreeG (h : PA w p sb pb nb L s) (ho : s.Ok) :
    Calls Tryz.prog 34 #[.pointer (some ⟨p, 0, none⟩)] w fun e w' => ∃ v, e = .returned v ∧ Turned [] w w' ∧ w'.ownsRow w.heap.size 3 1 v s.places.length (placesV s.places) := by
  have c1 := cell_at h.pool 1
  simp at c1
  have ht := ho.top
  have hp := idx_nat ho.h0
  obtain ⟨i0, hi0⟩ : ∃ i0 : Nat, idxV s.h = i0 := ⟨(idxV s.h).toNat, by omega⟩
  have HP := cPlaces h.pile ho.n2 ho.low hi0 (by omega)
  unfold PSt.places
  rw [hi0, Int.toNat_natCast]
  clear h
  go_enter Tryz.func34, Tryz.ntmps34
  go_wp2_with (first
    | (go_at_call 91; refine HP.mono ?_; rintro e w' ⟨v, rfl, hT, hR⟩; have HT : Hid _ := hT; have HR : Hid _ := hR; clear hT hR))
  go_ret
  exact ⟨v, rfl, HT.out, HR.out⟩
set_option maxHeartbeats 800000 in
theorem cPLook (h : PA w p sb pb nb L s) (ho : s.Ok) :
    Calls Tryz.prog 87 #[.pointer (some ⟨p, 0, none⟩), .pointer none] w fun e w' => ∃ v, e = .returned v ∧ Turned [] w w' ∧ w'.ownsRow w.heap.size 3 1 v s.places.length (placesV s.places) := by
  have c1 := cell_at h.pool 1
  simp at c1
  have ht := ho.top
  have hp := idx_nat ho.h0
  obtain ⟨i0, hi0⟩ : ∃ i0 : Nat, idxV s.h = i0 := ⟨(idxV s.h).toNat, by omega⟩
  have HP := cLook h.pile ho.n2 ho.low hi0 (by omega)
  unfold PSt.places
  rw [hi0, Int.toNat_natCast]
  clear h
  go_enter Tryz.func87, Tryz.ntmps87
  go_wp2_with (first
    | (go_at_call 126; refine HP.mono ?_; rintro e w' ⟨v, rfl, hT, hR⟩; have HT : Hid _ := hT; have HR : Hid _ := hR; clear hT hR))
  go_ret
  exact ⟨v, rfl, HT.out, HR.out⟩
end
end Go.Proofs.YtjbhnpofdafmbaaGreatDoor
/- A pool behind so many calls: what it keeps to, spoilt or not. -/
namespace Go.Proofs.YtjbhnpofdafmbaaGreatDoor
def PSt.back (s : PSt) (i : Nat) : PSt := { s with slot := upd s.slot i { s.slot i with gen := (s.slot i).gen + 2 }, h := nextV s.h i, f := upd s.f i (idxV s.h).toNat }
structure Good (s : PSt) (it : Nat) : Prop where
  ok : s.Ok
  gens : ∀ i, i ≤ s.n → 0 ≤ (s.slot i).gen ∧ (s.slot i).gen ≤ 2 * (it : Int)
  faults : 0 ≤ s.faults ∧ s.faults ≤ (it : Int)
section
variable {s : PSt} {it i : Nat}
theorem Good.more (h : Good s it) : Good s (it + 1) := ⟨h.ok, fun i hi => by have := h.gens i hi; omega, by have := h.faults; omega⟩
theorem Good.fault (h : Good s it) : Good s.fault (it + 1) := ⟨⟨h.ok.n1, h.ok.n2, h.ok.h0, h.ok.h1, h.ok.top, h.ok.low⟩, fun i hi => by have := h.gens i hi; show 0 ≤ (s.slot i).gen ∧ (s.slot i).gen ≤ _; omega, by have := h.faults; show 0 ≤ s.faults + 1 ∧ s.faults + 1 ≤ _; omega⟩
theorem Good.slot (h : Good s it) (hi : i ≤ s.n) {S : Slot} (h0 : 0 ≤ S.gen) (h1 : S.gen ≤ (s.slot i).gen + 2) : ∀ j, j ≤ s.n → 0 ≤ (upd s.slot i S j).gen ∧ (upd s.slot i S j).gen ≤ 2 * ((it + 1 : Nat) : Int) := fun j hj => by
  have := h.gens j hj
  have h2 := h.gens i hi
  by_cases e : j = i
  · subst e
    rw [upd_same]
    omega
  · rw [upd_other _ _ e]
    omega
theorem Good.take (h : Good s it) (hi : i ≤ s.n) (a b c d link : Int) : Good (s.take i a b c d link) (it + 1) :=
  ⟨h.ok.take hi a b c d link, h.slot hi (by have := h.gens i hi; show 0 ≤ (s.slot i).gen + 1; omega) (by show (s.slot i).gen + 1 ≤ _; omega), by have := h.faults; show 0 ≤ s.faults ∧ s.faults ≤ _; omega⟩
theorem Good.give (h : Good s it) (hi : i ≤ s.n) (P : Int) : Good (s.give i P) (it + 1) :=
  ⟨h.ok.give hi P, h.slot hi (by have := h.gens i hi; show 0 ≤ (s.slot i).gen + 1; omega) (by show (s.slot i).gen + 1 ≤ _; omega), by have := h.faults; show 0 ≤ s.faults ∧ s.faults ≤ _; omega⟩
theorem Good.back (h : Good s it) (hi : i ≤ s.n) : Good (s.back i) (it + 1) := by
  have hg := h.ok.give hi 0
  exact ⟨⟨hg.n1, hg.n2, hg.h0, hg.h1, hg.top, hg.low⟩, h.slot hi (by have := h.gens i hi; show 0 ≤ (s.slot i).gen + 2; omega) (by show (s.slot i).gen + 2 ≤ _; omega), by have := h.faults; show 0 ≤ s.faults ∧ s.faults ≤ _; omega⟩
theorem Good.putMark (h : Good s it) (hi : i ≤ s.n) (v : Int) : Good (s.putMark i v) (it + 1) :=
  ⟨⟨h.ok.n1, h.ok.n2, h.ok.h0, h.ok.h1, h.ok.top, h.ok.low⟩, h.slot hi (by have := h.gens i hi; show 0 ≤ (s.slot i).gen; omega) (by show (s.slot i).gen ≤ _; omega), by have := h.faults; show 0 ≤ s.faults ∧ s.faults ≤ _; omega⟩
theorem Good.putLink (h : Good s it) (hi : i ≤ s.n) (v : Int) : Good (s.putLink i v) (it + 1) :=
  ⟨⟨h.ok.n1, h.ok.n2, h.ok.h0, h.ok.h1, h.ok.top, h.ok.low⟩, h.slot hi (by have := h.gens i hi; show 0 ≤ (s.slot i).gen; omega) (by show (s.slot i).gen ≤ _; omega), by have := h.faults; show 0 ≤ s.faults ∧ s.faults ≤ _; omega⟩
theorem Good.new {n : Nat} (h1 : 1 ≤ n) (h2 : n ≤ 4096) : Good (PSt.new n) 0 :=
  ⟨(PL.new h1 h2 (fun _ => ⟨0, 0, 0, 0, 0, 0, 0⟩)).ok, fun i _ => by show (0 : Int) ≤ 0 ∧ (0 : Int) ≤ _; omega, by show (0 : Int) ≤ 0 ∧ (0 : Int) ≤ _; omega⟩
end
/-- Every number is no handle of one of n slots, or the handle of one. -/
def NoHandle (n : Nat) (x : Int) : Prop := idxV x < 1 ∨ n < idxV x ∨ tagV x % 2 = 0
structure IsHandle (n : Nat) (x : Int) (i : Nat) (g : Int) : Prop where
  eq : x = hnd i g
  i1 : 1 ≤ i
  i2 : i ≤ n
  g0 : 0 ≤ g
  g1 : g ≤ 1099511627775
  odd : g % 2 = 1
theorem handle_or (n : Nat) (x : Int) : NoHandle n x ∨ ∃ i g, IsHandle n x i g := by
  by_cases hw : 0 ≤ x ∧ x ≤ 1152921504606846975
  · have e1 := idx_ok x hw.1 hw.2
    have e2 := tag_ok x hw.1 hw.2
    by_cases hb : idxV x < 1 ∨ n < idxV x ∨ tagV x % 2 = 0
    · exact .inl hb
    · refine .inr ⟨(idxV x).toNat, tagV x, ?_, by omega, by omega, by omega, by omega, by omega⟩
      unfold hnd
      omega
  · left
    left
    rw [idx_bad x (by omega)]
    omega
end Go.Proofs.YtjbhnpofdafmbaaGreatDoor
/- A region in whatever order; some of its operations, one behind the other, turn the world, each to one of the worlds that a property tells; some may not be wanted. -/
namespace Go.Proofs.YtjbhnpofdafmbaaGreatDoor
open Go.RowKit
section
variable {P : Program} {ops : Array Oper} {Q : Exit → Act → World → Prop}
/-- In which worlds operation i may come up, and which it may leave. -/
def LegalP (R : Nat → Nat → Bool) (As : List Nat) (W : Nat → World → Prop) (i : Nat) (w : World) (M : World → Prop) : Prop :=
  (∃ j, As[j]? = some i ∧ W j w ∧ M = W (j + 1)) ∨ (i ∉ As ∧ (M = fun w' => w' = w) ∧ ∃ j, j ≤ As.length ∧ W j w ∧ ∀ q x, As[q]? = some x → R x i = true → j ≤ q)
def YieldsP (P : Program) (ops : Array Oper) (D : List (Option Nat)) (val : Nat → Value) (a0 : Act) (R : Nat → Nat → Bool) (As : List Nat) (W : Nat → World → Prop) (Q : Exit → Act → World → Prop) (i : Nat) : Prop :=
  ∀ (o : Oper) (a : Act) (w : World) (M : World → Prop) (K : Act → World → Prop), ops[i]? = some o → o.dst = D.getD i none → a.tmps.size = a0.tmps.size → (∀ s, some s ∉ D → a.eval (.tmp s) = a0.eval (.tmp s)) → (∀ j d, D.getD j none = some d → waitsB ops i j = true → a.eval (.tmp d) = val j) → (∀ j d, D.getD j none = some d → waitsB ops j i = true → a.eval (.tmp d) = a0.eval (.tmp d)) → LegalP R As W i w M → (∀ w', M w' → K (a.put (D.getD i none) (val i)) w') → o.wp P a w K Q
structure IChainP (ops : Array Oper) (D : List (Option Nat)) (val : Nat → Value) (a0 : Act) (As : List Nat) (W : Nat → World → Prop) (l : Array Bool) (a : Act) (w : World) : Prop where
  size : l.size = D.length
  tsize : a.tmps.size = a0.tmps.size
  defers : a.defers = a0.defers
  off : ∀ s, some s ∉ D → a.tmps[s]? = a0.tmps[s]?
  val : ∀ i d, D.getD i none = some d → on l i = true → a.eval (.tmp d) = val i
  pend : ∀ i d, D.getD i none = some d → on l i = false → a.tmps[d]? = a0.tmps[d]?
  closed : ∀ i j, on l i = true → waitsB ops i j = true → on l j = true
  w : ∃ c, c ≤ As.length ∧ (∀ j x, As[j]? = some x → (on l x = true ↔ j < c)) ∧ W c w
theorem wp_region_chainP {id : Nat} {a0 : Act} {w : World} (hm : P.follows .mixedOrders = true) (D : List (Option Nat)) (val : Nat → Value) (hok : regOk ops D a0.tmps.size = true) (As : List Nat) (W : Nat → World → Prop) (h0 : W 0 w.drew) (hnd : As.Nodup) (hch : chainOk ops As D.length = true)
    (hg : ∀ (i g : Nat) (b : Bool), (ops[i]?).bind (fun o : Oper => o.guard) = some (g, b) → ∃ b', val g = .bool b' ∧ (b' ≠ b → val i = undef ∧ i ∉ As))
    (hstep : ∀ i, i < D.length → (∀ (g : Nat) (b : Bool), (ops[i]?).bind (fun o : Oper => o.guard) = some (g, b) → val g = .bool b) → YieldsP P ops D val a0 (reachB ops ops.size) As W Q i)
    (hend : ∀ a', a'.tmps.size = a0.tmps.size → a'.defers = a0.defers → (∀ s, some s ∉ D → a'.tmps[s]? = a0.tmps[s]?) → (∀ i d, D.getD i none = some d → a'.eval (.tmp d) = val i) → ∀ w', W As.length w' → Q .normal a' w') :
    (Code.region id ops true).wp P Q a0 w := by
  have hn : ops.size = D.length := by
    unfold regOk at hok
    simp only [Bool.and_eq_true, beq_iff_eq] at hok
    exact hok.1
  unfold chainOk at hch
  rw [Bool.and_eq_true, List.all_eq_true, List.all_eq_true] at hch
  obtain ⟨hAlt, hAr⟩ := hch
  have alt : ∀ {j x : Nat}, As[j]? = some x → x < D.length := fun {j x} hj => by simpa using hAlt x (List.mem_of_getElem? hj)
  have reach : ∀ {j x y : Nat}, As[j]? = some x → As[j + 1]? = some y → reachB ops ops.size y x = true := fun {j x y} h1 h2 => by
    have hl := (List.getElem?_eq_some_iff.1 h2).1
    have := hAr j (List.mem_range.2 (by omega))
    rw [List.getD_eq_getElem?_getD, List.getD_eq_getElem?_getD, h1, h2] at this
    exact this
  have inj : ∀ {j k x : Nat}, As[j]? = some x → As[k]? = some x → j = k := fun {j k x} h1 h2 => by
    obtain ⟨l1, e1⟩ := List.getElem?_eq_some_iff.1 h1
    obtain ⟨l2, e2⟩ := List.getElem?_eq_some_iff.1 h2
    have hp := List.pairwise_iff_getElem.1 hnd
    rcases Nat.lt_trichotomy j k with h | h | h
    · exact absurd (e1.trans e2.symm) (hp j k l1 l2 h)
    · exact h
    · exact absurd (e2.trans e1.symm) (hp k j l2 l1 h)
  have mem : ∀ s i, D.getD i none = some s → some s ∈ D := fun s i e => by
    have hi : i < D.length := by
      apply Classical.byContradiction
      intro h
      rw [List.getD_eq_getElem?_getD, List.getElem?_eq_none (by omega)] at e
      cases e
    rw [List.getD_eq_getElem?_getD, List.getElem?_eq_getElem hi] at e
    have := List.getElem_mem hi
    rw [show D[i] = some s from e] at this
    exact this
  have lt : ∀ i d, D.getD i none = some d → i < D.length := fun i d e => by
    apply Classical.byContradiction
    intro h
    rw [List.getD_eq_getElem?_getD, List.getElem?_eq_none (by omega)] at e
    cases e
  have hoff : ∀ i, on (Array.replicate ops.size false) i = false := fun i => by
    simp only [on, Array.getD_eq_getD_getElem?, Array.getElem?_replicate]
    split <;> rfl
  refine wp_region_inv hm (fun i o ho => (reg_at hok ho).2.2.1) (IChainP ops D val a0 As W) (fun l a w h => by rw [hn]; exact h.size) ?_ ?_ ?_
  · exact ⟨by simp [hn], rfl, rfl, fun _ _ => rfl, fun i d _ hh => (by rw [hoff] at hh; cases hh), fun _ _ _ _ => rfl, fun i j hh => (by rw [hoff] at hh; cases hh), 0, Nat.zero_le _, fun j x _ => by rw [hoff]; simp, h0⟩
  · intro l a w' h i hi
    obtain ⟨hu, o, ho, hall⟩ := mem_ready.1 hi
    obtain ⟨r1, r2, r3, r4, r5, r6⟩ := reg_at hok ho
    have hoi : on l i = false := by simp only [on]; simp [Array.getD, h.size, r1] at hu ⊢; exact hu
    have hset : ∀ j, on (l.setIfInBounds i true) j = if i = j then true else on l j := fun j => on_set i j (by rw [h.size]; exact r1)
    have hdep : ∀ j d, D.getD j none = some d → waitsB ops i j = true → a.eval (.tmp d) = val j := fun j d hjd hh => h.val j d hjd (dep_of hi (waits_map hh))
    have hpre : ∀ j d, D.getD j none = some d → waitsB ops j i = true → a.eval (.tmp d) = a0.eval (.tmp d) := fun j d hjd hh => by
      have : on l j = false := by
        cases hj : on l j with
        | false => rfl
        | true => rw [h.closed j i hj hh] at hoi; cases hoi
      simp only [Act.eval, Array.getD_eq_getD_getElem?, h.pend j d hjd this]
    obtain ⟨c, hc1, hc2, hc3⟩ := h.w
    have keeps : ∀ w'' : World, (∃ c', c' ≤ As.length ∧ (∀ j x, As[j]? = some x → (on (l.setIfInBounds i true) x = true ↔ j < c')) ∧ W c' w'') → IChainP ops D val a0 As W (l.setIfInBounds i true) (a.put (D.getD i none) (val i)) w'' := fun w'' hw => by
      have hputs : (a.put (D.getD i none) (val i)).tmps.size = a0.tmps.size := by
        cases hD : D.getD i none <;> simp [Act.put, h.tsize]
      have hputd : (a.put (D.getD i none) (val i)).defers = a0.defers := by
        cases hD : D.getD i none <;> simp [Act.put, h.defers]
      refine ⟨by simp [h.size], hputs, hputd, fun s hs => ?_, fun j d hjd hh => ?_, fun j d hjd hh => ?_, fun x y hx hy => ?_, hw⟩
      · cases hD : D.getD i none with
        | none => exact h.off s hs
        | some d =>
          have : d ≠ s := fun e => hs (mem s i (by rw [hD, e]))
          simp only [Act.put, Array.getElem?_setIfInBounds, this, if_false]
          exact h.off s hs
      · rw [hset] at hh
        cases hD : D.getD i none with
        | none =>
          have hne : i ≠ j := fun e => by subst e; rw [hD] at hjd; cases hjd
          rw [if_neg hne] at hh
          exact h.val j d hjd hh
        | some d' =>
          rw [ev_put _ _ _ (by rw [h.tsize]; exact r4 d' hD)]
          by_cases e : i = j
          · subst e
            rw [hD] at hjd
            cases hjd
            simp
          · rw [if_neg e] at hh
            rw [if_neg (fun e2 => e (r5 j d (lt j d hjd) (by rw [hD, e2]) hjd))]
            exact h.val j d hjd hh
      · rw [hset] at hh
        by_cases e : i = j
        · rw [if_pos e] at hh
          cases hh
        · rw [if_neg e] at hh
          cases hD : D.getD i none with
          | none => exact h.pend j d hjd hh
          | some d' =>
            have hdd : d' ≠ d := fun e2 => e (r5 j d (lt j d hjd) (by rw [hD, e2]) hjd)
            simp only [Act.put, Array.getElem?_setIfInBounds, hdd, if_false]
            exact h.pend j d hjd hh
      · rw [hset] at hx ⊢
        by_cases e2 : i = y
        · rw [if_pos e2]
        · rw [if_neg e2]
          by_cases e1 : i = x
          · subst e1
            exact dep_of hi (waits_map hy)
          · rw [if_neg e1] at hx
            exact h.closed x y hx hy
    have legal : ∃ M : World → Prop, LegalP (reachB ops ops.size) As W i w' M ∧ (∀ w'', M w'' → ∃ c', c' ≤ As.length ∧ (∀ j x, As[j]? = some x → (on (l.setIfInBounds i true) x = true ↔ j < c')) ∧ W c' w'') ∧ (i ∉ As → M w') := by
      by_cases hmem : i ∈ As
      · obtain ⟨j, hj⟩ := List.getElem?_of_mem hmem
        have hjl := (List.getElem?_eq_some_iff.1 hj).1
        have hge : c ≤ j := Nat.le_of_not_lt fun hlt => by
          have := (hc2 j i hj).2 hlt
          rw [hoi] at this
          cases this
        have hle : j ≤ c := by
          cases j with
          | zero => exact Nat.zero_le _
          | succ k =>
            obtain ⟨x, hx⟩ : ∃ x, As[k]? = some x := ⟨As[k]'(by omega), List.getElem?_eq_getElem (by omega)⟩
            have := (hc2 k x hx).1 (reach_on_ready hi (reach hx hj) h.closed)
            omega
        obtain rfl : c = j := by omega
        refine ⟨W (c + 1), .inl ⟨c, hj, hc3, rfl⟩, fun w'' hw'' => ⟨c + 1, by omega, fun k x hk => ?_, hw''⟩, fun hno => absurd hmem hno⟩
        rw [hset]
        by_cases e : i = x
        · subst e
          have := inj hj hk
          simp [this]
        · rw [if_neg e, hc2 k x hk]
          have : k ≠ c := fun ek => e (by rw [ek] at hk; rw [hj] at hk; exact Option.some.inj hk)
          omega
      · have hup : ∀ q x, As[q]? = some x → reachB ops ops.size x i = true → c ≤ q := fun q x hq hr => Nat.le_of_not_lt fun hl => by
          have := reach_on h.closed ops.size x i ((hc2 q x hq).2 hl) hr
          rw [hoi] at this
          cases this
        refine ⟨fun w'' => w'' = w', .inr ⟨hmem, rfl, c, hc1, hc3, hup⟩, fun w'' hw'' => ⟨c, hc1, fun k x hk => ?_, by rw [hw'']; exact hc3⟩, fun _ => rfl⟩
        rw [hset, if_neg (fun e => hmem (by rw [e]; exact List.mem_of_getElem? hk))]
        exact hc2 k x hk
    obtain ⟨M, leg, hM, hsame⟩ := legal
    have hyield : ∀ (g : Nat) (b b' : Bool), o.guard = some (g, b) → val g = .bool b' → yielded ops a.tmps g = some b' := fun g b b' hgd h2 => by
      obtain ⟨h1, h3, h4⟩ := r6 g b hgd
      obtain ⟨d, hgD⟩ := Option.isSome_iff_exists.1 h4
      have hv := hdep g d hgD h3
      rw [h2] at hv
      have hgo : ∃ og, ops[g]? = some og := ⟨ops[g]'(by omega), Array.getElem?_eq_getElem (by omega)⟩
      obtain ⟨og, hog⟩ := hgo
      unfold yielded
      rw [hog]
      simp only [Option.bind_some, (reg_at hok hog).2.1, hgD]
      have hlt : d < a.tmps.size := by rw [h.tsize]; exact (reg_at hok hog).2.2.2.1 d hgD
      simp only [Act.eval, Array.getD, hlt, dite_true] at hv
      rw [Array.getElem?_eq_getElem hlt]
      have : a.tmps[d] = .bool b' := hv
      rw [this]
    unfold wpOp
    simp only [ho]
    by_cases hwant : Region.wanted o (yielded ops a.tmps) = true
    · rw [if_pos hwant]
      refine .inl (hstep i r1 (fun g b hgb => ?_) o a w' M _ ho r2 h.tsize (fun s hs => ?_) hdep hpre leg (fun w'' hw'' => keeps w'' (hM w'' hw'')))
      · obtain ⟨b', h1, h2⟩ := hg i g b hgb
        rw [ho] at hgb
        have hgd : o.guard = some (g, b) := hgb
        have hy := hyield g b b' hgd h1
        simp [Region.wanted, hgd, hy] at hwant
        rw [h1, hwant]
      · simp only [Act.eval, Array.getD_eq_getD_getElem?, h.off s hs]
    · rw [if_neg hwant, r2]
      cases hgd : o.guard with
      | none => exact absurd (by simp [Region.wanted, hgd]) hwant
      | some gb =>
        obtain ⟨g, b⟩ := gb
        obtain ⟨b', h1, h2⟩ := hg i g b (by rw [ho]; exact hgd)
        have hy := hyield g b b' hgd h1
        have hne : b' ≠ b := fun e => hwant (by simp [Region.wanted, hgd, hy, e])
        have hs := hsame (h2 hne).2
        rw [← (h2 hne).1]
        exact keeps w' (hM w' hs)
  · intro l a w' h hall
    have hal : ∀ i, i < D.length → on l i = true := fun i hi => by
      have := hall i (by rw [hn]; exact hi)
      simp only [on, Array.getD, h.size, hi, dite_true] at this ⊢
      exact this
    obtain ⟨c, hc1, hc2, hc3⟩ := h.w
    have hcm : c = As.length := by
      apply Classical.byContradiction
      intro hne
      have hlt : c < As.length := by omega
      have hx : As[c]? = some As[c] := List.getElem?_eq_getElem hlt
      have := (hc2 c _ hx).1 (hal _ (alt hx))
      omega
    rw [hcm] at hc3
    exact hend a h.tsize h.defers h.off (fun i d hD => h.val i d hD (hal i (lt i d hD))) w' hc3
end
theorem LegalP.at_ {R : Nat → Nat → Bool} {As : List Nat} {W : Nat → World → Prop} {i j : Nat} {w : World} {M : World → Prop} (h : LegalP R As W i w M) (hnd : As.Nodup) (hj : As[j]? = some i) : W j w ∧ M = W (j + 1) := by
  rcases h with ⟨k, h1, h2, h3⟩ | ⟨h1, -⟩
  · have : k = j := by
      obtain ⟨l1, e1⟩ := List.getElem?_eq_some_iff.1 h1
      obtain ⟨l2, e2⟩ := List.getElem?_eq_some_iff.1 hj
      have hp := List.pairwise_iff_getElem.1 hnd
      rcases Nat.lt_trichotomy k j with h | h | h
      · exact absurd (e1.trans e2.symm) (hp k j l1 l2 h)
      · exact h
      · exact absurd (e2.trans e1.symm) (hp j k l2 l1 h)
    subst this
    exact ⟨h2, h3⟩
  · exact absurd (List.mem_of_getElem? hj) h1
theorem LegalP.off {R : Nat → Nat → Bool} {As : List Nat} {W : Nat → World → Prop} {i : Nat} {w : World} {M : World → Prop} (h : LegalP R As W i w M) (hi : i ∉ As) : M w ∧ ∃ j, j ≤ As.length ∧ W j w ∧ ∀ q x, As[q]? = some x → R x i = true → j ≤ q := by
  rcases h with ⟨k, h1, -⟩ | ⟨-, h2, h3⟩
  · exact absurd (List.mem_of_getElem? h1) hi
  · exact ⟨by rw [h2], h3⟩
section
variable {P : Program} {o : Oper} {a : Act} {w : World} {K : Act → World → Prop} {Q : Exit → Act → World → Prop} {d : Option Nat}
theorem l_callP {f : FuncId} {fn : Func} {c : Code} {args : Array Operand} {tys : Array TypeId} {xs : Array Value} {v : Value} {M : World → Prop} (hd : o.dst = d) (h : o.op = .call { callee := .value (.func f), args := args, argTypes := tys }) (hx : args.map a.eval = xs)
    (hf : P.funcs[f]? = some fn) (hname : (fn.name == "runtime.NumGoroutine") = false) (hb : fn.body = some c) (hc : Calls P f xs w fun e w'' => e = .returned v ∧ M w'') (hK : ∀ w', M w' → K (a.put d v) w') : o.wp P a w K Q := by
  have hr : (execOp a.eval o).run P w = .ok (.enter f xs) w := by
    simp [execOp, h, resolve, invoke, hx, Deferred.ofValue, Go.MuLone.run_callFunc_enter hf hname hb, Act.eval]
  unfold Oper.wp
  rw [hr, Oper.upon_enter]
  refine hc.mono ?_
  rintro e w'' ⟨rfl, hM⟩
  rw [hd]
  exact hK w'' hM
end
end Go.Proofs.YtjbhnpofdafmbaaGreatDoor

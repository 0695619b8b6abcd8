/- Package pool's Back, alone, by contract. -/
import Derived.Test.YtjbhnpofdafmbaaGreatDoorJ27
import Derived.Test.YtjbhnpofdafmbaaGreatDoorRows
import Derived.Test.YtjbhnpofdafmbaaGreatDoorJ12
import Derived.Test.YtjbhnpofdafmbaaGreatDoorJ10
import Derived.Test.YtjbhnpofdafmbaaGreatDoorJ13
import Derived.Test.YtjbhnpofdafmbaaGreatDoorJ26
namespace Go.Proofs.YtjbhnpofdafmbaaGreatDoor
open Go.RowKit
section
variable {w : World} {b : Nat} {S : Slot}
/-- What 'again' leaves. -/
def againW (w : World) (S : Slot) (gen : Int) : World := lifeW (((w.alloc (.cells (toldC S) 64)).drew).alloc (.cells (toldC S) 64)) gen S.a S.b S.c S.d S.mark S.link
set_option maxRecDepth 100000 in
set_option maxHeartbeats 1600000 in
theorem cAgain (h : w.heap[b]? = some (lifeObj S)) (gen : Int) : Calls Tryz.prog 90 #[.pointer (some ⟨b, 0, none⟩), .int .i64 gen] w fun e w' => e = .returned (.pointer (some ⟨w.heap.size + 3, 0, none⟩)) ∧ w' = againW w S gen := by
  have HT := cTold h
  have HN := cNewLife (((w.alloc (.cells (toldC S) 64)).drew).alloc (.cells (toldC S) 64)) gen S.a S.b S.c S.d S.mark S.link
  rw [show (((w.alloc (.cells (toldC S) 64)).drew).alloc (.cells (toldC S) 64)).heap.size + 1 = w.heap.size + 3 by simp] at HN
  clear h
  go_enter Tryz.func90, Tryz.ntmps90
  go_wp2_with (first
    | (go_at_call 65; refine HT.mono ?_; rintro e w' ⟨rfl, rfl⟩)
    | (go_at_call 60; refine HN.mono ?_; rintro e w' ⟨rfl, hw⟩; obtain rfl := hw.symm))
  go_ret
  exact ⟨rfl, rfl⟩
theorem againW_turned (l : List Nat) (w : World) (S : Slot) (gen : Int) : Turned l w (againW w S gen) := (((Turned.refl l w).alloc _).drew.alloc _).trans (lifeW_turned l _ _ _ _ _ _ _ _)
theorem againW_new (w : World) (S : Slot) (gen : Int) : (againW w S gen).heap[w.heap.size + 3]? = some (lifeObj ⟨gen, S.mark, S.link, S.a, S.b, S.c, S.d⟩) := by
  have h := lifeW_new (((w.alloc (.cells (toldC S) 64)).drew).alloc (.cells (toldC S) 64)) gen S.a S.b S.c S.d S.mark S.link
  rwa [show (((w.alloc (.cells (toldC S) 64)).drew).alloc (.cells (toldC S) 64)).heap.size + 1 = w.heap.size + 3 by simp] at h
end
set_option maxRecDepth 100000 in
set_option maxHeartbeats 1600000 in
theorem pback_r5 {K : Act → World → Prop} {Q : Exit → Act → World → Prop} {a : Act} {w : World} {p sb pb nb i : Nat} {L : Nat → Nat} {s : PSt} {g : Int} (hs : a.tmps.size = 60) (x0 : a.eval (.tmp 0) = pv p 0) (x2 : a.eval (.tmp 2) = vi (i : Nat)) (x3 : a.eval (.tmp 3) = vi g) (x9 : a.eval (.tmp 9) = pv (L i) 0) (h : PA w p sb pb nb L s) (h2 : i ≤ s.n) (g0 : 0 ≤ g) (g1 : g ≤ 1000000) (hg : (s.slot i).gen = g)
    (hEnd : ∀ a1 w1, a1.tmps.size = a.tmps.size → a1.defers = a.defers → (∀ s : Nat, s < 9 → a1.eval (.tmp s) = a.eval (.tmp s)) → a1.eval (.tmp 52) = .bool false → (w1 = (againW w.drew (s.slot i) (g + 2)).setCell ⟨sb, i, none⟩ (.pointer (some ⟨w.drew.heap.size + 3, 0, none⟩))) → K a1 w1) :
    (Code.region 5 (opsOf 5 Tryz.f32.body) true).wp Tryz.prog (Exit.then K Q) a w := by
  have hA : PA (againW w.drew (s.slot i) (g + 2)) p sb pb nb L s := h.keep ((Turned.refl [] w).drew.trans (againW_turned [] w.drew _ _)) (by simp)
  have HC : Calls Tryz.prog 59 #[pv sb i, pv (L i) 0, pv (w.drew.heap.size + 3) 0] (againW w.drew (s.slot i) (g + 2)) fun e w' => e = .returned (.bool true) ∧ w' = (againW w.drew (s.slot i) (g + 2)).setCell ⟨sb, i, none⟩ (.pointer (some ⟨w.drew.heap.size + 3, 0, none⟩)) := cPCas (ptr_cell hA.slots h2) (froz_at hA.slots i) (hA.life i h2) rfl (againW_new w.drew (s.slot i) (g + 2)) rfl
  clear hA
  refine wp_region_chainP (by kernel_rfl) [some 32, some 33, some 34, some 35, some 36, some 37, some 38, some 39, some 40, some 41, some 42, some 43, some 44, some 45, some 46, some 47, some 48, some 49, some 50, some 51, some 52] (fun kk => match kk with
      | 0 => pv (L i) 0
      | 1 => pv (L i) 0
      | 2 => pv (L i) 0
      | 3 => vi (s.slot i).gen
      | 4 => vi g
      | 5 => Value.bool false
      | 6 => Value.bool false
      | 7 => pv p 0
      | 8 => pv p 0
      | 9 => pv p 0
      | 10 => Value.slice (some ⟨sb, 0, none⟩) (s.n + 1) (s.n + 1)
      | 11 => vi (i : Nat)
      | 12 => pv sb i
      | 13 => pv (L i) 0
      | 14 => pv (L i) 0
      | 15 => vi g
      | 16 => vi (g + 2)
      | 17 => pv (w.drew.heap.size + 3) 0
      | 18 => Value.bool true
      | 19 => Value.bool false
      | 20 => Value.bool false
      | _ => undef) (by rw [hs]; kernel_rfl) [17, 18] (fun jj => match jj with
      | 0 => fun x => x = w.drew
      | 1 => fun x => x = againW w.drew (s.slot i) (g + 2)
      | _ => fun x => x = (againW w.drew (s.slot i) (g + 2)).setCell ⟨sb, i, none⟩ (.pointer (some ⟨w.drew.heap.size + 3, 0, none⟩))) rfl (by decide) (by decide +kernel) ?_ ?_ ?_
  · intro kk gg bq h
    obtain ⟨rfl, rfl⟩ := one_guard (g0 := 6) (b0 := false) (by kernel_rfl) h
    exact ⟨false, rfl, fun h => absurd rfl h⟩
  · intro kk hk hgd o ac wa M K ho hd _ hoff hv hpre hL hK
    rcases (by simp at hk; omega : kk = 0 ∨ kk = 1 ∨ kk = 2 ∨ kk = 3 ∨ kk = 4 ∨ kk = 5 ∨ kk = 6 ∨ kk = 7 ∨ kk = 8 ∨ kk = 9 ∨ kk = 10 ∨ kk = 11 ∨ kk = 12 ∨ kk = 13 ∨ kk = 14 ∨ kk = 15 ∨ kk = 16 ∨ kk = 17 ∨ kk = 18 ∨ kk = 19 ∨ kk = 20) with rfl | rfl | rfl | rfl | rfl | rfl | rfl | rfl | rfl | rfl | rfl | rfl | rfl | rfl | rfl | rfl | rfl | rfl | rfl | rfl | rfl
    · obtain ⟨hM, jw, hjw, hW, hjR⟩ := hL.off (by decide)
      replace hK := hK _ hM
      exact l_val hd ((x_move (op_is rfl ho)).trans (by rw [(hoff 9 (by decide)).trans x9]; rfl)) hK
    · obtain ⟨hM, jw, hjw, hW, hjR⟩ := hL.off (by decide)
      replace hK := hK _ hM
      exact l_val hd (x_nil (op_is rfl ho) (hv 0 32 rfl (by kernel_rfl))) hK
    · obtain ⟨hM, jw, hjw, hW, hjR⟩ := hL.off (by decide)
      replace hK := hK _ hM
      exact l_val hd (x_field (op_is rfl ho) (by rw [hv 1 33 rfl (by kernel_rfl)]; unfold pv; go_simp)) hK
    · obtain ⟨hM, jw, hjw, hW, hjR⟩ := hL.off (by decide)
      replace hK := hK _ hM
      have hj := hjR 0 17 rfl (by decide +kernel)
      obtain rfl : jw = 0 := by omega
      have hW : wa = w.drew := hW
      subst hW
      exact l_val hd (x_load (op_is rfl ho) (by rw [hv 2 34 rfl (by kernel_rfl)]; exact run_lifeGen (w := w.drew) (h.life i h2))) hK
    · obtain ⟨hM, jw, hjw, hW, hjR⟩ := hL.off (by decide)
      replace hK := hK _ hM
      exact l_val hd ((x_move (op_is rfl ho)).trans (by rw [(hoff 3 (by decide)).trans x3]; rfl)) hK
    · obtain ⟨hM, jw, hjw, hW, hjR⟩ := hL.off (by decide)
      replace hK := hK _ hM
      exact l_val hd ((x_neqInt (op_is rfl ho) (hv 3 35 rfl (by kernel_rfl)) (hv 4 36 rfl (by kernel_rfl))).trans (by rw [show ((s.slot i).gen != g) = false from by simp [hg]]; rfl)) hK
    · obtain ⟨hM, jw, hjw, hW, hjR⟩ := hL.off (by decide)
      replace hK := hK _ hM
      exact l_val hd ((x_move (op_is rfl ho)).trans (by rw [hv 5 37 rfl (by kernel_rfl)]; rfl)) hK
    · obtain ⟨hM, jw, hjw, hW, hjR⟩ := hL.off (by decide)
      replace hK := hK _ hM
      exact l_val hd ((x_move (op_is rfl ho)).trans (by rw [(hoff 0 (by decide)).trans x0]; rfl)) hK
    · obtain ⟨hM, jw, hjw, hW, hjR⟩ := hL.off (by decide)
      replace hK := hK _ hM
      exact l_val hd (x_nil (op_is rfl ho) (hv 7 39 rfl (by kernel_rfl))) hK
    · obtain ⟨hM, jw, hjw, hW, hjR⟩ := hL.off (by decide)
      replace hK := hK _ hM
      exact l_val hd (x_field (op_is rfl ho) (by rw [hv 8 40 rfl (by kernel_rfl)]; unfold pv; go_simp)) hK
    · obtain ⟨hM, jw, hjw, hW, hjR⟩ := hL.off (by decide)
      replace hK := hK _ hM
      have hj := hjR 1 18 rfl (by decide +kernel)
      rcases (by omega : jw = 0 ∨ jw = 1) with rfl | rfl
      · have hW : wa = w.drew := hW
        subst hW
        exact l_val hd (x_load (op_is rfl ho) (by rw [hv 9 41 rfl (by kernel_rfl)]; exact run_loadSlots (w := w.drew) h.pool)) hK
      · have hW : wa = againW w.drew (s.slot i) (g + 2) := hW
        subst hW
        exact l_val hd (x_load (op_is rfl ho) (by rw [hv 9 41 rfl (by kernel_rfl)]; exact run_loadSlots ((againW_turned [] w.drew _ _).heap (show w.drew.heap[p]? = _ from h.pool) (by simp)))) hK
    · obtain ⟨hM, jw, hjw, hW, hjR⟩ := hL.off (by decide)
      replace hK := hK _ hM
      exact l_val hd ((x_move (op_is rfl ho)).trans (by rw [(hoff 2 (by decide)).trans x2]; rfl)) hK
    · obtain ⟨hM, jw, hjw, hW, hjR⟩ := hL.off (by decide)
      replace hK := hK _ hM
      exact l_val hd (x_index (op_is rfl ho) (by rw [hv 10 42 rfl (by kernel_rfl), hv 11 43 rfl (by kernel_rfl)]; exact run_indexSlots _ sb s.n i h2)) hK
    · obtain ⟨hM, jw, hjw, hW, hjR⟩ := hL.off (by decide)
      replace hK := hK _ hM
      exact l_val hd ((x_move (op_is rfl ho)).trans (by rw [(hoff 9 (by decide)).trans x9]; rfl)) hK
    · obtain ⟨hM, jw, hjw, hW, hjR⟩ := hL.off (by decide)
      replace hK := hK _ hM
      exact l_val hd ((x_move (op_is rfl ho)).trans (by rw [(hoff 9 (by decide)).trans x9]; rfl)) hK
    · obtain ⟨hM, jw, hjw, hW, hjR⟩ := hL.off (by decide)
      replace hK := hK _ hM
      exact l_val hd ((x_move (op_is rfl ho)).trans (by rw [(hoff 3 (by decide)).trans x3]; rfl)) hK
    · obtain ⟨hM, jw, hjw, hW, hjR⟩ := hL.off (by decide)
      replace hK := hK _ hM
      exact l_val (v := vi (g + 2)) hd ((x_addc (op_is rfl ho) (hv 15 47 rfl (by kernel_rfl)) rfl (by omega) (by omega)).trans (by first | rfl | (congr 3; omega))) hK
    · obtain ⟨hW, rfl⟩ := hL.at_ (by decide) (j := 0) rfl
      have hW : wa = w.drew := hW
      subst hW
      exact l_callP hd (op_is rfl ho) (by simp only [List.map_toArray, List.map_cons, List.map_nil, hv 14 46 rfl (by kernel_rfl), hv 16 48 rfl (by kernel_rfl)] <;> rfl) Tryz.func90 (by kernel_rfl) (by rfl) (cAgain (w := w.drew) (h.life i h2) (g + 2)) hK
    · obtain ⟨hW, rfl⟩ := hL.at_ (by decide) (j := 1) rfl
      have hW : wa = againW w.drew (s.slot i) (g + 2) := hW
      subst hW
      exact l_callP hd (op_is rfl ho) (by simp only [List.map_toArray, List.map_cons, List.map_nil, hv 12 44 rfl (by kernel_rfl), hv 13 45 rfl (by kernel_rfl), hv 17 49 rfl (by kernel_rfl)] <;> rfl) Tryz.func59 (by kernel_rfl) (by rfl) (HC) hK
    · obtain ⟨hM, jw, hjw, hW, hjR⟩ := hL.off (by decide)
      replace hK := hK _ hM
      exact l_val hd ((x_not (op_is rfl ho) (hv 18 50 rfl (by kernel_rfl))).trans rfl) hK
    · obtain ⟨hM, jw, hjw, hW, hjR⟩ := hL.off (by decide)
      replace hK := hK _ hM
      exact l_val (v := .bool false) hd ((x_pick (op_is (p := .pick (.tmp 38) (.const (.bool true)) (.tmp 51)) rfl ho) (hv 6 38 rfl (by kernel_rfl))).trans (by show Result.ok (Next.value (ac.eval (.tmp 51))) _ = _; rw [hv 19 51 rfl (by kernel_rfl)]; rfl)) hK
  · intro a1 g1 g2 g3 g4 w1 hW
    exact hEnd a1 w1 g1 g2 (fun s hs'  => ev_same (g3 s (fun hm => by simp at hm; omega))) (g4 20 52 rfl) hW
set_option maxRecDepth 100000 in
set_option maxHeartbeats 1600000 in
theorem pbackgone_r5 {K : Act → World → Prop} {Q : Exit → Act → World → Prop} {a : Act} {w : World} {p sb pb nb i : Nat} {L : Nat → Nat} {s : PSt} {g : Int} (hs : a.tmps.size = 60) (x3 : a.eval (.tmp 3) = vi g) (x9 : a.eval (.tmp 9) = pv (L i) 0) (h : PA w p sb pb nb L s) (h2 : i ≤ s.n) (hg : (s.slot i).gen ≠ g)
    (hEnd : ∀ a1 w1, a1.tmps.size = a.tmps.size → a1.defers = a.defers → (∀ s : Nat, s < 9 → a1.eval (.tmp s) = a.eval (.tmp s)) → a1.eval (.tmp 52) = .bool true → (w1 = w.drew) → K a1 w1) :
    (Code.region 5 (opsOf 5 Tryz.f32.body) true).wp Tryz.prog (Exit.then K Q) a w := by
  refine wp_region_chainP (by kernel_rfl) [some 32, some 33, some 34, some 35, some 36, some 37, some 38, some 39, some 40, some 41, some 42, some 43, some 44, some 45, some 46, some 47, some 48, some 49, some 50, some 51, some 52] (fun kk => match kk with
      | 0 => pv (L i) 0
      | 1 => pv (L i) 0
      | 2 => pv (L i) 0
      | 3 => vi (s.slot i).gen
      | 4 => vi g
      | 5 => Value.bool true
      | 6 => Value.bool true
      | 7 => undef
      | 8 => undef
      | 9 => undef
      | 10 => undef
      | 11 => undef
      | 12 => undef
      | 13 => undef
      | 14 => undef
      | 15 => undef
      | 16 => undef
      | 17 => undef
      | 18 => undef
      | 19 => undef
      | 20 => Value.bool true
      | _ => undef) (by rw [hs]; kernel_rfl) [] (fun jj => match jj with
      | _ => fun x => x = w.drew) rfl (by decide) (by decide +kernel) ?_ ?_ ?_
  · intro kk gg bq h
    obtain ⟨rfl, rfl⟩ := one_guard (g0 := 6) (b0 := false) (by kernel_rfl) h
    refine ⟨true, rfl, fun _ => ⟨?_, by simp⟩⟩
    match kk, h with
    | 0, h => exact (nomatch (show (none : Option (Nat × Bool)) = some (6, false) from h))
    | 1, h => exact (nomatch (show (none : Option (Nat × Bool)) = some (6, false) from h))
    | 2, h => exact (nomatch (show (none : Option (Nat × Bool)) = some (6, false) from h))
    | 3, h => exact (nomatch (show (none : Option (Nat × Bool)) = some (6, false) from h))
    | 4, h => exact (nomatch (show (none : Option (Nat × Bool)) = some (6, false) from h))
    | 5, h => exact (nomatch (show (none : Option (Nat × Bool)) = some (6, false) from h))
    | 6, h => exact (nomatch (show (none : Option (Nat × Bool)) = some (6, false) from h))
    | 7, h => exact rfl
    | 8, h => exact rfl
    | 9, h => exact rfl
    | 10, h => exact rfl
    | 11, h => exact rfl
    | 12, h => exact rfl
    | 13, h => exact rfl
    | 14, h => exact rfl
    | 15, h => exact rfl
    | 16, h => exact rfl
    | 17, h => exact rfl
    | 18, h => exact rfl
    | 19, h => exact rfl
    | 20, h => exact (nomatch (show (none : Option (Nat × Bool)) = some (6, false) from h))
    | k + 21, _ => rfl
  · intro kk hk hgd o ac wa M K ho hd _ hoff hv hpre hL hK
    rcases (by simp at hk; omega : kk = 0 ∨ kk = 1 ∨ kk = 2 ∨ kk = 3 ∨ kk = 4 ∨ kk = 5 ∨ kk = 6 ∨ kk = 7 ∨ kk = 8 ∨ kk = 9 ∨ kk = 10 ∨ kk = 11 ∨ kk = 12 ∨ kk = 13 ∨ kk = 14 ∨ kk = 15 ∨ kk = 16 ∨ kk = 17 ∨ kk = 18 ∨ kk = 19 ∨ kk = 20) with rfl | rfl | rfl | rfl | rfl | rfl | rfl | rfl | rfl | rfl | rfl | rfl | rfl | rfl | rfl | rfl | rfl | rfl | rfl | rfl | rfl
    · obtain ⟨hM, jw, hjw, hW, hjR⟩ := hL.off (by decide)
      replace hK := hK _ hM
      exact l_val hd ((x_move (op_is rfl ho)).trans (by rw [(hoff 9 (by decide)).trans x9]; rfl)) hK
    · obtain ⟨hM, jw, hjw, hW, hjR⟩ := hL.off (by decide)
      replace hK := hK _ hM
      exact l_val hd (x_nil (op_is rfl ho) (hv 0 32 rfl (by kernel_rfl))) hK
    · obtain ⟨hM, jw, hjw, hW, hjR⟩ := hL.off (by decide)
      replace hK := hK _ hM
      exact l_val hd (x_field (op_is rfl ho) (by rw [hv 1 33 rfl (by kernel_rfl)]; unfold pv; go_simp)) hK
    · obtain ⟨hM, jw, hjw, hW, hjR⟩ := hL.off (by decide)
      replace hK := hK _ hM
      have hW : wa = w.drew := hW
      subst hW
      exact l_val hd (x_load (op_is rfl ho) (by rw [hv 2 34 rfl (by kernel_rfl)]; exact run_lifeGen (w := w.drew) (h.life i h2))) hK
    · obtain ⟨hM, jw, hjw, hW, hjR⟩ := hL.off (by decide)
      replace hK := hK _ hM
      exact l_val hd ((x_move (op_is rfl ho)).trans (by rw [(hoff 3 (by decide)).trans x3]; rfl)) hK
    · obtain ⟨hM, jw, hjw, hW, hjR⟩ := hL.off (by decide)
      replace hK := hK _ hM
      exact l_val hd ((x_neqInt (op_is rfl ho) (hv 3 35 rfl (by kernel_rfl)) (hv 4 36 rfl (by kernel_rfl))).trans (by rw [show ((s.slot i).gen != g) = true from by simp [hg]]; rfl)) hK
    · obtain ⟨hM, jw, hjw, hW, hjR⟩ := hL.off (by decide)
      replace hK := hK _ hM
      exact l_val hd ((x_move (op_is rfl ho)).trans (by rw [hv 5 37 rfl (by kernel_rfl)]; rfl)) hK
    · obtain ⟨hM, jw, hjw, hW, hjR⟩ := hL.off (by decide)
      replace hK := hK _ hM
      exact absurd (hgd 6 false rfl) (by intro e; cases e)
    · obtain ⟨hM, jw, hjw, hW, hjR⟩ := hL.off (by decide)
      replace hK := hK _ hM
      exact absurd (hgd 6 false rfl) (by intro e; cases e)
    · obtain ⟨hM, jw, hjw, hW, hjR⟩ := hL.off (by decide)
      replace hK := hK _ hM
      exact absurd (hgd 6 false rfl) (by intro e; cases e)
    · obtain ⟨hM, jw, hjw, hW, hjR⟩ := hL.off (by decide)
      replace hK := hK _ hM
      exact absurd (hgd 6 false rfl) (by intro e; cases e)
    · obtain ⟨hM, jw, hjw, hW, hjR⟩ := hL.off (by decide)
      replace hK := hK _ hM
      exact absurd (hgd 6 false rfl) (by intro e; cases e)
    · obtain ⟨hM, jw, hjw, hW, hjR⟩ := hL.off (by decide)
      replace hK := hK _ hM
      exact absurd (hgd 6 false rfl) (by intro e; cases e)
    · obtain ⟨hM, jw, hjw, hW, hjR⟩ := hL.off (by decide)
      replace hK := hK _ hM
      exact absurd (hgd 6 false rfl) (by intro e; cases e)
    · obtain ⟨hM, jw, hjw, hW, hjR⟩ := hL.off (by decide)
      replace hK := hK _ hM
      exact absurd (hgd 6 false rfl) (by intro e; cases e)
    · obtain ⟨hM, jw, hjw, hW, hjR⟩ := hL.off (by decide)
      replace hK := hK _ hM
      exact absurd (hgd 6 false rfl) (by intro e; cases e)
    · obtain ⟨hM, jw, hjw, hW, hjR⟩ := hL.off (by decide)
      replace hK := hK _ hM
      exact absurd (hgd 6 false rfl) (by intro e; cases e)
    · obtain ⟨hM, jw, hjw, hW, hjR⟩ := hL.off (by decide)
      replace hK := hK _ hM
      exact absurd (hgd 6 false rfl) (by intro e; cases e)
    · obtain ⟨hM, jw, hjw, hW, hjR⟩ := hL.off (by decide)
      replace hK := hK _ hM
      exact absurd (hgd 6 false rfl) (by intro e; cases e)
    · obtain ⟨hM, jw, hjw, hW, hjR⟩ := hL.off (by decide)
      replace hK := hK _ hM
      exact absurd (hgd 6 false rfl) (by intro e; cases e)
    · obtain ⟨hM, jw, hjw, hW, hjR⟩ := hL.off (by decide)
      replace hK := hK _ hM
      exact l_val (v := .bool true) hd ((x_pick (op_is (p := .pick (.tmp 38) (.const (.bool true)) (.tmp 51)) rfl ho) (hv 6 38 rfl (by kernel_rfl))).trans rfl) hK
  · intro a1 g1 g2 g3 g4 w1 hW
    exact hEnd a1 w1 g1 g2 (fun s hs'  => ev_same (g3 s (fun hm => by simp at hm; omega))) (g4 20 52 rfl) hW
section
variable {w : World} {p sb pb nb : Nat} {L : Nat → Nat} {s : PSt} {i : Nat} {x y : Int}
set_option maxRecDepth 100000 in
set_option maxHeartbeats 1600000 in
theorem cPBackBad (h : PA w p sb pb nb L s) (hb : x < 1 ∨ s.n < x ∨ y < 0 ∨ y % 2 = 1) : Calls Tryz.prog 32 #[.pointer (some ⟨p, 0, none⟩), .pointer none, .int .i64 x, .int .i64 y] w fun e w' => e = .returned (.int .i64 103) ∧ w' = w := by
  rcases (by omega : (x < 1 ∨ s.n < x) ∨ (1 ≤ x ∧ x ≤ s.n ∧ y < 0) ∨ (1 ≤ x ∧ x ≤ s.n ∧ 0 ≤ y ∧ y % 2 = 1)) with h1 | ⟨h1, h2, h3⟩ | ⟨h1, h2, h3, h4⟩
  · have HH := cHasNot h h1
    clear h
    go_enter Tryz.func32, Tryz.ntmps32
    go_wp2_with (first
      | (go_at_call 89; refine HH.mono ?_; rintro e w' ⟨rfl, hw⟩; obtain rfl := hw.symm)
      | (go_at_call 61; refine (cStep _).mono ?_; rintro e w' ⟨rfl, hw⟩; obtain rfl := hw.symm))
    go_ret
    exact ⟨rfl, rfl⟩
  · obtain ⟨i, rfl⟩ : ∃ i : Nat, x = i := ⟨x.toNat, by omega⟩
    have HH := cHas h (i := i) (by omega) (by omega)
    have d3 : decide (y < 0) = true := decide_eq_true (by omega)
    clear h
    go_enter Tryz.func32, Tryz.ntmps32
    go_wp2_with (first
      | (go_at_call 89; refine HH.mono ?_; rintro e w' ⟨rfl, hw⟩; obtain rfl := hw.symm)
      | (go_at_call 61; refine (cStep _).mono ?_; rintro e w' ⟨rfl, hw⟩; obtain rfl := hw.symm))
    go_ret
    exact ⟨rfl, rfl⟩
  · obtain ⟨i, rfl⟩ : ∃ i : Nat, x = i := ⟨x.toNat, by omega⟩
    have HH := cHas h (i := i) (by omega) (by omega)
    have d3 : decide (y < 0) = false := decide_eq_false (by omega)
    have d4 : (y % 2 != 0) = true := by simp; omega
    clear h
    go_enter Tryz.func32, Tryz.ntmps32
    go_wp2_with (first
      | (go_at_call 89; refine HH.mono ?_; rintro e w' ⟨rfl, hw⟩; obtain rfl := hw.symm)
      | (go_at_call 61; refine (cStep _).mono ?_; rintro e w' ⟨rfl, hw⟩; obtain rfl := hw.symm))
    go_ret
    exact ⟨rfl, rfl⟩
set_option maxRecDepth 100000 in
set_option maxHeartbeats 1600000 in
theorem cPBackGone (h : PA w p sb pb nb L s) (h1 : 1 ≤ i) (h2 : i ≤ s.n) (y0 : 0 ≤ y) (y1 : y % 2 = 0) (hg : (s.slot i).gen ≠ y) : Calls Tryz.prog 32 #[.pointer (some ⟨p, 0, none⟩), .pointer none, .int .i64 (i : Nat), .int .i64 y] w fun e w' => e = .returned (.int .i64 104) ∧ w' = w.drew := by
  have d3 : decide (y < 0) = false := decide_eq_false (by omega)
  have d4 : (y % 2 != 0) = false := by simp; omega
  have HH := cHas h h1 h2
  have c0 := cell_at h.pool 0
  simp at c0
  have hlt : (i : Int) < (s.n : Int) + 1 := by omega
  have HLd := cPLoad (ptr_cell h.slots h2) (h.life i h2) rfl
  have HB : Hid _ := h
  clear h
  go_enter Tryz.func32, Tryz.ntmps32
  go_wp2_with (first
    | (go_at_call 89; refine HH.mono ?_; rintro e w' ⟨rfl, hw⟩; obtain rfl := hw.symm)
    | (go_at_call 61; refine (cStep _).mono ?_; rintro e w' ⟨rfl, hw⟩; obtain rfl := hw.symm)
    | (go_at_call 58; refine HLd.mono ?_; rintro e w' ⟨rfl, hw⟩; obtain rfl := hw.symm))
  rename_i K hK
  refine pbackgone_r5 (i := i) (g := y) rfl rfl rfl HB.out h2 hg ?_
  rintro a1 w1 s1 d1 e1 x52 rfl
  obtain ⟨cc, rfl, hcc⟩ := expand60 s1 d1
  have y52 : cc 52 = .bool true := (hcc 52).trans x52
  clear hcc x52 e1 s1 d1
  refine hK _ _ ?_
  unfold lit60
  simp only [y52]
  clear y52
  go_wp2
  go_ret
  exact ⟨rfl, rfl⟩
set_option maxRecDepth 100000 in
set_option maxHeartbeats 1600000 in
theorem cPBack (h : PA w p sb pb nb L s) (ho : s.Ok) (h1 : 1 ≤ i) (h2 : i ≤ s.n) (y0 : 0 ≤ y) (y1 : y % 2 = 0) (y2 : y ≤ 100000) (hg : (s.slot i).gen = y) : Calls Tryz.prog 32 #[.pointer (some ⟨p, 0, none⟩), .pointer none, .int .i64 (i : Nat), .int .i64 y] w fun e w' => e = .returned (.int .i64 0) ∧ Turned (blocks p sb pb nb L s.n) w w' ∧ ∃ b', w.heap.size ≤ b' ∧ PA w' p sb pb nb (upd L i b') (s.back i) := by
  have d3 : decide (y < 0) = false := decide_eq_false (by omega)
  have d4 : (y % 2 != 0) = false := by simp; omega
  have HH := cHas h h1 h2
  have c0 := cell_at h.pool 0
  simp at c0
  have hlt : (i : Int) < (s.n : Int) + 1 := by omega
  have HLd := cPLoad (ptr_cell h.slots h2) (h.life i h2) rfl
  have HB : Hid _ := h
  clear h
  go_enter Tryz.func32, Tryz.ntmps32
  go_wp2_with (first
    | (go_at_call 89; refine HH.mono ?_; rintro e w' ⟨rfl, hw⟩; obtain rfl := hw.symm)
    | (go_at_call 61; refine (cStep _).mono ?_; rintro e w' ⟨rfl, hw⟩; obtain rfl := hw.symm)
    | (go_at_call 58; refine HLd.mono ?_; rintro e w' ⟨rfl, hw⟩; obtain rfl := hw.symm))
  rename_i K hK
  refine pback_r5 (i := i) (g := y) rfl rfl rfl rfl rfl HB.out h2 y0 (by omega) hg ?_
  rintro a1 w1 s1 d1 e1 x52 rfl
  have hA : PA (againW w.drew (s.slot i) (y + 2)) p sb pb nb L s := HB.out.keep ((Turned.refl [] w).drew.trans (againW_turned [] w.drew _ _)) (by simp)
  have hB := hA.lead h2 (againW_new w.drew (s.slot i) (y + 2)) (fun k hk => by have := lt_of_heap (HB.out.life k hk); show L k ≠ w.heap.size + 3; omega)
  have hT1 : Turned (blocks p sb pb nb L s.n) w ((againW w.drew (s.slot i) (y + 2)).setCell ⟨sb, i, none⟩ (.pointer (some ⟨w.drew.heap.size + 3, 0, none⟩))) := (((Turned.refl (blocks p sb pb nb L s.n) w).drew).trans (againW_turned _ w.drew _ _)).set (.inl (by simp [blocks])) _ _
  generalize (againW w.drew (s.slot i) (y + 2)).setCell ⟨sb, i, none⟩ (.pointer (some ⟨w.drew.heap.size + 3, 0, none⟩)) = W2 at hB hT1 ⊢
  have HPu := cPush0 hB.pile (i := i) (by omega) h2
  have c1 := cell_at hB.pool 1
  simp at c1
  have HB2 : Hid _ := hB
  have HT1 : Hid _ := hT1
  obtain ⟨cc, rfl, hcc⟩ := expand60 s1 d1
  have q0 : cc 0 = .pointer (some ⟨p, 0, none⟩) := (hcc 0).trans (e1 0 (by omega))
  have q1 : cc 1 = .pointer none := (hcc 1).trans (e1 1 (by omega))
  have q2 : cc 2 = .int .i64 (i : Nat) := (hcc 2).trans (e1 2 (by omega))
  have q52 : cc 52 = .bool false := (hcc 52).trans x52
  clear hcc x52 e1 s1 d1 hA hB hT1 HLd HH c0
  refine hK _ _ ?_
  unfold lit60
  simp only [q0, q1, q2, q52]
  clear q0 q1 q2 q52
  go_wp2_with (go_at_call 64; refine HPu.mono ?_; rintro e w' ⟨rfl, rfl⟩)
  go_ret
  have mp : pb ∈ blocks p sb pb nb L s.n ∨ w.heap.size ≤ pb := .inl (by simp [blocks])
  have mn : nb ∈ blocks p sb pb nb L s.n ∨ w.heap.size ≤ nb := .inl (by simp [blocks])
  have hge : s.back i = { s with slot := upd s.slot i ⟨y + 2, (s.slot i).mark, (s.slot i).link, (s.slot i).a, (s.slot i).b, (s.slot i).c, (s.slot i).d⟩, h := nextV s.h i, f := upd s.f i (idxV s.h).toNat } := by unfold PSt.back; rw [hg]
  refine ⟨rfl, (HT1.out.drew.set mn _ _).set mp _ _, w.drew.heap.size + 3, (by show w.heap.size ≤ w.heap.size + 3; omega), ?_⟩
  rw [hge]
  exact HB2.out.push h2 ho.h0 _
end
end Go.Proofs.YtjbhnpofdafmbaaGreatDoor
/- The document's thread alone (skeinref3): its lines by contract. -/
namespace Go.Proofs.YtjbhnpofdafmbaaGreatDoor
open Go.RowKit
theorem rInfoInt : (Tryz.prog.info? 3).map (fun i => (i.zero, i.size, i.bytes)) = some (some (.int .i64 0), 1, 8) := by kernel_rfl
theorem rUndInts : Tryz.prog.underlying 29 = some (.slice 3) := by kernel_rfl
/-- A thread alone: its memory is the blocks T; c: no more lines than that were done. -/
structure Th (T : List Nat) (w : World) (tb mb c : Nat) : Prop where
  ex : ∃ (own left k : Int) (lv : Value) (n : Nat) (xs : List Value), w.heap[tb]? = some (.cells #[.pointer (some ⟨mb, 0, none⟩), .int .i64 k, .bool false, .int .i64 own, lv, .int .i64 (n : Nat), .int .i64 left] 134 (0, 0)) ∧ w.ownsRow 0 3 1 lv n xs ∧ 0 ≤ own ∧ own ≤ (c : Nat) ∧ n ≤ c ∧ 4611686018427387904 - (c : Int) ≤ left ∧ left ≤ 4611686018427387904 ∧ T = tb :: lv.ownBlock.toList
/-- Some lines were done: the thread's blocks, and l, alone turned. -/
structure Did (l T : List Nat) (w : World) (tb mb c : Nat) (T' : List Nat) (w' : World) : Prop where
  th : Th T' w' tb mb c
  wide : Wider T T' w
  turned : Turned (l ++ T) w w'
section
variable {tb mb c c1 c2 : Nat} {w w' w1 w2 : World} {l l' T T1 T2 : List Nat}
theorem blk_sets {w : World} {g : Nat} {cs : Array Value} {t : TypeId} (h : w.heap[g]? = some (.cells cs t (0, 0))) (i : Nat) (v : Value) : (w.setCell ⟨g, i, none⟩ v).heap[g]? = some (.cells (cs.setIfInBounds i v) t (0, 0)) := blk_set h i v
theorem Grew.heap {w w' : World} {v v' : Value} (h : Grew w w' v v') {g : Nat} {o : Obj} (ho : w.heap[g]? = some o) (hn : v.ownBlock ≠ some g) : w'.heap[g]? = some o := (h.1.block g (lt_of_heap ho) (fun e => hn e.symm)).trans ho
theorem Row.apart {B e t sz n : Nat} {v : Value} {xs : List Value} {cs : Array Value} (h : w.ownsRow B e sz v n xs) {g : Nat} (hb : w.heap[g]? = some (.cells cs t (0, 0))) (hne : e ≠ t) : v.ownBlock ≠ some g := fun hg => by
  obtain ⟨cur, hc⟩ := Row.obj h hg
  rw [hb] at hc
  simp at hc
  exact hne hc.2.symm
theorem Did.trans (h : Did l T w tb mb c1 T1 w1) (k : Did l T1 w1 tb mb c2 T2 w2) : Did l T w tb mb c2 T2 w2 := by
  refine ⟨k.th, fun x hx => ?_, h.turned.inner k.turned fun x hx => ?_⟩
  · rcases k.wide x hx with h1 | h1
    · exact h.wide x h1
    · have := h.turned.size
      exact .inr (by omega)
  · rcases List.mem_append.1 hx with h1 | h1
    · exact .inl (List.mem_append_left _ h1)
    · rcases h.wide x h1 with h2 | h2
      · exact .inl (List.mem_append_right _ h2)
      · exact .inr h2
theorem Did.mono (h : Did l T w tb mb c T1 w1) (hl : ∀ x, x ∈ l → x ∈ l') : Did l' T w tb mb c T1 w1 := ⟨h.th, h.wide, h.turned.mono fun x hx => by
  rcases List.mem_append.1 hx with h1 | h1
  · exact List.mem_append_left _ (hl x h1)
  · exact List.mem_append_right _ h1⟩
theorem Th.up (h : Th T w tb mb c1) (hc : c1 ≤ c2) : Th T w tb mb c2 := by
  obtain ⟨own, left, k, lv, n, xs, hb, hr, o0, o1, n1, l0, l1, e⟩ := h.ex
  exact ⟨own, left, k, lv, n, xs, hb, hr, o0, by omega, by omega, by omega, l1, e⟩
theorem Did.up (h : Did l T w tb mb c1 T1 w1) (hc : c1 ≤ c2) : Did l T w tb mb c2 T1 w1 := ⟨h.th.up hc, h.wide, h.turned⟩
theorem Wider.out {F F' : List Nat} (h : Wider F F' w) {x : Nat} (hx : x < w.heap.size) (hn : x ∉ F) : x ∉ F' := fun hm => by
  rcases h x hm with h1 | h1
  · exact hn h1
  · omega
theorem Th.ty (h : Th T w tb mb c) {x : Nat} {cs : Array Value} {t : TypeId} (hx : w.heap[x]? = some (.cells cs t (0, 0))) (h1 : t ≠ 3) (h2 : t ≠ 134) : x ∉ T := fun hm => by
  obtain ⟨own, left, k, lv, n, xs, hb, hr, -, -, -, -, -, rfl⟩ := h.ex
  rcases List.mem_cons.1 hm with e | e
  · subst e
    rw [hb] at hx
    simp at hx
    exact h2 hx.2.symm
  · exact Row.apart hr hx (fun e => h1 e.symm) (by simpa using e)
theorem Th.self (h : Th T w tb mb c) : tb ∈ T := by
  obtain ⟨own, left, k, lv, n, xs, hb, hr, -, -, -, -, -, rfl⟩ := h.ex
  simp
theorem th_told {w w3 : World} {own left k : Int} {n : Nat} {lv v' u : Value} {xs : List Value} (hb : w.heap[tb]? = some (.cells #[.pointer (some ⟨mb, 0, none⟩), .int .i64 k, .bool false, .int .i64 own, lv, .int .i64 (n : Nat), .int .i64 left] 134 (0, 0))) (hr : w.ownsRow 0 3 1 lv n xs) (o0 : 0 ≤ own) (o1 : own ≤ (c : Nat)) (n1 : n ≤ c) (l0 : 4611686018427387904 - (c : Int) ≤ left) (l1 : left ≤ 4611686018427387904)
    {ob : Obj} (hr3 : w3.ownsRow 0 3 1 v' (n + 1) (xs ++ [u])) (hG3 : Grew (w.alloc ob) w3 lv v') :
    w3.heap[tb]? = some (.cells #[.pointer (some ⟨mb, 0, none⟩), .int .i64 k, .bool false, .int .i64 own, lv, .int .i64 (n : Nat), .int .i64 left] 134 (0, 0)) ∧ Did [] (tb :: lv.ownBlock.toList) w tb mb (c + 1) (tb :: v'.ownBlock.toList) ((w3.setCell ⟨tb, 4, none⟩ v').setCell ⟨tb, 5, none⟩ (.int .i64 ((n : Int) + 1))) := by
  have hsz := lt_of_heap hb
  have hba : (w.alloc ob).heap[tb]? = _ := (Below.heap_alloc _ _ _ hsz).trans hb
  have hb3 := hG3.heap hba (Row.apart hr hb (by decide))
  have ht : Turned [tb] w3 ((w3.setCell ⟨tb, 4, none⟩ v').setCell ⟨tb, 5, none⟩ (.int .i64 ((n : Int) + 1))) := ((Turned.refl [tb] w3).set (.inl (by simp)) _ _).set (.inl (by simp)) _ _
  have hs3 := hG3.1.size
  simp at hs3
  refine ⟨hb3, ⟨own, left, k, v', n + 1, xs ++ [u], ?_, ?_, o0, by omega, by omega, by omega, l1, rfl⟩, fun x hx => ?_, ?_⟩
  · have h1 := blk_set hb3 4 v'
    have h2 := blk_set h1 5 (.int .i64 ((n : Int) + 1))
    simpa using h2
  · exact Row.keep hr3 ht (fun g hg e => by
      simp at e
      subst e
      exact Row.apart hr3 hb3 (by decide) hg)
  · rcases List.mem_cons.1 hx with e | e
    · exact .inl (by simp [e])
    · rcases hG3.2 with e2 | ⟨g, e2, e3⟩
      · rw [e2] at e
        exact .inl (List.mem_cons_of_mem _ e)
      · rw [e2] at e
        simp at e e3
        exact .inr (by omega)
  · refine ⟨ht.os.trans hG3.1.os, ht.tape.trans hG3.1.tape, ht.output.trans hG3.1.output, by have := ht.size; omega, fun g hg hn => ?_⟩
    simp only [List.nil_append, List.mem_cons, not_or] at hn
    rw [ht.block g (by omega) (by simpa using hn.1), hG3.1.block g (by simp; omega) (fun e => hn.2 (by rw [← e]; simp))]
    exact Below.heap_alloc _ _ _ hg
set_option maxRecDepth 100000 in
theorem cRTold {v : Int} (h : Th T w tb mb c) (hc : c ≤ 1000000) : Calls Tryz.prog 120 #[.pointer (some ⟨tb, 0, none⟩), .int .i64 v] w fun e w' => e = .returned (.int .i64 v) ∧ ∃ T', Did [] T w tb mb (c + 1) T' w' := by
  obtain ⟨own, left, k, lv, n, xs, hb, hr, o0, o1, n1, l0, l1, rfl⟩ := h.ex
  obtain ⟨la, lc, rfl⟩ := Row.shape hr
  have c4 := cell_at hb 4
  simp at c4
  go_enter Tryz.func120, Tryz.ntmps120
  go_wp2_with (first
    | (at_builtin; refine wpList_push rfl _ _ 29 rfl 0 3 (.int .i64 0) 8 rUndInts rInfoInt rfl (.slice la n lc) n xs rfl (hr.alloc _) ⟨w.heap.size, 0, none⟩ 1 (.int .i64 v) rfl (by go_simp) rfl (by unfold maxLen; omega) (by omega) (by omega) ?_; intro v' w3 hr3 hG3; obtain ⟨va, vc, rfl⟩ := Row.shape hr3; obtain ⟨hb3, ht3⟩ := th_told hb hr o0 o1 n1 l0 l1 hr3 hG3; have HT3 : Hid _ := ht3; have d4 := cell_at hb3 4; have d5 := cell_at hb3 5; simp at d4 d5; have z := froz_at hb3; clear ht3 hb3 hr3 hG3 c4 hb hr h))
  go_ret
  exact ⟨rfl, _, HT3.out⟩
end
end Go.Proofs.YtjbhnpofdafmbaaGreatDoor
/- The document's thread alone: goes. -/
namespace Go.Proofs.YtjbhnpofdafmbaaGreatDoor
open Go.RowKit
section
variable {tb mb c : Nat} {w : World} {T : List Nat}
set_option maxRecDepth 100000 in
theorem cGoes (h : Th T w tb mb c) (hc : c ≤ 1000000) : Calls Tryz.prog 121 #[.pointer (some ⟨tb, 0, none⟩)] w fun e w' => e = .returned (.tuple #[.int .i64 0, .bool false, .bool true]) ∧ Did [] T w tb mb (c + 1) T w' := by
  obtain ⟨own, left, k, lv, n, xs, hb, hr, o0, o1, n1, l0, l1, hT⟩ := h.ex
  obtain ⟨la, lc, rfl⟩ := Row.shape hr
  have HT : Hid (Did [] T w tb mb (c + 1) T ((w.drew.setCell ⟨tb, 6, none⟩ (.int .i64 (left - 1))).setCell ⟨tb, 3, none⟩ (.int .i64 (own + 1)))) := by
    have hbd : w.drew.heap[tb]? = _ := hb
    have ht : Turned [tb] w ((w.drew.setCell ⟨tb, 6, none⟩ (.int .i64 (left - 1))).setCell ⟨tb, 3, none⟩ (.int .i64 (own + 1))) := (((Turned.refl [tb] w).drew).set (.inl (by simp)) _ _).set (.inl (by simp)) _ _
    refine ⟨⟨own + 1, left - 1, k, _, n, xs, ?_, Row.keep hr ht (fun g hg e => by
      simp at e
      subst e
      exact Row.apart hr hb (by decide) hg), by omega, by omega, by omega, by omega, by omega, hT⟩, fun x hx => .inl hx, ht.mono (by
      intro x hx
      simp at hx
      subst hx
      rw [hT]
      simp)⟩
    have h1 := blk_set hbd 6 (.int .i64 (left - 1))
    have h2 := blk_set h1 3 (.int .i64 (own + 1))
    simpa using h2
  have c2 := cell_at hb 2
  have c3 := cell_at hb 3
  have c4 := cell_at hb 4
  have c5 := cell_at hb 5
  have c6 := cell_at hb 6
  simp at c2 c3 c4 c5 c6
  have z := froz_at hb
  have dl : (left == 0) = false := by simp; omega
  clear hb hr h hT
  go_enter Tryz.func121, Tryz.ntmps121
  go_wp2
  go_region
  go_wp2
  refine bodyPost_ret (v := .tuple #[.int .i64 0, .bool false, .bool true]) (by simp [results, Tryz.results121, go_sem]) rfl ⟨rfl, HT.out⟩
end
end Go.Proofs.YtjbhnpofdafmbaaGreatDoor
/- The document's words and its thread alone: Load, Store, Cas, Line, Fresh, Kept, Get, Put. -/
namespace Go.Proofs.YtjbhnpofdafmbaaGreatDoor
open Go.RowKit
/-- The document's words. -/
structure MemAt (w : World) (mb g N : Nat) (ws : Nat → Int) : Prop where
  ex : ∃ (cap : Nat) (cs : Array Value), w.heap[mb]? = some (.cells #[.slice (some ⟨g, 0, none⟩) N cap] 128 (0, 0)) ∧ w.heap[g]? = some (.cells cs 3 (0, 0)) ∧ N ≤ cs.size ∧ ∀ j, j < N → cs[j]? = some (.int .i64 (ws j))
def updI (f : Nat → Int) (i : Nat) (v : Int) : Nat → Int := fun j => if j = i then v else f j
section
variable {tb mb g c N : Nat} {w w' w2 : World} {ws : Nat → Int} {l T T' : List Nat}
theorem Th.m0 (h : Th T w tb mb c) : w.cell? ⟨tb, 0, none⟩ = some (.pointer (some ⟨mb, 0, none⟩)) := by
  obtain ⟨own, left, k, lv, n, xs, hb, -⟩ := h.ex
  have := cell_at hb 0
  simpa using this
theorem Th.m2 (h : Th T w tb mb c) : w.cell? ⟨tb, 2, none⟩ = some (.bool false) := by
  obtain ⟨own, left, k, lv, n, xs, hb, -⟩ := h.ex
  have := cell_at hb 2
  simpa using this
theorem Th.turned (h : Th T w tb mb c) (ht : Turned l w w') (hl : ∀ x, x ∈ l → x ∉ T) : Th T w' tb mb c := by
  obtain ⟨own, left, k, lv, n, xs, hb, hw, h1, h2, h3, h4, h5, rfl⟩ := h.ex
  exact ⟨own, left, k, lv, n, xs, ht.heap hb (fun hm => hl tb hm (by simp)), Row.keep hw ht (fun g hg e => hl g e (by simp [hg])), h1, h2, h3, h4, h5, rfl⟩
theorem Th.set {r o : Nat} {v : Value} (h : Th T w tb mb c) (hr : r ∉ T) : Did [r] T w tb mb c T (w.setCell ⟨r, o, none⟩ v) := by
  have ht : Turned [r] w (w.setCell ⟨r, o, none⟩ v) := (Turned.refl [r] w).set (.inl (by simp)) _ _
  exact ⟨h.turned ht (by simpa using hr), fun x hx => .inl hx, ht.mono (by simp)⟩
theorem Th.drew (h : Th T w tb mb c) : Th T w.drew tb mb c := h.turned (Turned.refl [] w).drew (by simp)
theorem Th.lt (h : Th T w tb mb c) : ∀ x, x ∈ T → x < w.heap.size := fun x hx => by
  obtain ⟨own, left, k, lv, n, xs, hb, hr, h1, h2, h3, h4, h5, rfl⟩ := h.ex
  rcases List.mem_cons.1 hx with e | e
  · subst e
    exact lt_of_heap hb
  · obtain ⟨cur, hc⟩ := Row.obj hr (by simpa using e)
    exact lt_of_heap hc
theorem Th.start (hb : w.heap[tb]? = some (.cells #[.pointer (some ⟨mb, 0, none⟩), .int .i64 0, .bool false, .int .i64 0, .slice none 0 0, .int .i64 0, .int .i64 4611686018427387904] 134 (0, 0))) : Th [tb] w tb mb 0 :=
  ⟨0, 4611686018427387904, 0, .slice none 0 0, 0, [], hb, World.ownsRow_nil _ _ _ _, by omega, by omega, by omega, by omega, by omega, rfl⟩
theorem MemAt.same (h : MemAt w mb g N ws) (h1 : w'.heap[mb]? = w.heap[mb]?) (h2 : w'.heap[g]? = w.heap[g]?) : MemAt w' mb g N ws := by
  obtain ⟨cap, cs, e1, e2, e3⟩ := h.ex
  exact ⟨cap, cs, h1.trans e1, h2.trans e2, e3⟩
theorem MemAt.ltm (h : MemAt w mb g N ws) : mb < w.heap.size := by
  obtain ⟨cap, cs, e1, e2, e3⟩ := h.ex
  exact lt_of_heap e1
theorem MemAt.ltg (h : MemAt w mb g N ws) : g < w.heap.size := by
  obtain ⟨cap, cs, e1, e2, e3⟩ := h.ex
  exact lt_of_heap e2
theorem MemAt.mT (h : MemAt w mb g N ws) (hT : Th T w tb mb c) : mb ∉ T := by
  obtain ⟨cap, cs, e1, e2, e3⟩ := h.ex
  exact hT.ty e1 (by decide) (by decide)
/-- Lines that turned no word. -/
theorem MemAt.did {c' : Nat} (h : MemAt w mb g N ws) (hT : Th T w tb mb c) (hg : g ∉ T) (hd : Did [] T w tb mb c' T' w') : MemAt w' mb g N ws ∧ g ∉ T' :=
  ⟨h.same (hd.turned.block _ h.ltm (by simpa using h.mT hT)) (hd.turned.block _ h.ltg (by simpa using hg)), hd.wide.out h.ltg hg⟩
theorem MemAt.cell0 (h : MemAt w mb g N ws) : ∃ cap, w.cell? ⟨mb, 0, none⟩ = some (.slice (some ⟨g, 0, none⟩) N cap) := by
  obtain ⟨cap, cs, e1, -⟩ := h.ex
  have := cell_at e1 0
  exact ⟨cap, by simpa using this⟩
theorem MemAt.cell (h : MemAt w mb g N ws) {j : Nat} (hj : j < N) : w.cell? ⟨g, j, none⟩ = some (.int .i64 (ws j)) := by
  obtain ⟨cap, cs, -, e2, -, e4⟩ := h.ex
  rw [cell_at e2 j]
  exact e4 j hj
theorem MemAt.froz (h : MemAt w mb g N ws) (j : Nat) : w.frozen? ⟨g, j, none⟩ = false := by
  obtain ⟨cap, cs, -, e2, -⟩ := h.ex
  exact froz_at e2 j
theorem MemAt.put (h : MemAt w mb g N ws) {j : Nat} (hj : j < N) (v : Int) : MemAt (w.setCell ⟨g, j, none⟩ (.int .i64 v)) mb g N (updI ws j v) := by
  obtain ⟨cap, cs, e1, e2, e3, e4⟩ := h.ex
  have hne : mb ≠ g := fun e => by
    subst e
    rw [e1] at e2
    simp at e2
  have ht : Turned [g] w (w.setCell ⟨g, j, none⟩ (.int .i64 v)) := (Turned.refl [g] w).set (.inl (by simp)) _ _
  refine ⟨cap, _, ht.heap e1 (by simpa using hne), blk_set e2 j _, by simpa using e3, fun i hi => ?_⟩
  unfold updI
  rw [Array.getElem?_setIfInBounds]
  by_cases e : j = i
  · subst e
    rw [if_pos rfl, if_pos (by omega), if_pos rfl]
  · rw [if_neg e, if_neg (fun x => e x.symm)]
    exact e4 i hi
set_option maxRecDepth 100000 in
theorem cRLoad {a : Nat} (hT : Th T w tb mb c) (hM : MemAt w mb g N ws) (hc : c ≤ 900000) (hg : g ∉ T) (ha : a < N) :
    Calls Tryz.prog 117 #[.pointer (some ⟨tb, 0, none⟩), .int .i64 (a : Nat)] w fun e w' => e = .returned (.int .i64 (ws a)) ∧ ∃ T', Did [] T w tb mb (c + 2) T' w' := by
  have HT : Hid _ := hT
  have HM : Hid _ := hM
  clear hT hM
  have hlt : (a : Int) < (N : Int) := by omega
  go_enter Tryz.func117, Tryz.ntmps117
  go_wp2_with (first
    | (go_at_call 121; refine (cGoes HT.out (by omega)).mono ?_; rintro e w1 ⟨rfl, d1⟩; have t1 := d1.th; obtain ⟨m1, hg1⟩ := HM.out.did HT.out hg d1; have c0 := t1.m0; obtain ⟨cap, cm⟩ := m1.cell0; have ca := m1.cell ha; have z := m1.froz; have HT1 : Hid _ := t1; have HD1 : Hid _ := d1; have HM1 : Hid _ := m1; have HG1 : Hid _ := hg1; clear t1 d1 m1 hg1)
    | (go_at_call 120; refine (cRTold HT1.out (by omega)).mono ?_; rintro e w2 ⟨rfl, T2, d2⟩; have HD2 : Hid _ := d2; clear d2))
  go_ret
  exact ⟨rfl, _, HD1.out.trans HD2.out⟩
set_option maxRecDepth 100000 in
theorem cRStore {a : Nat} {v : Int} (hT : Th T w tb mb c) (hM : MemAt w mb g N ws) (hc : c ≤ 900000) (hg : g ∉ T) (ha : a < N) :
    Calls Tryz.prog 123 #[.pointer (some ⟨tb, 0, none⟩), .int .i64 (a : Nat), .int .i64 v] w fun e w' => e = .returned (.tuple #[]) ∧ MemAt w' mb g N (updI ws a v) ∧ ∃ T', Did [g] T w tb mb (c + 2) T' w' := by
  have HT : Hid _ := hT
  have HM : Hid _ := hM
  clear hT hM
  have hlt : (a : Int) < (N : Int) := by omega
  go_enter Tryz.func123, Tryz.ntmps123
  go_wp2_with (first
    | (go_at_call 121; refine (cGoes HT.out (by omega)).mono ?_; rintro e w1 ⟨rfl, d1⟩; have t1 := d1.th; obtain ⟨m1, hg1⟩ := HM.out.did HT.out hg d1; have c0 := t1.m0; obtain ⟨cap, cm⟩ := m1.cell0; have ca := m1.cell ha; have z := m1.froz; have HT1 : Hid _ := t1; have HD1 : Hid _ := d1; have HM1 : Hid _ := m1; have HG1 : Hid _ := hg1; clear t1 d1 m1 hg1)
    | (go_at_call 120; refine (cRTold (HT1.out.set (o := a) (v := .int .i64 v) HG1.out).th (by omega)).mono ?_; rintro e w2 ⟨rfl, T2, d2⟩; have HD2 : Hid _ := d2; clear d2))
  refine bodyPost_end (results_none rfl _ _ _) rfl ⟨rfl, ((HM1.out.put ha v).did (HT1.out.set (o := a) (v := .int .i64 v) HG1.out).th HG1.out HD2.out).1, _, (HD1.out.mono (by simp)).trans ((HT1.out.set HG1.out).trans (HD2.out.mono (by simp)))⟩
set_option maxRecDepth 100000 in
theorem cRCas {a : Nat} {old v : Int} (ho : ws a = old) (hT : Th T w tb mb c) (hM : MemAt w mb g N ws) (hc : c ≤ 900000) (hg : g ∉ T) (ha : a < N) :
    Calls Tryz.prog 80 #[.pointer (some ⟨tb, 0, none⟩), .int .i64 (a : Nat), .int .i64 old, .int .i64 v] w fun e w' => e = .returned (.bool true) ∧ MemAt w' mb g N (updI ws a v) ∧ ∃ T', Did [g] T w tb mb (c + 2) T' w' := by
  have HT : Hid _ := hT
  have HM : Hid _ := hM
  clear hT hM
  have hlt : (a : Int) < (N : Int) := by omega
  have dn : (ws a != old) = false := by simp [ho]
  clear ho
  go_enter Tryz.func80, Tryz.ntmps80
  go_wp2_with (first
    | (go_at_call 121; refine (cGoes HT.out (by omega)).mono ?_; rintro e w1 ⟨rfl, d1⟩; have t1 := d1.th; obtain ⟨m1, hg1⟩ := HM.out.did HT.out hg d1; have c0 := t1.m0; obtain ⟨cap, cm⟩ := m1.cell0; have ca := m1.cell ha; have z := m1.froz; have HT1 : Hid _ := t1; have HD1 : Hid _ := d1; have HM1 : Hid _ := m1; have HG1 : Hid _ := hg1; clear t1 d1 m1 hg1)
    | (go_at_call 120; refine (cRTold (HT1.out.set (o := a) (v := .int .i64 v) HG1.out).th (by omega)).mono ?_; rintro e w2 ⟨rfl, T2, d2⟩; have HD2 : Hid _ := d2; clear d2))
  go_ret
  exact ⟨rfl, ((HM1.out.put ha v).did (HT1.out.set (o := a) (v := .int .i64 v) HG1.out).th HG1.out HD2.out).1, _, (HD1.out.mono (by simp)).trans ((HT1.out.set HG1.out).trans (HD2.out.mono (by simp)))⟩
set_option maxRecDepth 100000 in
theorem cRCasNot {a : Nat} {old v : Int} (ho : ws a ≠ old) (hT : Th T w tb mb c) (hM : MemAt w mb g N ws) (hc : c ≤ 900000) (hg : g ∉ T) (ha : a < N) :
    Calls Tryz.prog 80 #[.pointer (some ⟨tb, 0, none⟩), .int .i64 (a : Nat), .int .i64 old, .int .i64 v] w fun e w' => e = .returned (.bool false) ∧ ∃ T', Did [] T w tb mb (c + 2) T' w' := by
  have HT : Hid _ := hT
  have HM : Hid _ := hM
  clear hT hM
  have hlt : (a : Int) < (N : Int) := by omega
  have dn : (ws a != old) = true := by simp [ho]
  clear ho
  go_enter Tryz.func80, Tryz.ntmps80
  go_wp2_with (first
    | (go_at_call 121; refine (cGoes HT.out (by omega)).mono ?_; rintro e w1 ⟨rfl, d1⟩; have t1 := d1.th; obtain ⟨m1, hg1⟩ := HM.out.did HT.out hg d1; have c0 := t1.m0; obtain ⟨cap, cm⟩ := m1.cell0; have ca := m1.cell ha; have z := m1.froz; have HT1 : Hid _ := t1; have HD1 : Hid _ := d1; have HM1 : Hid _ := m1; have HG1 : Hid _ := hg1; clear t1 d1 m1 hg1)
    | (go_at_call 120; refine (cRTold HT1.out (by omega)).mono ?_; rintro e w2 ⟨rfl, T2, d2⟩; have HD2 : Hid _ := d2; clear d2))
  go_ret
  exact ⟨rfl, _, HD1.out.trans HD2.out⟩
set_option maxRecDepth 100000 in
theorem cRLine (hT : Th T w tb mb c) (hc : c ≤ 900000) : Calls Tryz.prog 77 #[.pointer (some ⟨tb, 0, none⟩)] w fun e w' => e = .returned (.tuple #[]) ∧ ∃ T', Did [] T w tb mb (c + 2) T' w' := by
  have HT : Hid _ := hT
  clear hT
  go_enter Tryz.func77, Tryz.ntmps77
  go_wp2_with (first
    | (go_at_call 121; refine (cGoes HT.out (by omega)).mono ?_; rintro e w1 ⟨rfl, d1⟩; have HT1 : Hid _ := d1.th; have HD1 : Hid _ := d1; clear d1)
    | (go_at_call 120; refine (cRTold HT1.out (by omega)).mono ?_; rintro e w2 ⟨rfl, T2, d2⟩; have HD2 : Hid _ := d2; clear d2))
  refine bodyPost_end (results_none rfl _ _ _) rfl ⟨rfl, _, HD1.out.trans HD2.out⟩
set_option maxRecDepth 100000 in
theorem cRFresh (hT : Th T w tb mb c) (hc : c ≤ 900000) : Calls Tryz.prog 71 #[.pointer (some ⟨tb, 0, none⟩)] w fun e w' => e = .returned (.bool true) ∧ ∃ T', Did [] T w tb mb (c + 1) T' w' := by
  obtain ⟨own, left, k, lv, n, xs, hb, hr, -⟩ := hT.ex
  obtain ⟨la, lc, rfl⟩ := Row.shape hr
  have c2 := cell_at hb 2
  have c4 := cell_at hb 4
  have c5 := cell_at hb 5
  simp at c2 c4 c5
  clear hb hr
  have HT1 : Hid (Th T w.drew tb mb c) := hT.drew
  clear hT
  go_enter Tryz.func71, Tryz.ntmps71
  go_wp2
  go_region
  go_wp2_with ((go_at_call 120; refine (cRTold HT1.out (by omega)).mono ?_; rintro e w2 ⟨rfl, T2, d2⟩; have HD2 : Hid _ := d2; clear d2))
  go_ret
  exact ⟨rfl, _, HD2.out.th, HD2.out.wide, (Turned.refl T w).drew.trans HD2.out.turned⟩
set_option maxRecDepth 100000 in
theorem cRKept {v : Int} (hT : Th T w tb mb c) (hc : c ≤ 900000) : Calls Tryz.prog 75 #[.pointer (some ⟨tb, 0, none⟩), .int .i64 v] w fun e w' => e = .returned (.int .i64 v) ∧ ∃ T', Did [] T w tb mb (c + 1) T' w' := by
  obtain ⟨own, left, k, lv, n, xs, hb, hr, -⟩ := hT.ex
  obtain ⟨la, lc, rfl⟩ := Row.shape hr
  have c2 := cell_at hb 2
  have c4 := cell_at hb 4
  have c5 := cell_at hb 5
  simp at c2 c4 c5
  clear hb hr
  have HT1 : Hid (Th T w.drew tb mb c) := hT.drew
  clear hT
  go_enter Tryz.func75, Tryz.ntmps75
  go_wp2
  go_region
  go_wp2_with ((go_at_call 120; refine (cRTold HT1.out (by omega)).mono ?_; rintro e w2 ⟨rfl, T2, d2⟩; have HD2 : Hid _ := d2; clear d2))
  go_ret
  exact ⟨rfl, _, HD2.out.th, HD2.out.wide, (Turned.refl T w).drew.trans HD2.out.turned⟩
theorem cRGet {a : Nat} (hM : MemAt w mb g N ws) (ha : a < N) : Calls Tryz.prog 73 #[.pointer (some ⟨mb, 0, none⟩), .int .i64 (a : Nat)] w fun e w' => e = .returned (.int .i64 (ws a)) ∧ w' = w := by
  obtain ⟨cap, cm⟩ := hM.cell0
  have ca := hM.cell ha
  clear hM
  have hlt : (a : Int) < (N : Int) := by omega
  go_enter Tryz.func73, Tryz.ntmps73
  go_wp2
  go_ret
  exact ⟨rfl, rfl⟩
theorem cRPut {a : Nat} {v : Int} (hM : MemAt w mb g N ws) (ha : a < N) : Calls Tryz.prog 72 #[.pointer (some ⟨mb, 0, none⟩), .int .i64 (a : Nat), .int .i64 v] w fun e w' => e = .returned (.tuple #[]) ∧ w' = w.setCell ⟨g, a, none⟩ (.int .i64 v) ∧ MemAt w' mb g N (updI ws a v) := by
  obtain ⟨cap, cm⟩ := hM.cell0
  have ca := hM.cell ha
  have z := hM.froz
  have HM : Hid _ := hM.put ha v
  clear hM
  have hlt : (a : Int) < (N : Int) := by omega
  go_enter Tryz.func72, Tryz.ntmps72
  go_wp2
  refine bodyPost_end (results_none rfl _ _ _) rfl ⟨rfl, rfl, HM.out⟩
end
end Go.Proofs.YtjbhnpofdafmbaaGreatDoor

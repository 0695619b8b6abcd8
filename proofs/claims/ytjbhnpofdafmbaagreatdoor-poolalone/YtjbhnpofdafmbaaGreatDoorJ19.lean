/- The other statements of the book's mark (kind Slots). -/
import Derived.Test.YtjbhnpofdafmbaaGreatDoorJ16
import Derived.Test.YtjbhnpofdafmbaaGreatDoorJ18
import Derived.Test.YtjbhnpofdafmbaaGreatDoorJ15
namespace Go.Proofs.YtjbhnpofdafmbaaGreatDoor
open Go.RowKit
set_option maxRecDepth 100000 in
set_option maxHeartbeats 1600000 in
theorem markSlots_r7 {K : Act → World → Prop} {Q : Exit → Act → World → Prop} {a : Act} {w : World} {ra : Option Addr} {k m rc : Nat} (hs : a.tmps.size = 189) (xk : a.eval (.tmp 6) = vi (k : Nat)) (xr_ : a.eval (.tmp 2) = Value.slice ra m rc)
    (hEnd : ∀ a', a'.tmps.size = a.tmps.size → a'.defers = a.defers → (∀ s : Nat, s < 10 → a'.eval (.tmp s) = a.eval (.tmp s)) → a'.eval (.tmp 44) = .bool (decide ((k : Int) < (m : Int))) → K a' w) :
    (Code.region 7 (opsOf 7 Tryz.f142.body) false).wp Tryz.prog (Exit.then K Q) a w := by
  refine wp_region_line [some 41, some 42, some 43, some 44] (fun kk => match kk with
      | 0 => vi (k : Nat)
      | 1 => Value.slice ra m rc
      | 2 => vi (m : Nat)
      | 3 => Value.bool (decide ((k : Int) < (m : Int)))
      | _ => undef) (by rw [hs]; kernel_rfl) [] (fun jj => match jj with
      | _ => w) rfl (by first | decide | nofun) (by decide +kernel) ?_ ?_ ?_
  · intro kk gg bq h
    exact (no_guard (by kernel_rfl) h).elim
  · intro kk hk _ o ac wa wb K ho hd _ hoff hv hL hK
    rcases (by simp at hk; omega : kk = 0 ∨ kk = 1 ∨ kk = 2 ∨ kk = 3) with rfl | rfl | rfl | rfl
    · obtain ⟨rfl, jw, hjw, rfl, hjR⟩ := hL.off (by first | decide | nofun)
      exact l_val hd ((x_move (op_is rfl ho)).trans (by rw [(hoff 6 (by first | decide | nofun)).trans xk]; rfl)) hK
    · obtain ⟨rfl, jw, hjw, rfl, hjR⟩ := hL.off (by first | decide | nofun)
      exact l_val hd ((x_move (op_is rfl ho)).trans (by rw [(hoff 2 (by first | decide | nofun)).trans xr_]; rfl)) hK
    · obtain ⟨rfl, jw, hjw, rfl, hjR⟩ := hL.off (by first | decide | nofun)
      exact l_val hd (x_len Slots_lund (op_is rfl ho) (hv 1 42 rfl (by kernel_rfl))) hK
    · obtain ⟨rfl, jw, hjw, rfl, hjR⟩ := hL.off (by first | decide | nofun)
      exact l_val hd (x_lss (op_is rfl ho) (hv 0 41 rfl (by kernel_rfl)) (hv 2 43 rfl (by kernel_rfl))) hK
  · intro a1 g1 g2 g3 g4
    exact hEnd a1 g1 g2 (fun s hs' => ev_same (g3 s (not_low hs' (by first | decide | nofun)))) (g4 3 44 rfl)
set_option maxRecDepth 100000 in
set_option maxHeartbeats 1600000 in
theorem markSlots_r18 {K : Act → World → Prop} {Q : Exit → Act → World → Prop} {a : Act} {w : World} {ra : Option Addr} {k m rc : Nat} (hs : a.tmps.size = 189) (xk : a.eval (.tmp 9) = vi (k : Nat)) (xr_ : a.eval (.tmp 7) = Value.slice ra m rc)
    (hEnd : ∀ a', a'.tmps.size = a.tmps.size → a'.defers = a.defers → (∀ s : Nat, s < 10 → a'.eval (.tmp s) = a.eval (.tmp s)) → a'.eval (.tmp 136) = .bool (decide ((k : Int) < (m : Int))) → K a' w) :
    (Code.region 18 (opsOf 18 Tryz.f142.body) false).wp Tryz.prog (Exit.then K Q) a w := by
  refine wp_region_line [some 133, some 134, some 135, some 136] (fun kk => match kk with
      | 0 => vi (k : Nat)
      | 1 => Value.slice ra m rc
      | 2 => vi (m : Nat)
      | 3 => Value.bool (decide ((k : Int) < (m : Int)))
      | _ => undef) (by rw [hs]; kernel_rfl) [] (fun jj => match jj with
      | _ => w) rfl (by first | decide | nofun) (by decide +kernel) ?_ ?_ ?_
  · intro kk gg bq h
    exact (no_guard (by kernel_rfl) h).elim
  · intro kk hk _ o ac wa wb K ho hd _ hoff hv hL hK
    rcases (by simp at hk; omega : kk = 0 ∨ kk = 1 ∨ kk = 2 ∨ kk = 3) with rfl | rfl | rfl | rfl
    · obtain ⟨rfl, jw, hjw, rfl, hjR⟩ := hL.off (by first | decide | nofun)
      exact l_val hd ((x_move (op_is rfl ho)).trans (by rw [(hoff 9 (by first | decide | nofun)).trans xk]; rfl)) hK
    · obtain ⟨rfl, jw, hjw, rfl, hjR⟩ := hL.off (by first | decide | nofun)
      exact l_val hd ((x_move (op_is rfl ho)).trans (by rw [(hoff 7 (by first | decide | nofun)).trans xr_]; rfl)) hK
    · obtain ⟨rfl, jw, hjw, rfl, hjR⟩ := hL.off (by first | decide | nofun)
      exact l_val hd (x_len Slots_und (op_is rfl ho) (hv 1 134 rfl (by kernel_rfl))) hK
    · obtain ⟨rfl, jw, hjw, rfl, hjR⟩ := hL.off (by first | decide | nofun)
      exact l_val hd (x_lss (op_is rfl ho) (hv 0 133 rfl (by kernel_rfl)) (hv 2 135 rfl (by kernel_rfl))) hK
  · intro a1 g1 g2 g3 g4
    exact hEnd a1 g1 g2 (fun s hs' => ev_same (g3 s (not_low hs' (by first | decide | nofun)))) (g4 3 136 rfl)
set_option maxRecDepth 100000 in
set_option maxHeartbeats 1600000 in
theorem markSlots_r9 {K : Act → World → Prop} {Q : Exit → Act → World → Prop} {a : Act} {w : World} {y : Value} {k m g rc : Nat} (hs : a.tmps.size = 189) (xk : a.eval (.tmp 6) = vi (k : Nat)) (xr_ : a.eval (.tmp 2) = Value.slice (some ⟨g, 0, none⟩) m rc) (hlt : (k : Int) < (m : Int)) (hcell : w.cell? ⟨g, k, none⟩ = some (y)) (hy : ∃ sa sn sc, y = .slice sa sn sc) 
    (hEnd : ∀ a', a'.tmps.size = a.tmps.size → a'.defers = a.defers → (∀ s : Nat, s < 10 → s ≠ 7 → a'.eval (.tmp s) = a.eval (.tmp s)) → a'.eval (.tmp 7) = y → K a' w) :
    (Code.region 9 (opsOf 9 Tryz.f142.body) false).wp Tryz.prog (Exit.then K Q) a w := by
  refine wp_region_line [some 47, some 48, some 49, some 50, some 7] (fun kk => match kk with
      | 0 => Value.slice (some ⟨g, 0, none⟩) m rc
      | 1 => vi (k : Nat)
      | 2 => pv g k
      | 3 => y
      | 4 => y
      | _ => undef) (by rw [hs]; kernel_rfl) [] (fun jj => match jj with
      | _ => w) rfl (by first | decide | nofun) (by decide +kernel) ?_ ?_ ?_
  · intro kk gg bq h
    exact (no_guard (by kernel_rfl) h).elim
  · intro kk hk _ o ac wa wb K ho hd _ hoff hv hL hK
    rcases (by simp at hk; omega : kk = 0 ∨ kk = 1 ∨ kk = 2 ∨ kk = 3 ∨ kk = 4) with rfl | rfl | rfl | rfl | rfl
    · obtain ⟨rfl, jw, hjw, rfl, hjR⟩ := hL.off (by first | decide | nofun)
      exact l_val hd ((x_move (op_is rfl ho)).trans (by rw [(hoff 2 (by first | decide | nofun)).trans xr_]; rfl)) hK
    · obtain ⟨rfl, jw, hjw, rfl, hjR⟩ := hL.off (by first | decide | nofun)
      exact l_val hd ((x_move (op_is rfl ho)).trans (by rw [(hoff 6 (by first | decide | nofun)).trans xk]; rfl)) hK
    · obtain ⟨rfl, jw, hjw, rfl, hjR⟩ := hL.off (by first | decide | nofun)
      exact l_val hd (x_index (op_is rfl ho) (by rw [hv 0 47 rfl (by kernel_rfl), hv 1 48 rfl (by kernel_rfl)]; exact idx_lists_Slots hlt)) hK
    · obtain ⟨rfl, jw, hjw, rfl, hjR⟩ := hL.off (by first | decide | nofun)
      exact l_val hd (x_load (op_is rfl ho) (by rw [hv 2 49 rfl (by kernel_rfl)]; exact Slots_ldi hy hcell)) hK
    · obtain ⟨rfl, jw, hjw, rfl, hjR⟩ := hL.off (by first | decide | nofun)
      exact l_val hd ((x_assign (op_is rfl ho)).trans (by rw [hv 3 50 rfl (by kernel_rfl)]; rfl)) hK
  · intro a1 g1 g2 g3 g4
    exact hEnd a1 g1 g2 (fun s hs' h7 => ev_same (g3 s (not_low2 hs' h7 (by first | decide | nofun)))) (g4 4 7 rfl)
set_option maxRecDepth 100000 in
set_option maxHeartbeats 1600000 in
theorem markSlots_r10 {K : Act → World → Prop} {Q : Exit → Act → World → Prop} {a : Act} {w : World} {z : Int} {k m g rc : Nat} (hs : a.tmps.size = 189) (xk : a.eval (.tmp 6) = vi (k : Nat)) (xr_ : a.eval (.tmp 4) = Value.slice (some ⟨g, 0, none⟩) m rc) (hlt : (k : Int) < (m : Int)) (hcell : w.cell? ⟨g, k, none⟩ = some (vi z)) 
    (hEnd : ∀ a', a'.tmps.size = a.tmps.size → a'.defers = a.defers → (∀ s : Nat, s < 10 → s ≠ 8 → a'.eval (.tmp s) = a.eval (.tmp s)) → a'.eval (.tmp 8) = vi z → K a' w) :
    (Code.region 10 (opsOf 10 Tryz.f142.body) false).wp Tryz.prog (Exit.then K Q) a w := by
  refine wp_region_line [some 51, some 52, some 53, some 54, some 8] (fun kk => match kk with
      | 0 => Value.slice (some ⟨g, 0, none⟩) m rc
      | 1 => vi (k : Nat)
      | 2 => pv g k
      | 3 => vi z
      | 4 => vi z
      | _ => undef) (by rw [hs]; kernel_rfl) [] (fun jj => match jj with
      | _ => w) rfl (by first | decide | nofun) (by decide +kernel) ?_ ?_ ?_
  · intro kk gg bq h
    exact (no_guard (by kernel_rfl) h).elim
  · intro kk hk _ o ac wa wb K ho hd _ hoff hv hL hK
    rcases (by simp at hk; omega : kk = 0 ∨ kk = 1 ∨ kk = 2 ∨ kk = 3 ∨ kk = 4) with rfl | rfl | rfl | rfl | rfl
    · obtain ⟨rfl, jw, hjw, rfl, hjR⟩ := hL.off (by first | decide | nofun)
      exact l_val hd ((x_move (op_is rfl ho)).trans (by rw [(hoff 4 (by first | decide | nofun)).trans xr_]; rfl)) hK
    · obtain ⟨rfl, jw, hjw, rfl, hjR⟩ := hL.off (by first | decide | nofun)
      exact l_val hd ((x_move (op_is rfl ho)).trans (by rw [(hoff 6 (by first | decide | nofun)).trans xk]; rfl)) hK
    · obtain ⟨rfl, jw, hjw, rfl, hjR⟩ := hL.off (by first | decide | nofun)
      exact l_val hd (x_index (op_is rfl ho) (by rw [hv 0 51 rfl (by kernel_rfl), hv 1 52 rfl (by kernel_rfl)]; exact idx_ints hlt)) hK
    · obtain ⟨rfl, jw, hjw, rfl, hjR⟩ := hL.off (by first | decide | nofun)
      exact l_val hd (x_load (op_is rfl ho) (by rw [hv 2 53 rfl (by kernel_rfl)]; exact ld_int hcell)) hK
    · obtain ⟨rfl, jw, hjw, rfl, hjR⟩ := hL.off (by first | decide | nofun)
      exact l_val hd ((x_assign (op_is rfl ho)).trans (by rw [hv 3 54 rfl (by kernel_rfl)]; rfl)) hK
  · intro a1 g1 g2 g3 g4
    exact hEnd a1 g1 g2 (fun s hs' h8 => ev_same (g3 s (not_low2 hs' h8 (by first | decide | nofun)))) (g4 4 8 rfl)
set_option maxRecDepth 100000 in
set_option maxHeartbeats 1600000 in
theorem markSlots_r11 {K : Act → World → Prop} {Q : Exit → Act → World → Prop} {a : Act} {w : World} {bb : Nat} {f : Nat → Value} {z turn : Int} {k m g rc : Nat} (hs : a.tmps.size = 189) (x0 : a.eval (.tmp 0) = pv bb 0) (xk : a.eval (.tmp 6) = vi (k : Nat)) (xr_ : a.eval (.tmp 5) = Value.slice (some ⟨g, 0, none⟩) m rc) (hlt : (k : Int) < (m : Int)) (hcell : w.cell? ⟨g, k, none⟩ = some (vi z)) (hB : BK w bb f) (h2 : f 2 = .int .i64 turn)
    (hEnd : ∀ a', a'.tmps.size = a.tmps.size → a'.defers = a.defers → (∀ s : Nat, s < 10 → a'.eval (.tmp s) = a.eval (.tmp s)) → a'.eval (.tmp 63) = .bool (decide (turn < z)) → K a' w.drew) :
    (Code.region 11 (opsOf 11 Tryz.f142.body) true).wp Tryz.prog (Exit.then K Q) a w := by
  refine wp_region_chain (by kernel_rfl) [some 55, some 56, some 57, some 58, some 59, some 60, some 61, some 62, some 63] (fun kk => match kk with
      | 0 => Value.slice (some ⟨g, 0, none⟩) m rc
      | 1 => vi (k : Nat)
      | 2 => pv g k
      | 3 => vi z
      | 4 => pv bb 0
      | 5 => pv bb 0
      | 6 => pv bb 2
      | 7 => vi turn
      | 8 => Value.bool (decide (turn < z))
      | _ => undef) (by rw [hs]; kernel_rfl) [] (fun jj => match jj with
      | _ => w.drew) rfl (by first | decide | nofun) (by decide +kernel) ?_ ?_ ?_
  · intro kk gg bq h
    exact (no_guard (by kernel_rfl) h).elim
  · intro kk hk _ o ac wa wb K ho hd _ hoff hv hL hK
    rcases (by simp at hk; omega : kk = 0 ∨ kk = 1 ∨ kk = 2 ∨ kk = 3 ∨ kk = 4 ∨ kk = 5 ∨ kk = 6 ∨ kk = 7 ∨ kk = 8) with rfl | rfl | rfl | rfl | rfl | rfl | rfl | rfl | rfl
    · obtain ⟨rfl, jw, hjw, rfl, hjR⟩ := hL.off (by first | decide | nofun)
      exact l_val hd ((x_move (op_is rfl ho)).trans (by rw [(hoff 5 (by first | decide | nofun)).trans xr_]; rfl)) hK
    · obtain ⟨rfl, jw, hjw, rfl, hjR⟩ := hL.off (by first | decide | nofun)
      exact l_val hd ((x_move (op_is rfl ho)).trans (by rw [(hoff 6 (by first | decide | nofun)).trans xk]; rfl)) hK
    · obtain ⟨rfl, jw, hjw, rfl, hjR⟩ := hL.off (by first | decide | nofun)
      exact l_val hd (x_index (op_is rfl ho) (by rw [hv 0 55 rfl (by kernel_rfl), hv 1 56 rfl (by kernel_rfl)]; exact idx_ints hlt)) hK
    · obtain ⟨rfl, jw, hjw, rfl, hjR⟩ := hL.off (by first | decide | nofun)
      exact l_val hd (x_load (op_is rfl ho) (by rw [hv 2 57 rfl (by kernel_rfl)]; exact ld_int hcell)) hK
    · obtain ⟨rfl, jw, hjw, rfl, hjR⟩ := hL.off (by first | decide | nofun)
      exact l_val hd ((x_move (op_is rfl ho)).trans (by rw [(hoff 0 (by first | decide | nofun)).trans x0]; rfl)) hK
    · obtain ⟨rfl, jw, hjw, rfl, hjR⟩ := hL.off (by first | decide | nofun)
      exact l_val hd (x_nil (op_is rfl ho) (hv 4 59 rfl (by kernel_rfl))) hK
    · obtain ⟨rfl, jw, hjw, rfl, hjR⟩ := hL.off (by first | decide | nofun)
      exact l_val hd (x_field (op_is rfl ho) (by rw [hv 5 60 rfl (by kernel_rfl)]; unfold pv; go_simp)) hK
    · obtain ⟨rfl, jw, hjw, rfl, hjR⟩ := hL.off (by first | decide | nofun)
      exact l_val hd (x_load (op_is rfl ho) (by rw [hv 6 61 rfl (by kernel_rfl)]; exact ld_int ((hB.cell (i := 2) (by omega)).trans (by rw [h2])))) hK
    · obtain ⟨rfl, jw, hjw, rfl, hjR⟩ := hL.off (by first | decide | nofun)
      exact l_val hd (x_gtr (op_is rfl ho) (hv 3 58 rfl (by kernel_rfl)) (hv 7 62 rfl (by kernel_rfl))) hK
  · intro a1 g1 g2 g3 g4
    exact hEnd a1 g1 g2 (fun s hs' => ev_same (g3 s (not_low hs' (by first | decide | nofun)))) (g4 8 63 rfl)
set_option maxRecDepth 100000 in
set_option maxHeartbeats 1600000 in
theorem markSlots_r17 {K : Act → World → Prop} {Q : Exit → Act → World → Prop} {a : Act} {w : World}  (hs : a.tmps.size = 189) 
    (hEnd : ∀ a', a'.tmps.size = a.tmps.size → a'.defers = a.defers → (∀ s : Nat, s < 10 → s ≠ 9 → a'.eval (.tmp s) = a.eval (.tmp s)) → a'.eval (.tmp 9) = vi ((0 : Nat) : Int) → K a' w) :
    (Code.region 17 (opsOf 17 Tryz.f142.body) false).wp Tryz.prog (Exit.then K Q) a w := by
  refine wp_region_line [some 9] (fun kk => match kk with
      | 0 => Value.int IntKind.i64 (0)
      | _ => undef) (by rw [hs]; kernel_rfl) [] (fun jj => match jj with
      | _ => w) rfl (by first | decide | nofun) (by decide +kernel) ?_ ?_ ?_
  · intro kk gg bq h
    exact (no_guard (by kernel_rfl) h).elim
  · intro kk hk _ o ac wa wb K ho hd _ hoff hv hL hK
    obtain rfl : kk = 0 := by simp at hk; omega
    · obtain ⟨rfl, jw, hjw, rfl, hjR⟩ := hL.off (by first | decide | nofun)
      exact l_val (v := Value.int IntKind.i64 (0)) hd ((x_assign (op_is (p := .assign (.const (Value.int IntKind.i64 (0)))) rfl ho)).trans rfl) hK
  · intro a1 g1 g2 g3 g4
    exact hEnd a1 g1 g2 (fun s hs' h9 => ev_same (g3 s (not_low2 hs' h9 (by first | decide | nofun)))) (g4 0 9 rfl)
set_option maxRecDepth 100000 in
set_option maxHeartbeats 1600000 in
theorem markSlots_r19 {K : Act → World → Prop} {Q : Exit → Act → World → Prop} {a : Act} {w : World} {k : Nat} (hs : a.tmps.size = 189) (hd : a.defers = []) (xk : a.eval (.tmp 9) = vi (k : Nat)) (hk : k ≤ 1000000)
    (hEnd : ∀ a', a'.tmps.size = a.tmps.size → a'.defers = a.defers → (∀ s : Nat, s < 10 → s ≠ 9 → a'.eval (.tmp s) = a.eval (.tmp s)) → a'.eval (.tmp 9) = vi ((k + 1 : Nat) : Int) → K a' w) :
    (Code.region 19 (opsOf 19 Tryz.f142.body) false).wp Tryz.prog (Exit.then K Q) a w := by
  obtain ⟨cc, rfl, hcc⟩ := expand189 hs hd
  have y : cc 9 = .int .i64 (k : Nat) := (hcc 9).trans xk
  have HE : Hid _ := hEnd
  clear hEnd xk hcc hs hd
  conv => arg 2; whnf
  unfold lit189 at *
  simp only [y] at *
  go_wp2
  show K _ _
  refine HE.out _ rfl rfl (fun s hs hc => ?_) (by show Value.int .i64 ((k : Int) + 1) = vi ((k + 1 : Nat) : Int); simp)
  match s, hs, hc with
    | 0, _, _ => rfl
    | 1, _, _ => rfl
    | 2, _, _ => rfl
    | 3, _, _ => rfl
    | 4, _, _ => rfl
    | 5, _, _ => rfl
    | 6, _, _ => rfl
    | 7, _, _ => rfl
    | 8, _, _ => rfl
    | 9, _, h => exact absurd rfl h
    | n + 10, hs, _ => exact absurd hs (by simp)
set_option maxRecDepth 100000 in
set_option maxHeartbeats 1600000 in
theorem markSlots_r8 {K : Act → World → Prop} {Q : Exit → Act → World → Prop} {a : Act} {w : World} {k : Nat} (hs : a.tmps.size = 189) (hd : a.defers = []) (xk : a.eval (.tmp 6) = vi (k : Nat)) (hk : k ≤ 1000000)
    (hEnd : ∀ a', a'.tmps.size = a.tmps.size → a'.defers = a.defers → (∀ s : Nat, s < 10 → s ≠ 6 → a'.eval (.tmp s) = a.eval (.tmp s)) → a'.eval (.tmp 6) = vi ((k + 1 : Nat) : Int) → K a' w) :
    (Code.region 8 (opsOf 8 Tryz.f142.body) false).wp Tryz.prog (Exit.then K Q) a w := by
  obtain ⟨cc, rfl, hcc⟩ := expand189 hs hd
  have y : cc 6 = .int .i64 (k : Nat) := (hcc 6).trans xk
  have HE : Hid _ := hEnd
  clear hEnd xk hcc hs hd
  conv => arg 2; whnf
  unfold lit189 at *
  simp only [y] at *
  go_wp2
  show K _ _
  refine HE.out _ rfl rfl (fun s hs hc => ?_) (by show Value.int .i64 ((k : Int) + 1) = vi ((k + 1 : Nat) : Int); simp)
  match s, hs, hc with
    | 0, _, _ => rfl
    | 1, _, _ => rfl
    | 2, _, _ => rfl
    | 3, _, _ => rfl
    | 4, _, _ => rfl
    | 5, _, _ => rfl
    | 6, _, h => exact absurd rfl h
    | 7, _, _ => rfl
    | 8, _, _ => rfl
    | 9, _, _ => rfl
    | n + 10, hs, _ => exact absurd hs (by simp)
set_option maxRecDepth 100000 in
set_option maxHeartbeats 1600000 in
theorem markSlots_r16 {K : Act → World → Prop} {Q : Exit → Act → World → Prop} {a : Act} {w : World} {w1 : World} {bb : Nat} {f : Nat → Value} {l nt : Value} {k m g rc : Nat} (hs : a.tmps.size = 189) (x0 : a.eval (.tmp 0) = pv bb 0) (x7 : a.eval (.tmp 7) = l) (xk : a.eval (.tmp 6) = vi (k : Nat)) (xr_ : a.eval (.tmp 3) = Value.slice (some ⟨g, 0, none⟩) m rc) (hlt : (k : Int) < (m : Int)) (hcell : w.cell? ⟨g, k, none⟩ = some nt) (hy : ∃ sa sn sc, nt = .slice sa sn sc) (hB : BK w bb f) (hB1 : BK w1 bb f) (h0 : f 0 = .bool false) (h1 : f 1 = .bool false) (HC : Calls Tryz.prog 98 #[l, nt] w fun e w'' => e = .returned (.bool true) ∧ w'' = w1)
    (hEnd : ∀ a', a'.tmps.size = a.tmps.size → a'.defers = a.defers → (∀ s : Nat, s < 10 → a'.eval (.tmp s) = a.eval (.tmp s)) → K a' (w1.setCell ⟨bb, 1, none⟩ (.bool false))) :
    (Code.region 16 (opsOf 16 Tryz.f142.body) false).wp Tryz.prog (Exit.then K Q) a w := by
  refine wp_region_line [some 110, some 111, some 112, some 113, some 114, some 115, some 116, some 117, some 118, some 119, some 120, some 121, some 122, some 123, some 124, some 125, some 126, some 127, some 128, some 129, some 130, some 131, some 132, none] (fun kk => match kk with
      | 0 => pv bb 0
      | 1 => pv bb 0
      | 2 => pv bb 0
      | 3 => pv bb 1
      | 4 => Value.bool false
      | 5 => Value.bool false
      | 6 => pv bb 0
      | 7 => pv bb 0
      | 8 => pv bb 0
      | 9 => Value.bool false
      | 10 => Value.bool true
      | 11 => Value.bool true
      | 12 => l
      | 13 => Value.slice (some ⟨g, 0, none⟩) m rc
      | 14 => vi (k : Nat)
      | 15 => pv g k
      | 16 => nt
      | 17 => Value.bool true
      | 18 => Value.bool false
      | 19 => Value.bool false
      | 20 => Value.bool false
      | 21 => pv bb 0
      | 22 => pv bb 1
      | 23 => undef
      | _ => undef) (by rw [hs]; kernel_rfl) [17, 23] (fun jj => match jj with
      | 0 => w
      | 1 => w1
      | _ => w1.setCell ⟨bb, 1, none⟩ (.bool false)) rfl (by first | decide | nofun) (by decide +kernel) ?_ ?_ ?_
  · intro kk gg bq h
    obtain ⟨rfl, rfl⟩ | ⟨rfl, rfl⟩ := two_guards (g0 := 5) (b0 := false) (g1 := 11) (b1 := true) (by kernel_rfl) h
    · exact ⟨false, rfl, fun e => absurd rfl e⟩
    · exact ⟨true, rfl, fun e => absurd rfl e⟩
  · intro kk hk _ o ac wa wb K ho hd _ hoff hv hL hK
    rcases (by simp at hk; omega : kk = 0 ∨ kk = 1 ∨ kk = 2 ∨ kk = 3 ∨ kk = 4 ∨ kk = 5 ∨ kk = 6 ∨ kk = 7 ∨ kk = 8 ∨ kk = 9 ∨ kk = 10 ∨ kk = 11 ∨ kk = 12 ∨ kk = 13 ∨ kk = 14 ∨ kk = 15 ∨ kk = 16 ∨ kk = 17 ∨ kk = 18 ∨ kk = 19 ∨ kk = 20 ∨ kk = 21 ∨ kk = 22 ∨ kk = 23) with rfl | rfl | rfl | rfl | rfl | rfl | rfl | rfl | rfl | rfl | rfl | rfl | rfl | rfl | rfl | rfl | rfl | rfl | rfl | rfl | rfl | rfl | rfl | rfl
    · obtain ⟨rfl, jw, hjw, rfl, hjR⟩ := hL.off (by first | decide | nofun)
      exact l_val hd ((x_move (op_is rfl ho)).trans (by rw [(hoff 0 (by first | decide | nofun)).trans x0]; rfl)) hK
    · obtain ⟨rfl, jw, hjw, rfl, hjR⟩ := hL.off (by first | decide | nofun)
      exact l_val hd ((x_move (op_is rfl ho)).trans (by rw [(hoff 0 (by first | decide | nofun)).trans x0]; rfl)) hK
    · obtain ⟨rfl, jw, hjw, rfl, hjR⟩ := hL.off (by first | decide | nofun)
      exact l_val hd (x_nil (op_is rfl ho) (hv 1 111 rfl (by kernel_rfl))) hK
    · obtain ⟨rfl, jw, hjw, rfl, hjR⟩ := hL.off (by first | decide | nofun)
      exact l_val hd (x_field (op_is rfl ho) (by rw [hv 2 112 rfl (by kernel_rfl)]; unfold pv; go_simp)) hK
    · obtain ⟨rfl, jw, hjw, rfl, hjR⟩ := hL.off (by first | decide | nofun)
      have hj := hjR 0 17 rfl (by first | decide | nofun)
      obtain rfl : jw = 0 := by omega
      exact l_val hd (x_load (op_is rfl ho) (by rw [hv 3 113 rfl (by kernel_rfl)]; exact ld_bool ((hB.cell (i := 1) (by omega)).trans (by rw [h1])))) hK
    · obtain ⟨rfl, jw, hjw, rfl, hjR⟩ := hL.off (by first | decide | nofun)
      exact l_val hd ((x_move (op_is rfl ho)).trans (by rw [hv 4 114 rfl (by kernel_rfl)]; rfl)) hK
    · obtain ⟨rfl, jw, hjw, rfl, hjR⟩ := hL.off (by first | decide | nofun)
      exact l_val hd ((x_move (op_is rfl ho)).trans (by rw [(hoff 0 (by first | decide | nofun)).trans x0]; rfl)) hK
    · obtain ⟨rfl, jw, hjw, rfl, hjR⟩ := hL.off (by first | decide | nofun)
      exact l_val hd (x_nil (op_is rfl ho) (hv 6 116 rfl (by kernel_rfl))) hK
    · obtain ⟨rfl, jw, hjw, rfl, hjR⟩ := hL.off (by first | decide | nofun)
      exact l_val hd (x_field (op_is rfl ho) (by rw [hv 7 117 rfl (by kernel_rfl)]; unfold pv; go_simp)) hK
    · obtain ⟨rfl, jw, hjw, rfl, hjR⟩ := hL.off (by first | decide | nofun)
      have hj := hjR 0 17 rfl (by first | decide | nofun)
      obtain rfl : jw = 0 := by omega
      exact l_val hd (x_load (op_is rfl ho) (by rw [hv 8 118 rfl (by kernel_rfl)]; exact ld_bool ((hB.cell (i := 0) (by omega)).trans (by rw [h0])))) hK
    · obtain ⟨rfl, jw, hjw, rfl, hjR⟩ := hL.off (by first | decide | nofun)
      exact l_val hd ((x_not (op_is rfl ho) (hv 9 119 rfl (by kernel_rfl))).trans rfl) hK
    · obtain ⟨rfl, jw, hjw, rfl, hjR⟩ := hL.off (by first | decide | nofun)
      exact l_val hd ((x_move (op_is rfl ho)).trans (by rw [hv 10 120 rfl (by kernel_rfl)]; rfl)) hK
    · obtain ⟨rfl, jw, hjw, rfl, hjR⟩ := hL.off (by first | decide | nofun)
      exact l_val hd ((x_move (op_is rfl ho)).trans (by rw [(hoff 7 (by first | decide | nofun)).trans x7]; rfl)) hK
    · obtain ⟨rfl, jw, hjw, rfl, hjR⟩ := hL.off (by first | decide | nofun)
      exact l_val hd ((x_move (op_is rfl ho)).trans (by rw [(hoff 3 (by first | decide | nofun)).trans xr_]; rfl)) hK
    · obtain ⟨rfl, jw, hjw, rfl, hjR⟩ := hL.off (by first | decide | nofun)
      exact l_val hd ((x_move (op_is rfl ho)).trans (by rw [(hoff 6 (by first | decide | nofun)).trans xk]; rfl)) hK
    · obtain ⟨rfl, jw, hjw, rfl, hjR⟩ := hL.off (by first | decide | nofun)
      exact l_val hd (x_index (op_is rfl ho) (by rw [hv 13 123 rfl (by kernel_rfl), hv 14 124 rfl (by kernel_rfl)]; exact idx_lists_Slots hlt)) hK
    · obtain ⟨rfl, jw, hjw, rfl, hjR⟩ := hL.off (by first | decide | nofun)
      have hj := hjR 0 17 rfl (by first | decide | nofun)
      obtain rfl : jw = 0 := by omega
      exact l_val hd (x_load (op_is rfl ho) (by rw [hv 15 125 rfl (by kernel_rfl)]; exact Slots_ldi hy hcell)) hK
    · obtain ⟨rfl, rfl⟩ := hL.at_ (by first | decide | nofun) (j := 0) rfl
      exact l_call hd (op_is rfl ho) (by simp only [List.map_toArray, List.map_cons, List.map_nil, hv 12 122 rfl (by kernel_rfl), hv 16 126 rfl (by kernel_rfl)] <;> rfl) Tryz.func98 (by kernel_rfl) (by rfl) HC hK
    · obtain ⟨rfl, jw, hjw, rfl, hjR⟩ := hL.off (by first | decide | nofun)
      exact l_val hd ((x_not (op_is rfl ho) (hv 17 127 rfl (by kernel_rfl))).trans rfl) hK
    · obtain ⟨rfl, jw, hjw, rfl, hjR⟩ := hL.off (by first | decide | nofun)
      exact l_val (v := .bool false) hd ((x_pick (op_is (p := .pick (.tmp 121) (.tmp 128) (.const (.bool false))) rfl ho) (hv 11 121 rfl (by kernel_rfl))).trans (by show Result.ok (Next.value (ac.eval (.tmp 128))) _ = _; rw [hv 18 128 rfl (by kernel_rfl)]; rfl)) hK
    · obtain ⟨rfl, jw, hjw, rfl, hjR⟩ := hL.off (by first | decide | nofun)
      exact l_val (v := .bool false) hd ((x_pick (op_is (p := .pick (.tmp 115) (.const (.bool true)) (.tmp 129)) rfl ho) (hv 5 115 rfl (by kernel_rfl))).trans (by show Result.ok (Next.value (ac.eval (.tmp 129))) _ = _; rw [hv 19 129 rfl (by kernel_rfl)]; rfl)) hK
    · obtain ⟨rfl, jw, hjw, rfl, hjR⟩ := hL.off (by first | decide | nofun)
      exact l_val hd (x_nil (op_is rfl ho) (hv 0 110 rfl (by kernel_rfl))) hK
    · obtain ⟨rfl, jw, hjw, rfl, hjR⟩ := hL.off (by first | decide | nofun)
      exact l_val hd (x_field (op_is rfl ho) (by rw [hv 21 131 rfl (by kernel_rfl)]; unfold pv; go_simp)) hK
    · obtain ⟨rfl, rfl⟩ := hL.at_ (by first | decide | nofun) (j := 1) rfl
      exact l_skip hd (x_store (op_is rfl ho) (by rw [hv 22 132 rfl (by kernel_rfl), hv 20 130 rfl (by kernel_rfl)]; exact st_bool (hB1.cell (i := 1) (by omega)) (hB1.froz 1))) hK
  · intro a1 g1 g2 g3 g4
    exact hEnd a1 g1 g2 (fun s hs' => ev_same (g3 s (not_low hs' (by first | decide | nofun))))
end Go.Proofs.YtjbhnpofdafmbaaGreatDoor
/- A list of kind Slots is written full. -/
namespace Go.Proofs.YtjbhnpofdafmbaaGreatDoor
open Go.RowKit
set_option maxRecDepth 100000 in
set_option maxHeartbeats 1600000 in
theorem markSlots_r20 {K : Act → World → Prop} {Q : Exit → Act → World → Prop} {a : Act} {w : World} {g n cap i : Nat} {mark : Int} {zs : List Int} (hs : a.tmps.size = 189) (hd : a.defers = []) (x7 : a.eval (.tmp 7) = .slice (some ⟨g, 0, none⟩) n cap) (x8 : a.eval (.tmp 8) = vi mark) (x9 : a.eval (.tmp 9) = vi (i : Nat)) (hmk : small mark) (hi : i < n) (hn : n ≤ 4500) (hl : IRow w 64 7 (.slice (some ⟨g, 0, none⟩) n cap) n zs)
    (hEnd : ∀ a' zs', a'.tmps.size = a.tmps.size → a'.defers = a.defers → (∀ s : Nat, s < 10 → a'.eval (.tmp s) = a.eval (.tmp s)) → IRow (((((((w.setCell ⟨g, i * 7, none⟩ (.int .i64 (mark + 3 * (i : Int)))).setCell ⟨g, i * 7 + 1, none⟩ (.int .i64 (0))).setCell ⟨g, i * 7 + 2, none⟩ (.int .i64 (0))).setCell ⟨g, i * 7 + 3, none⟩ (.int .i64 (0))).setCell ⟨g, i * 7 + 4, none⟩ (.int .i64 (0))).setCell ⟨g, i * 7 + 5, none⟩ (.int .i64 (0))).setCell ⟨g, i * 7 + 6, none⟩ (.int .i64 (0))) 64 7 (.slice (some ⟨g, 0, none⟩) n cap) n zs' → K a' (((((((w.setCell ⟨g, i * 7, none⟩ (.int .i64 (mark + 3 * (i : Int)))).setCell ⟨g, i * 7 + 1, none⟩ (.int .i64 (0))).setCell ⟨g, i * 7 + 2, none⟩ (.int .i64 (0))).setCell ⟨g, i * 7 + 3, none⟩ (.int .i64 (0))).setCell ⟨g, i * 7 + 4, none⟩ (.int .i64 (0))).setCell ⟨g, i * 7 + 5, none⟩ (.int .i64 (0))).setCell ⟨g, i * 7 + 6, none⟩ (.int .i64 (0)))) :
    (Code.region 20 (opsOf 20 Tryz.f142.body) false).wp Tryz.prog (Exit.then K Q) a w := by
  obtain ⟨cc, rfl, hcc⟩ := expand189 hs hd
  have y7 : cc 7 = .slice (some ⟨g, 0, none⟩) n cap := (hcc 7).trans x7
  have y8 : cc 8 = .int .i64 mark := (hcc 8).trans x8
  have y9 : cc 9 = .int .i64 (i : Nat) := (hcc 9).trans x9
  have HE : Hid _ := hEnd
  have hm0 := hmk.1
  have hm1 := hmk.2
  have c0 : w.cell? ⟨g, i * 7, none⟩ = some (.int .i64 (zs.getD (i * 7) 0)) := IRow.cell hl (j := i * 7) (by omega)
  have c1 : w.cell? ⟨g, i * 7 + 1, none⟩ = some (.int .i64 (zs.getD (i * 7 + 1) 0)) := IRow.cell hl (j := i * 7 + 1) (by omega)
  have c2 : w.cell? ⟨g, i * 7 + 2, none⟩ = some (.int .i64 (zs.getD (i * 7 + 2) 0)) := IRow.cell hl (j := i * 7 + 2) (by omega)
  have c3 : w.cell? ⟨g, i * 7 + 3, none⟩ = some (.int .i64 (zs.getD (i * 7 + 3) 0)) := IRow.cell hl (j := i * 7 + 3) (by omega)
  have c4 : w.cell? ⟨g, i * 7 + 4, none⟩ = some (.int .i64 (zs.getD (i * 7 + 4) 0)) := IRow.cell hl (j := i * 7 + 4) (by omega)
  have c5 : w.cell? ⟨g, i * 7 + 5, none⟩ = some (.int .i64 (zs.getD (i * 7 + 5) 0)) := IRow.cell hl (j := i * 7 + 5) (by omega)
  have c6 : w.cell? ⟨g, i * 7 + 6, none⟩ = some (.int .i64 (zs.getD (i * 7 + 6) 0)) := IRow.cell hl (j := i * 7 + 6) (by omega)
  have z := World.ownsRow.frozenAt hl
  have hgl : g < w.heap.size := (hl.lt g rfl).2
  have r0 := row_set hl (i * 7) (mark + 3 * (i : Int))
  have r1 := row_set r0 (i * 7 + 1) (0)
  have r2 := row_set r1 (i * 7 + 2) (0)
  have r3 := row_set r2 (i * 7 + 3) (0)
  have r4 := row_set r3 (i * 7 + 4) (0)
  have r5 := row_set r4 (i * 7 + 5) (0)
  have r6 := row_set r5 (i * 7 + 6) (0)
  have HR : Hid _ := r6
  clear r0 r1 r2 r3 r4 r5 r6
  clear hEnd hcc hs hd x7 x8 x9 hl hmk
  have hlt : (i : Int) < (n : Int) := by omega
  conv => arg 2; whnf
  unfold lit189 at *
  simp only [y7, y8, y9] at *
  go_wp2
  show K _ _
  refine HE.out _ _ rfl rfl (fun s hs => ?_) HR.out
  match s, hs with
  | 0, _ => rfl
  | 1, _ => rfl
  | 2, _ => rfl
  | 3, _ => rfl
  | 4, _ => rfl
  | 5, _ => rfl
  | 6, _ => rfl
  | 7, _ => rfl
  | 8, _ => rfl
  | 9, _ => rfl
  | n + 10, hs => exact absurd hs (by simp)
/-- The list is written full. -/
theorem markSlots_inner {K : Act → World → Prop} {Q : Exit → Act → World → Prop} {a : Act} {w : World} {l : Value} {n : Nat} {mark : Int} {zs : List Int} (hs : a.tmps.size = 189) (hd : a.defers = []) (x7 : a.eval (.tmp 7) = l) (x8 : a.eval (.tmp 8) = vi mark) (hmk : small mark) (hn : n ≤ 4500) (hl : IRow w 64 7 l n zs)
    (hEnd : ∀ a' w' zs', a'.tmps.size = a.tmps.size → a'.defers = a.defers → (∀ s : Nat, s < 9 → a'.eval (.tmp s) = a.eval (.tmp s)) → IRow w' 64 7 l n zs' → Turned l.ownBlock.toList w w' → K a' w') :
    ((Code.region 17 (opsOf 17 Tryz.f142.body) false).seq (Code.block 2 (Code.loop (((Code.region 18 (opsOf 18 Tryz.f142.body) false).seq (Code.cond (.tmp 136) .skip (.exit 2))).seq ((Code.block 3 (Code.region 20 (opsOf 20 Tryz.f142.body) false)).seq (Code.region 19 (opsOf 19 Tryz.f142.body) false)))))).wp Tryz.prog (Exit.then K Q) a w := by
  obtain ⟨la, lc, rfl⟩ := Row.shape hl
  refine wp_seq ?_
  refine markSlots_r17 hs ?_
  intro a1 s1 d1 k1 e9
  refine wp_block ?_
  refine wp_loop (fun a' w' => ∃ (i : Nat) (zs' : List Int), i ≤ n ∧ a'.tmps.size = 189 ∧ a'.defers = [] ∧ (∀ s : Nat, s < 9 → a'.eval (.tmp s) = a.eval (.tmp s)) ∧ a'.eval (.tmp 9) = vi (i : Nat) ∧ IRow w' 64 7 (.slice la n lc) n zs' ∧ Turned (Value.slice la n lc).ownBlock.toList w w') (fun a' _ => n - (intOf (a'.eval (.tmp 9))).toNat) ?_ ?_
  · exact ⟨0, zs, Nat.zero_le _, s1.trans hs, d1.trans hd, fun s h => k1 s (by omega) (by omega), e9, hl, Turned.refl _ _⟩
  · rintro a2 w2 ⟨i, zs2, hi, hs2, hd2, hk2, x9, hr2, hS2⟩
    have x72 : a2.eval (.tmp 7) = .slice la n lc := (hk2 7 (by omega)).trans x7
    have x82 : a2.eval (.tmp 8) = vi mark := (hk2 8 (by omega)).trans x8
    refine wp_seq ?_
    refine wp_seq ?_
    refine markSlots_r18 hs2 x9 x72 ?_
    intro a3 s3 d3 k3 e3
    by_cases hlt : i < n
    · refine wp_cond_true (e3.trans (by simp; omega)) ?_
      refine wp_skip ?_
      obtain ⟨g, cap, cur, e, hg, -⟩ := Row.form hr2 (by omega)
      simp only [Value.slice.injEq, true_and] at e
      obtain ⟨rfl, rfl⟩ := e
      refine wp_seq ?_
      refine wp_block ?_
      refine wp_fall ?_
      refine markSlots_r20 (s3.trans hs2) (d3.trans hd2) ((k3 7 (by omega)).trans x72) ((k3 8 (by omega)).trans x82) ((k3 9 (by omega)).trans x9) hmk hlt hn hr2 ?_
      intro a4 zs4 s4 d4 k4 hr4
      show (Code.region 19 (opsOf 19 Tryz.f142.body) false).wp _ _ _ _
      refine markSlots_r19 (k := i) (s4.trans (s3.trans hs2)) (d4.trans (d3.trans hd2)) ((k4 9 (by omega)).trans ((k3 9 (by omega)).trans x9)) (by omega) ?_
      intro a5 s5 d5 k5 e5
      refine ⟨⟨i + 1, zs4, by omega, s5.trans (s4.trans (s3.trans hs2)), d5.trans (d4.trans (d3.trans hd2)), fun s h => (k5 s (by omega) (by omega)).trans ((k4 s (by omega)).trans ((k3 s (by omega)).trans (hk2 s h))), e5, hr4, hS2.trans ?_⟩, ?_⟩
      · exact ((((((((Turned.refl _ w2).set (.inl (by simp [Value.ownBlock])) _ _).set (.inl (by simp [Value.ownBlock])) _ _).set (.inl (by simp [Value.ownBlock])) _ _).set (.inl (by simp [Value.ownBlock])) _ _).set (.inl (by simp [Value.ownBlock])) _ _).set (.inl (by simp [Value.ownBlock])) _ _).set (.inl (by simp [Value.ownBlock])) _ _)
      · rw [e5, x9]
        simp [intOf]
        omega
    · have : i = n := by omega
      subst this
      refine wp_cond_false (e3.trans (by simp)) ?_
      refine wp_exit ?_
      exact hEnd a3 w2 zs2 (s3.trans (hs2.trans hs.symm)) (d3.trans (hd2.trans hd.symm)) (fun s h => (k3 s (by omega)).trans (hk2 s h)) hr2 hS2
end Go.Proofs.YtjbhnpofdafmbaaGreatDoor
/- The two ways of a round of the book's mark (kind Slots). -/
namespace Go.Proofs.YtjbhnpofdafmbaaGreatDoor
open Go.RowKit
set_option maxHeartbeats 1600000 in
/-- A list that isn't due waits on. -/
theorem markSlots_kept {Q : Exit → Act → World → Prop} {a : Act} {w w0 : World} {bb : Nat} {C C0 : Own} {f f0 : Nat → Value} {ot ot' : List Ot} {kept wn : List Wt} {fr : List Fh} {Wv Nv Mv Dv : Value} {j : Nat} {q : Wt} (hs : a.tmps.size = 189) (hd : a.defers = []) (x0 : a.eval (.tmp 0) = pv bb 0) (x3 : a.eval (.tmp 3) = Nv) (x5 : a.eval (.tmp 5) = Dv) (x6 : a.eval (.tmp 6) = vi (j : Nat)) (x7 : a.eval (.tmp 7) = q.l) (x8 : a.eval (.tmp 8) = vi q.mark)
    (hq : wn[j]? = some q) (hwl : wn.length ≤ 100000) (hF : Fit C w bb) (hB : BK w bb f)
    (hO : KOut C w kcSlots f ((ot ++ ot').map (·.o)) ((ot ++ ot').map (·.c)) (kept.map (·.l)) (kept.map (·.c)) (fr.map (·.l)) ((kept.map (·.mark)).map vi) ((kept.map (·.due)).map vi) ((fr.map (·.mark)).map vi))
    (hR : KRows C w kcSlots (ot ++ ot') (kept ++ wn.drop j) fr) (hW : RowAt C w 2 .old 58 Wv (wn.map (·.l))) (hN : RowAt C w 2 .old 58 Nv (wn.map (·.c))) (hM : RowAt C w 2 .old 3 Mv ((wn.map (·.mark)).map vi)) (hD : RowAt C w 2 .old 3 Dv ((wn.map (·.due)).map vi))
    (hT : KFr 2 bb C0 w0 C w) (hf : ∀ i, i < 31 ∨ 39 ≤ i → f i = f0 i) (hlen : kept.length + fr.length = j) (hlo : ot'.length = fr.length)
    (hEnd : ∀ a' w', a'.tmps.size = 189 → a'.defers = [] → (∀ s : Nat, s < 10 → a'.eval (.tmp s) = a.eval (.tmp s)) → MarkAt kcSlots bb C0 w0 f0 ot wn Wv Nv Mv Dv (j + 1) w' → Q (.exit 1) a' w') :
    ((Code.region 12 (opsOf 12 Tryz.f142.body) false).seq ((Code.region 13 (opsOf 13 Tryz.f142.body) true).seq ((Code.region 14 (opsOf 14 Tryz.f142.body) false).seq ((Code.region 15 (opsOf 15 Tryz.f142.body) true).seq (Code.exit 1))))).wp Tryz.prog Q a w := by
  obtain ⟨hjl, hqe⟩ := List.getElem?_eq_some_iff.1 hq
  have hdrop : wn.drop j = q :: wn.drop (j + 1) := by rw [← hqe]; exact List.drop_eq_getElem_cons hjl
  have hqm : q ∈ kept ++ wn.drop j := by rw [hdrop]; simp
  obtain ⟨p1, p2, p3, p4, p5, p6, p7⟩ := hR.pW q hqm
  have hkl : kept.length ≤ 100000 := by omega
  obtain ⟨gN, cN, cuN, eN, -, -⟩ := Row.form hN.1 (by simp; omega)
  obtain ⟨gD, cD, cuD, eD, -, -⟩ := Row.form hD.1 (by simp; omega)
  refine wp_seq ?_
  refine markSlots_r12 hs x0 x7 (Row.slice p1) hF hB hO (by simp; omega) ?_
  intro a1 w1 C1 v1 s1 d1 k1 hF1 hS1 hB1 hO1
  have hN1 := hN.step hF hS1 (by simp) (by simp)
  have hD1 := hD.step hF hS1 (by simp) (by simp)
  have hW1 := hW.step hF hS1 (by simp) (by simp)
  have hM1 := hM.step hF hS1 (by simp) (by simp)
  have hR1 := hR.step hF hS1 (by simp) (by simp)
  have cN1 : w1.cell? ⟨gN, j, none⟩ = some q.c := by
    have h1 := hN1.1
    rw [eN] at h1
    have := World.ownsRow.cellAt (by simpa using h1) j (by simp; omega)
    rw [this]
    simp [hq]
  refine wp_seq ?_
  refine markSlots_r13 (s1.trans hs) ((k1 0 (by omega)).trans x0) ((k1 3 (by omega)).trans (x3.trans eN)) ((k1 6 (by omega)).trans x6) (by simp; omega) cN1 (Row.slice p2) hF1 hB1 hO1 (by simp; omega) ?_
  intro a2 w2 C2 v2 s2 d2 k2 hF2 hS2 hB2 hO2
  have hN2 := hN1.step hF1 hS2 (by simp) (by simp)
  have hD2 := hD1.step hF1 hS2 (by simp) (by simp)
  have hW2 := hW1.step hF1 hS2 (by simp) (by simp)
  have hM2 := hM1.step hF1 hS2 (by simp) (by simp)
  have hR2 := hR1.step hF1 hS2 (by simp) (by simp)
  refine wp_seq ?_
  refine markSlots_r14 (s2.trans (s1.trans hs)) ((k2 0 (by omega)).trans ((k1 0 (by omega)).trans x0)) ((k2 8 (by omega)).trans ((k1 8 (by omega)).trans x8)) hF2 hB2 hO2 (by simp; omega) ?_
  intro a3 w3 C3 v3 s3 d3 k3 hF3 hS3 hB3 hO3
  have hN3 := hN2.step hF2 hS3 (by simp) (by simp)
  have hD3 := hD2.step hF2 hS3 (by simp) (by simp)
  have hW3 := hW2.step hF2 hS3 (by simp) (by simp)
  have hM3 := hM2.step hF2 hS3 (by simp) (by simp)
  have hR3 := hR2.step hF2 hS3 (by simp) (by simp)
  have cD3 : w3.cell? ⟨gD, j, none⟩ = some (vi q.due) := by
    have h1 := hD3.1
    rw [eD] at h1
    have := World.ownsRow.cellAt (by simpa using h1) j (by simp; omega)
    rw [this]
    simp [hq]
  have kk : ∀ s : Nat, s < 10 → a3.eval (.tmp s) = a.eval (.tmp s) := fun s h => (k3 s h).trans ((k2 s h).trans (k1 s h))
  refine wp_seq ?_
  refine markSlots_r15 (s3.trans (s2.trans (s1.trans hs))) ((kk 0 (by omega)).trans x0) ((kk 5 (by omega)).trans (x5.trans eD)) ((kk 6 (by omega)).trans x6) (by simp; omega) cD3 hF3 hB3 hO3 (by simp; omega) ?_
  intro a4 w4 C4 v4 s4 d4 k4 hF4 hS4 hB4 hO4
  have hN4 := hN3.step hF3 hS4 (by simp) (by simp)
  have hD4 := hD3.step hF3 hS4 (by simp) (by simp)
  have hW4 := hW3.step hF3 hS4 (by simp) (by simp)
  have hM4 := hM3.step hF3 hS4 (by simp) (by simp)
  have hR4 := hR3.step hF3 hS4 (by simp) (by simp)
  refine wp_exit ?_
  refine hEnd a4 w4 (s4.trans (s3.trans (s2.trans (s1.trans hs)))) (d4.trans (d3.trans (d2.trans (d1.trans hd)))) (fun s h => (k4 s h).trans (kk s h)) ?_
  have fT : ∀ {t : Tg} (x : Nat × Tg), x = (2, t) → x.1 = 2 := fun x h => by rw [h]
  refine ⟨C4, _, ot', kept ++ [q], fr, hF4, hB4, by simpa using hO4, ?_, hW4, hN4, hM4, hD4, (((hT.trans (KFr.of hS1 fT)).trans (KFr.of hS2 fT)).trans (KFr.of hS3 fT)).trans (KFr.of hS4 fT), ?_, by simp; omega, hlo⟩
  · rw [hdrop] at hR4
    simpa using hR4
  · intro i hi
    have hi' : i < 31 ∨ 39 ≤ i := hi
    rw [upd_other _ _ (by omega), upd_other _ _ (by omega), upd_other _ _ (by omega), upd_other _ _ (by omega)]
    exact hf i hi'
set_option maxHeartbeats 1600000 in
/-- A list that is due is written full, and kept. -/
theorem markSlots_due {Q : Exit → Act → World → Prop} {a : Act} {w w0 : World} {bb : Nat} {C C0 : Own} {f f0 : Nat → Value} {ot ot' : List Ot} {kept wn : List Wt} {fr : List Fh} {Wv Nv Mv Dv : Value} {j : Nat} {q : Wt} {w1 : World} (hs : a.tmps.size = 189) (hd : a.defers = []) (x0 : a.eval (.tmp 0) = pv bb 0) (x3 : a.eval (.tmp 3) = Nv) (x6 : a.eval (.tmp 6) = vi (j : Nat)) (x7 : a.eval (.tmp 7) = q.l) (x8 : a.eval (.tmp 8) = vi q.mark)
    (hq : wn[j]? = some q) (hwl : wn.length ≤ 100000) (hF : Fit C w bb) (hB : BK w bb f)
    (hO : KOut C w kcSlots f ((ot ++ ot').map (·.o)) ((ot ++ ot').map (·.c)) (kept.map (·.l)) (kept.map (·.c)) (fr.map (·.l)) ((kept.map (·.mark)).map vi) ((kept.map (·.due)).map vi) ((fr.map (·.mark)).map vi))
    (hR : KRows C w kcSlots (ot ++ ot') (kept ++ wn.drop j) fr) (hW : RowAt C w 2 .old 58 Wv (wn.map (·.l))) (hN : RowAt C w 2 .old 58 Nv (wn.map (·.c))) (hM : RowAt C w 2 .old 3 Mv ((wn.map (·.mark)).map vi)) (hD : RowAt C w 2 .old 3 Dv ((wn.map (·.due)).map vi))
    (hT : KFr 2 bb C0 w0 C w) (hf : ∀ i, i < 31 ∨ 39 ≤ i → f i = f0 i) (hlen : kept.length + fr.length = j) (hlo : ot'.length = fr.length) (hol : ot.length ≤ 100000) (h0 : f0 0 = .bool false) (h1 : f0 1 = .bool false)
    (HC : Calls Tryz.prog 98 #[q.l, q.c] w fun e w'' => e = .returned (.bool true) ∧ w'' = w1) (ht1 : Turned [] w w1)
    (hEnd : ∀ a' w', a'.tmps.size = 189 → a'.defers = [] → (∀ s : Nat, s < 9 → a'.eval (.tmp s) = a.eval (.tmp s)) → MarkAt kcSlots bb C0 w0 f0 ot wn Wv Nv Mv Dv (j + 1) w' → Q .normal a' w') :
    ((Code.region 16 (opsOf 16 Tryz.f142.body) false).seq (((Code.region 17 (opsOf 17 Tryz.f142.body) false).seq (Code.block 2 (Code.loop (((Code.region 18 (opsOf 18 Tryz.f142.body) false).seq (Code.cond (.tmp 136) .skip (.exit 2))).seq ((Code.block 3 (Code.region 20 (opsOf 20 Tryz.f142.body) false)).seq (Code.region 19 (opsOf 19 Tryz.f142.body) false)))))).seq ((Code.region 21 (opsOf 21 Tryz.f142.body) false).seq ((Code.region 22 (opsOf 22 Tryz.f142.body) true).seq ((Code.region 23 (opsOf 23 Tryz.f142.body) false).seq (Code.region 24 (opsOf 24 Tryz.f142.body) false)))))).wp Tryz.prog Q a w := by
  obtain ⟨hjl, hqe⟩ := List.getElem?_eq_some_iff.1 hq
  have hdrop : wn.drop j = q :: wn.drop (j + 1) := by rw [← hqe]; exact List.drop_eq_getElem_cons hjl
  rw [hdrop] at hR
  obtain ⟨p1, p2, p3, p4, p5, p6, p7⟩ := hR.pW q (by simp)
  obtain ⟨gN, cN, cuN, eN, -, -⟩ := Row.form hN.1 (by simp; omega)
  have cN0 : w.cell? ⟨gN, j, none⟩ = some q.c := by
    have h1 := hN.1
    rw [eN] at h1
    have := World.ownsRow.cellAt (by simpa using h1) j (by simp; omega)
    rw [this]
    simp [hq]
  have hS1a : Stp (fun _ => False) bb C w C w1 := Stp.of ht1 (by simp)
  have hF1a : Fit C w1 bb := hF.of ht1
  have hB1a : BK w1 bb f := hB.keep ht1 (by simp)
  refine wp_seq ?_
  refine markSlots_r16 hs x0 x7 x6 (x3.trans eN) (by simp; omega) cN0 (Row.slice p2) hB hB1a ((hf 0 (by omega)).trans h0) ((hf 1 (by omega)).trans h1) HC ?_
  intro a1 s1 d1 k1
  have hS1 : Stp (fun _ => False) bb C w C (w1.setCell ⟨bb, 1, none⟩ (.bool false)) := hS1a.trans (Stp.of (l := [bb]) ((Turned.refl [bb] w1).set (.inl (by simp)) _ _) (by intro x hx; exact .inl (by simpa using hx)))
  have hF1 : Fit C (w1.setCell ⟨bb, 1, none⟩ (.bool false)) bb := hF1a.of ((Turned.refl [bb] w1).set (.inl (by simp)) 1 (.bool false))
  have hB1 := hB1a.put (i := 1) (by omega) (.bool false)
  have hO1 := hO.step (f' := upd f 1 (.bool false)) hF hS1 (fun _ => .inl (fun h => h)) (fun i _ => upd_other _ _ (by show 31 + i ≠ 1; omega))
  have hR1 := hR.step hF hS1 (fun h => h) (fun _ h => h)
  have hN1 := hN.step hF hS1 (by simp) (fun h => h)
  have hD1 := hD.step hF hS1 (by simp) (fun h => h)
  have hW1 := hW.step hF hS1 (by simp) (fun h => h)
  have hM1 := hM.step hF hS1 (by simp) (fun h => h)
  have p11 := hS1.row hF p1 p4 (by simp) (fun h => h)
  have hf1 : ∀ i, i < 31 ∨ 39 ≤ i → upd f 1 (.bool false) i = f0 i := fun i hi => by
    by_cases e : i = 1
    · subst e
      rw [upd_same]
      exact h1.symm
    · rw [upd_other _ _ e]
      exact hf i hi
  generalize hw2 : w1.setCell ⟨bb, 1, none⟩ (.bool false) = w2 at *
  generalize upd f 1 (.bool false) = f2 at *
  refine wp_seq ?_
  refine markSlots_inner (s1.trans hs) (d1.trans hd) ((k1 7 (by omega)).trans x7) ((k1 8 (by omega)).trans x8) p6 p3 p11 ?_
  intro a3 w3 zs3 s3 d3 k3 hl3 ht3
  have hS3 : Stp (fun x => x = (2, .lst q.id)) bb C w2 C w3 := Stp.of ht3 (fun x hx => .inr (.inr ⟨_, p4 x (by simpa using hx), rfl⟩))
  have hF3 : Fit C w3 bb := hF1.of ht3
  have hB3 : BK w3 bb f2 := hB1.keep ht3 (by
    intro hx
    have := p4 bb (by simpa using hx)
    rw [hF.bk] at this
    injection this with this
    injection this with _ this
    cases this)
  have hO3 := hO1.step (f' := f2) hF1 hS3 (fun tg => by cases tg <;> simp) (fun _ _ => rfl)
  have hR3 := hR1.marked hF1 hS3
  have hN3 := hN1.step hF1 hS3 (by simp) (by simp)
  have hD3 := hD1.step hF1 hS3 (by simp) (by simp)
  have hW3 := hW1.step hF1 hS3 (by simp) (by simp)
  have hM3 := hM1.step hF1 hS3 (by simp) (by simp)
  have kk : ∀ s : Nat, s < 9 → a3.eval (.tmp s) = a.eval (.tmp s) := fun s h => (k3 s h).trans (k1 s (by omega))
  have ss : a3.tmps.size = 189 := s3.trans (s1.trans hs)
  have dd : a3.defers = [] := d3.trans (d1.trans hd)
  refine wp_seq ?_
  refine markSlots_r21 ss ((kk 0 (by omega)).trans x0) ((kk 7 (by omega)).trans x7) (Row.slice hl3) hF3 hB3 hO3 (by simp; omega) ?_
  intro a4 w4 C4 v4 s4 d4 k4 hF4 hS4 hB4 hO4
  have hR4 := hR3.step hF3 hS4 (by simp) (by simp)
  have hN4 := hN3.step hF3 hS4 (by simp) (by simp)
  have hD4 := hD3.step hF3 hS4 (by simp) (by simp)
  have hW4 := hW3.step hF3 hS4 (by simp) (by simp)
  have hM4 := hM3.step hF3 hS4 (by simp) (by simp)
  have hl4 := hS4.row hF3 hl3 p4 (by simp) (by simp)
  have p44 := hS4.has hF3 p4
  refine wp_seq ?_
  refine markSlots_r22 (s4.trans ss) ((k4 0 (by omega)).trans ((kk 0 (by omega)).trans x0)) ((k4 7 (by omega)).trans ((kk 7 (by omega)).trans x7)) hl4 (by omega) hF4 hB4 hO4 (by simp; omega) ?_
  intro a5 w5 C5 v5 nt s5 d5 k5 hF5 hS5 hB5 hO5 hnt5 hnk5
  have hR5 := hR4.step hF4 hS5 (by simp) (by simp)
  have hN5 := hN4.step hF4 hS5 (by simp) (by simp)
  have hD5 := hD4.step hF4 hS5 (by simp) (by simp)
  have hW5 := hW4.step hF4 hS5 (by simp) (by simp)
  have hM5 := hM4.step hF4 hS5 (by simp) (by simp)
  have hl5 := hS5.row hF4 hl4 p44 (by simp) (by simp)
  have p45 := hS5.has hF4 p44
  have k50 : ∀ s : Nat, s < 9 → a5.eval (.tmp s) = a.eval (.tmp s) := fun s h => (k5 s (by omega)).trans ((k4 s (by omega)).trans (kk s h))
  refine wp_seq ?_
  refine markSlots_r23 (s5.trans (s4.trans ss)) ((k50 0 (by omega)).trans x0) ((k50 7 (by omega)).trans x7) (Row.slice hl5) hF5 hB5 hO5 (by simp; omega) ?_
  intro a6 w6 C6 v6 s6 d6 k6 hF6 hS6 hB6 hO6
  have hR6 := hR5.step hF5 hS6 (by simp) (by simp)
  have hN6 := hN5.step hF5 hS6 (by simp) (by simp)
  have hD6 := hD5.step hF5 hS6 (by simp) (by simp)
  have hW6 := hW5.step hF5 hS6 (by simp) (by simp)
  have hM6 := hM5.step hF5 hS6 (by simp) (by simp)
  have hl6 := hS6.row hF5 hl5 p45 (by simp) (by simp)
  have p46 := hS6.has hF5 p45
  have hnt6 := hS6.row hF5 hnt5 hnk5 (by simp) (by simp)
  have hnk6 := hS6.has hF5 hnk5
  refine wp_fall ?_
  refine markSlots_r24 (s6.trans (s5.trans (s4.trans ss))) ((k6 0 (by omega)).trans ((k50 0 (by omega)).trans x0)) ((k6 8 (by omega)).trans ((k50 8 (by omega)).trans x8)) hF6 hB6 hO6 (by simp; omega) ?_
  intro a7 w7 C7 v7 s7 d7 k7 hF7 hS7 hB7 hO7
  have hR7 := hR6.step hF6 hS7 (by simp) (by simp)
  have hN7 := hN6.step hF6 hS7 (by simp) (by simp)
  have hD7 := hD6.step hF6 hS7 (by simp) (by simp)
  have hW7 := hW6.step hF6 hS7 (by simp) (by simp)
  have hM7 := hM6.step hF6 hS7 (by simp) (by simp)
  have hl7 := hS7.row hF6 hl6 p46 (by simp) (by simp)
  have p47 := hS7.has hF6 p46
  have hnt7 := hS7.row hF6 hnt6 hnk6 (by simp) (by simp)
  have hnk7 := hS7.has hF6 hnk6
  refine hEnd a7 w7 (s7.trans (s6.trans (s5.trans (s4.trans ss)))) (d7.trans (d6.trans (d5.trans (d4.trans dd)))) (fun s h => (k7 s (by omega)).trans ((k6 s (by omega)).trans (k50 s h))) ?_
  have fT : ∀ {t : Tg} (x : Nat × Tg), x = (2, t) → x.1 = 2 := fun x h => by rw [h]
  have hRR := KRows.moved (fun x hx => fun e => (hR.pO x hx).2.2.2.2.2 q (by simp) e.symm) hR.ids hR7 hl7 hnt7 p3 p47 hnk7 p6
  refine ⟨C7, _, ot' ++ [⟨q.l, nt, q.n, zs3, q.id⟩], kept, fr ++ [⟨q.l, q.n, zs3, q.mark, q.id⟩], hF7, hB7, by simpa using hO7, by simpa using hRR, hW7, hN7, hM7, hD7, (((((hT.trans (KFr.of hS1 (fun _ h => h.elim))).trans (KFr.of hS3 fT)).trans (KFr.of hS4 fT)).trans (KFr.of hS5 fT)).trans (KFr.of hS6 fT)).trans (KFr.of hS7 fT), ?_, by simp; omega, by simp; omega⟩
  intro i hi
  have hi' : i < 31 ∨ 39 ≤ i := hi
  rw [upd_other _ _ (by omega), upd_other _ _ (by omega), upd_other _ _ (by omega), upd_other _ _ (by omega)]
  exact hf1 i hi'
end Go.Proofs.YtjbhnpofdafmbaaGreatDoor

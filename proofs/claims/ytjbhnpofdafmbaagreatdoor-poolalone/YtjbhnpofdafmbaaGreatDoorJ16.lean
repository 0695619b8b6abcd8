/- The statements of the book that lay one more on its own slices (kind Slots). -/
import Derived.Test.YtjbhnpofdafmbaaGreatDoorJ15
import Derived.Test.YtjbhnpofdafmbaaGreatDoorJ13
namespace Go.Proofs.YtjbhnpofdafmbaaGreatDoor
open Go.RowKit
theorem idx_lists_Slots {w : World} {g m rc k : Nat} (hlt : (k : Int) < (m : Int)) : (Instr.indexAt 32 (.slice (some ⟨g, 0, none⟩) m rc) (vi (k : Nat))).run Tryz.prog w = .ok (pv g k) w := by
  unfold pv
  go_simp
theorem Slots_ldi {w : World} {bb i : Nat} {y : Value} (hy : ∃ a n c, y = .slice a n c) (h : w.cell? ⟨bb, i, none⟩ = some y) : (Instr.loadAt 58 (pv bb i)).run Tryz.prog w = .ok y w := by
  obtain ⟨a, n, c, rfl⟩ := hy
  unfold pv
  go_simp
set_option maxRecDepth 100000 in
set_option maxHeartbeats 1600000 in
theorem markSlots_r12 {K : Act → World → Prop} {Q : Exit → Act → World → Prop} {a : Act} {w : World} {bb : Nat} {C : Own} {f : Nat → Value} {xo xt xw xn xf xm xd xr : List Value} {y : Value} (hs : a.tmps.size = 189) (x0 : a.eval (.tmp 0) = pv bb 0) (xy : a.eval (.tmp 7) = y) (hy : ∃ sa sn sc, y = .slice sa sn sc) (hF : Fit C w bb) (hB : BK w bb f) (hO : KOut C w kcSlots f xo xt xw xn xf xm xd xr) (hlen : xw.length ≤ 1000000)
    (hK : ∀ a' w' C' v, a'.tmps.size = a.tmps.size → a'.defers = a.defers → (∀ s : Nat, s < 10 → a'.eval (.tmp s) = a.eval (.tmp s)) → Fit C' w' bb → Stp (fun x => x = (2, .tW)) bb C w C' w' → BK w' bb (upd f 33 v) → KOut C' w' kcSlots (upd f 33 v) xo xt (xw ++ [y]) xn xf xm xd xr → K a' w') :
    (Code.region 12 (opsOf 12 Tryz.f142.body) false).wp Tryz.prog (Exit.then K Q) a w := by
  have eR : ∃ a n c, f 33 = .slice a n c := Row.slice hO.rW.1
  have q_0 := hB.cell (i := 33) (by omega)
  obtain ⟨v, wo, hr, hrow, honto⟩ := run_onto1 (P := Tryz.prog) (w := (w.alloc (.cells #[y] 58))) 58 32 32 (.slice none 0 0) 24 Slots_lund Slots_linfo rfl (by first | decide | nofun) _ _ (hO.rW.1.alloc _) w.heap.size y (blk_new _ _) (slice_one hy) hlen
  have hvs := Row.slice hrow
  have hBt : BK (w.alloc (.cells #[y] 58)) bb f := hB.keep ((Turned.refl [] _).alloc _) (by simp)
  have hBo : BK wo bb f := onto_bk hF hBt hO.rW.2 (by simp) honto
  have q_t := hBt.cell (i := 33) (by omega)
  have q_o := hBo.cell (i := 33) (by omega)
  have z_o := hBo.froz 33
  obtain ⟨C1, hF1, hS1, hB1, hO1⟩ := hO.push2 hF hB (by first | decide | nofun) ((Turned.refl [] _).alloc _) honto hrow
  have hT1 : Stp (fun x => x = (2, Tg.tW)) bb C w C1 (wo.setCell ⟨bb, 33, none⟩ v) := hS1
  refine wp_region_line [some 64, some 65, some 66, some 67, some 68, some 69, some 70, some 71, some 72, some 73, none] (fun kk => match kk with
      | 0 => pv bb 0
      | 1 => pv bb 0
      | 2 => pv bb 0
      | 3 => pv bb 33
      | 4 => f 33
      | 5 => y
      | 6 => Value.slice (some ⟨w.heap.size, 0, none⟩) 1 1
      | 7 => v
      | 8 => pv bb 0
      | 9 => pv bb 33
      | 10 => undef
      | _ => undef) (by rw [hs]; kernel_rfl) [6, 7, 10] (fun jj => match jj with
      | 0 => w
      | 1 => (w.alloc (.cells #[y] 58))
      | 2 => wo
      | _ => wo.setCell ⟨bb, 33, none⟩ v) rfl (by first | decide | nofun) (by decide +kernel) ?_ ?_ ?_
  · intro kk gg bq h
    exact (no_guard (by kernel_rfl) h).elim
  · intro kk hk _ o ac wa wb K ho hd _ hoff hv hL hK
    rcases (by simp at hk; omega : kk = 0 ∨ kk = 1 ∨ kk = 2 ∨ kk = 3 ∨ kk = 4 ∨ kk = 5 ∨ kk = 6 ∨ kk = 7 ∨ kk = 8 ∨ kk = 9 ∨ kk = 10) with rfl | rfl | rfl | rfl | rfl | rfl | rfl | rfl | rfl | rfl | rfl
    · obtain ⟨rfl, jw, hjw, rfl, hjR⟩ := hL.off (by first | decide | nofun)
      exact l_val hd ((x_move (op_is rfl ho)).trans (by rw [(hoff 0 (by first | decide | nofun)).trans x0]; rfl)) hK
    · obtain ⟨rfl, jw, hjw, rfl, hjR⟩ := hL.off (by first | decide | nofun)
      exact l_val hd ((x_move (op_is rfl ho)).trans (by rw [(hoff 0 (by first | decide | nofun)).trans x0]; rfl)) hK
    · obtain ⟨rfl, jw, hjw, rfl, hjR⟩ := hL.off (by first | decide | nofun)
      exact l_val hd (x_nil (op_is rfl ho) (hv 1 65 rfl (by kernel_rfl))) hK
    · obtain ⟨rfl, jw, hjw, rfl, hjR⟩ := hL.off (by first | decide | nofun)
      exact l_val hd (x_field (op_is rfl ho) (by rw [hv 2 66 rfl (by kernel_rfl)]; unfold pv; go_simp)) hK
    · obtain ⟨rfl, jw, hjw, rfl, hjR⟩ := hL.off (by first | decide | nofun)
      have hj := hjR 2 10 rfl (by first | decide | nofun)
      rcases (by omega : jw = 0 ∨ jw = 1 ∨ jw = 2) with rfl | rfl | rfl
      · exact l_val hd (x_load (op_is rfl ho) (by rw [hv 3 67 rfl (by kernel_rfl)]; exact Slots_ldo eR q_0)) hK
      · exact l_val hd (x_load (op_is rfl ho) (by rw [hv 3 67 rfl (by kernel_rfl)]; exact Slots_ldo eR q_t)) hK
      · exact l_val hd (x_load (op_is rfl ho) (by rw [hv 3 67 rfl (by kernel_rfl)]; exact Slots_ldo eR q_o)) hK
    · obtain ⟨rfl, jw, hjw, rfl, hjR⟩ := hL.off (by first | decide | nofun)
      exact l_val hd ((x_move (op_is rfl ho)).trans (by rw [(hoff 7 (by first | decide | nofun)).trans xy]; rfl)) hK
    · obtain ⟨rfl, rfl⟩ := hL.at_ (by first | decide | nofun) (j := 0) rfl
      exact l_val hd (x_bslice (op_is rfl ho) (by simp only [List.map_toArray, List.map_cons, List.map_nil, hv 5 69 rfl (by kernel_rfl)]) (Slots_bs1o _ hy)) hK
    · obtain ⟨rfl, rfl⟩ := hL.at_ (by first | decide | nofun) (j := 1) rfl
      exact l_val hd (x_append (op_is rfl ho) (ty_is rfl ho) (hv 4 68 rfl (by kernel_rfl)) (hv 6 70 rfl (by kernel_rfl)) hr) hK
    · obtain ⟨rfl, jw, hjw, rfl, hjR⟩ := hL.off (by first | decide | nofun)
      exact l_val hd (x_nil (op_is rfl ho) (hv 0 64 rfl (by kernel_rfl))) hK
    · obtain ⟨rfl, jw, hjw, rfl, hjR⟩ := hL.off (by first | decide | nofun)
      exact l_val hd (x_field (op_is rfl ho) (by rw [hv 8 72 rfl (by kernel_rfl)]; unfold pv; go_simp)) hK
    · obtain ⟨rfl, rfl⟩ := hL.at_ (by first | decide | nofun) (j := 2) rfl
      exact l_skip hd (x_store (op_is rfl ho) (by rw [hv 9 73 rfl (by kernel_rfl), hv 7 71 rfl (by kernel_rfl)]; exact Slots_sto hvs q_o z_o)) hK
  · intro a1 g1 g2 g3 g4
    exact hK a1 _ C1 v g1 g2 (fun s hs' => ev_same (g3 s (not_low hs' (by first | decide | nofun)))) hF1 hT1 hB1 hO1
set_option maxRecDepth 100000 in
set_option maxHeartbeats 1600000 in
theorem markSlots_r13 {K : Act → World → Prop} {Q : Exit → Act → World → Prop} {a : Act} {w : World} {bb : Nat} {C : Own} {f : Nat → Value} {xo xt xw xn xf xm xd xr : List Value} {y : Value} {m : Nat} {k : Nat} {g : Nat} {rc : Nat} (hs : a.tmps.size = 189) (x0 : a.eval (.tmp 0) = pv bb 0) (xr_ : a.eval (.tmp 3) = Value.slice (some ⟨g, 0, none⟩) m rc) (xk : a.eval (.tmp 6) = vi (k : Nat)) (hkm : k < m) (hcell : w.cell? ⟨g, k, none⟩ = some y) (hy : ∃ sa sn sc, y = .slice sa sn sc) (hF : Fit C w bb) (hB : BK w bb f) (hO : KOut C w kcSlots f xo xt xw xn xf xm xd xr) (hlen : xn.length ≤ 1000000)
    (hK : ∀ a' w' C' v, a'.tmps.size = a.tmps.size → a'.defers = a.defers → (∀ s : Nat, s < 10 → a'.eval (.tmp s) = a.eval (.tmp s)) → Fit C' w' bb → Stp (fun x => x = (2, .tN)) bb C w C' w' → BK w' bb (upd f 34 v) → KOut C' w' kcSlots (upd f 34 v) xo xt xw (xn ++ [y]) xf xm xd xr → K a' w') :
    (Code.region 13 (opsOf 13 Tryz.f142.body) true).wp Tryz.prog (Exit.then K Q) a w := by
  have hSd : Stp (fun _ => False) bb C w C w.drew := Stp.of (l := []) (Turned.refl [] w).drew (by simp)
  have hFd : Fit C w.drew bb := hF.of (Turned.refl [] w).drew
  have hBd : BK w.drew bb f := hB.keep (Turned.refl [] w).drew (by simp)
  have hOd := hO.step hF hSd (fun _ => .inl (fun h => h)) (fun _ _ => rfl)
  have eR : ∃ a n c, f 34 = .slice a n c := Row.slice hOd.rN.1
  have q_0 := hBd.cell (i := 34) (by omega)
  obtain ⟨v, wo, hr, hrow, honto⟩ := run_onto1 (P := Tryz.prog) (w := (w.drew.alloc (.cells #[y] 58))) 58 32 32 (.slice none 0 0) 24 Slots_lund Slots_linfo rfl (by first | decide | nofun) _ _ (hOd.rN.1.alloc _) w.drew.heap.size y (blk_new _ _) (slice_one hy) hlen
  have hvs := Row.slice hrow
  have hBt : BK (w.drew.alloc (.cells #[y] 58)) bb f := hBd.keep ((Turned.refl [] _).alloc _) (by simp)
  have hBo : BK wo bb f := onto_bk hFd hBt hOd.rN.2 (by simp) honto
  have q_t := hBt.cell (i := 34) (by omega)
  have q_o := hBo.cell (i := 34) (by omega)
  have z_o := hBo.froz 34
  obtain ⟨C1, hF1, hS1, hB1, hO1⟩ := hOd.push3 hFd hBd (by first | decide | nofun) ((Turned.refl [] _).alloc _) honto hrow
  have hT1 : Stp (fun x => x = (2, Tg.tN)) bb C w C1 (wo.setCell ⟨bb, 34, none⟩ v) := (hSd.mono (fun _ h => h.elim)).trans (hS1)
  have hlt : (k : Int) < (m : Int) := by omega
  have qk : (w.drew).cell? ⟨g, k, none⟩ = some y := hcell
  refine wp_region_chain (by kernel_rfl) [some 74, some 75, some 76, some 77, some 78, some 79, some 80, some 81, some 82, some 83, some 84, some 85, some 86, none] (fun kk => match kk with
      | 0 => pv bb 0
      | 1 => pv bb 0
      | 2 => pv bb 0
      | 3 => pv bb 34
      | 4 => f 34
      | 5 => Value.slice (some ⟨g, 0, none⟩) m rc
      | 6 => vi (k : Nat)
      | 7 => pv g k
      | 8 => y
      | 9 => Value.slice (some ⟨w.drew.heap.size, 0, none⟩) 1 1
      | 10 => v
      | 11 => pv bb 0
      | 12 => pv bb 34
      | 13 => undef
      | _ => undef) (by rw [hs]; kernel_rfl) [9, 10, 13] (fun jj => match jj with
      | 0 => w.drew
      | 1 => (w.drew.alloc (.cells #[y] 58))
      | 2 => wo
      | _ => wo.setCell ⟨bb, 34, none⟩ v) rfl (by first | decide | nofun) (by decide +kernel) ?_ ?_ ?_
  · intro kk gg bq h
    exact (no_guard (by kernel_rfl) h).elim
  · intro kk hk _ o ac wa wb K ho hd _ hoff hv hL hK
    rcases (by simp at hk; omega : kk = 0 ∨ kk = 1 ∨ kk = 2 ∨ kk = 3 ∨ kk = 4 ∨ kk = 5 ∨ kk = 6 ∨ kk = 7 ∨ kk = 8 ∨ kk = 9 ∨ kk = 10 ∨ kk = 11 ∨ kk = 12 ∨ kk = 13) with rfl | rfl | rfl | rfl | rfl | rfl | rfl | rfl | rfl | rfl | rfl | rfl | rfl | rfl
    · obtain ⟨rfl, jw, hjw, rfl, hjR⟩ := hL.off (by first | decide | nofun)
      exact l_val hd ((x_move (op_is rfl ho)).trans (by rw [(hoff 0 (by first | decide | nofun)).trans x0]; rfl)) hK
    · obtain ⟨rfl, jw, hjw, rfl, hjR⟩ := hL.off (by first | decide | nofun)
      exact l_val hd ((x_move (op_is rfl ho)).trans (by rw [(hoff 0 (by first | decide | nofun)).trans x0]; rfl)) hK
    · obtain ⟨rfl, jw, hjw, rfl, hjR⟩ := hL.off (by first | decide | nofun)
      exact l_val hd (x_nil (op_is rfl ho) (hv 1 75 rfl (by kernel_rfl))) hK
    · obtain ⟨rfl, jw, hjw, rfl, hjR⟩ := hL.off (by first | decide | nofun)
      exact l_val hd (x_field (op_is rfl ho) (by rw [hv 2 76 rfl (by kernel_rfl)]; unfold pv; go_simp)) hK
    · obtain ⟨rfl, jw, hjw, rfl, hjR⟩ := hL.off (by first | decide | nofun)
      have hj := hjR 2 13 rfl (by decide +kernel)
      rcases (by omega : jw = 0 ∨ jw = 1 ∨ jw = 2) with rfl | rfl | rfl
      · exact l_val hd (x_load (op_is rfl ho) (by rw [hv 3 77 rfl (by kernel_rfl)]; exact Slots_ldo eR q_0)) hK
      · exact l_val hd (x_load (op_is rfl ho) (by rw [hv 3 77 rfl (by kernel_rfl)]; exact Slots_ldo eR q_t)) hK
      · exact l_val hd (x_load (op_is rfl ho) (by rw [hv 3 77 rfl (by kernel_rfl)]; exact Slots_ldo eR q_o)) hK
    · obtain ⟨rfl, jw, hjw, rfl, hjR⟩ := hL.off (by first | decide | nofun)
      exact l_val hd ((x_move (op_is rfl ho)).trans (by rw [(hoff 3 (by first | decide | nofun)).trans xr_]; rfl)) hK
    · obtain ⟨rfl, jw, hjw, rfl, hjR⟩ := hL.off (by first | decide | nofun)
      exact l_val hd ((x_move (op_is rfl ho)).trans (by rw [(hoff 6 (by first | decide | nofun)).trans xk]; rfl)) hK
    · obtain ⟨rfl, jw, hjw, rfl, hjR⟩ := hL.off (by first | decide | nofun)
      exact l_val hd (x_index (op_is rfl ho) (by rw [hv 5 79 rfl (by kernel_rfl), hv 6 80 rfl (by kernel_rfl)]; exact idx_lists_Slots hlt)) hK
    · obtain ⟨rfl, jw, hjw, rfl, hjR⟩ := hL.off (by first | decide | nofun)
      have hj := hjR 0 9 rfl (by decide +kernel)
      obtain rfl : jw = 0 := by omega
      exact l_val hd (x_load (op_is rfl ho) (by rw [hv 7 81 rfl (by kernel_rfl)]; exact Slots_ldi hy qk)) hK
    · obtain ⟨rfl, rfl⟩ := hL.at_ (by first | decide | nofun) (j := 0) rfl
      exact l_val hd (x_bslice (op_is rfl ho) (by simp only [List.map_toArray, List.map_cons, List.map_nil, hv 8 82 rfl (by kernel_rfl)]) (Slots_bs1o _ hy)) hK
    · obtain ⟨rfl, rfl⟩ := hL.at_ (by first | decide | nofun) (j := 1) rfl
      exact l_val hd (x_append (op_is rfl ho) (ty_is rfl ho) (hv 4 78 rfl (by kernel_rfl)) (hv 9 83 rfl (by kernel_rfl)) hr) hK
    · obtain ⟨rfl, jw, hjw, rfl, hjR⟩ := hL.off (by first | decide | nofun)
      exact l_val hd (x_nil (op_is rfl ho) (hv 0 74 rfl (by kernel_rfl))) hK
    · obtain ⟨rfl, jw, hjw, rfl, hjR⟩ := hL.off (by first | decide | nofun)
      exact l_val hd (x_field (op_is rfl ho) (by rw [hv 11 85 rfl (by kernel_rfl)]; unfold pv; go_simp)) hK
    · obtain ⟨rfl, rfl⟩ := hL.at_ (by first | decide | nofun) (j := 2) rfl
      exact l_skip hd (x_store (op_is rfl ho) (by rw [hv 12 86 rfl (by kernel_rfl), hv 10 84 rfl (by kernel_rfl)]; exact Slots_sto hvs q_o z_o)) hK
  · intro a1 g1 g2 g3 g4
    exact hK a1 _ C1 v g1 g2 (fun s hs' => ev_same (g3 s (not_low hs' (by first | decide | nofun)))) hF1 hT1 hB1 hO1
set_option maxRecDepth 100000 in
set_option maxHeartbeats 1600000 in
theorem markSlots_r14 {K : Act → World → Prop} {Q : Exit → Act → World → Prop} {a : Act} {w : World} {bb : Nat} {C : Own} {f : Nat → Value} {xo xt xw xn xf xm xd xr : List Value} {z : Int} (hs : a.tmps.size = 189) (x0 : a.eval (.tmp 0) = pv bb 0) (xy : a.eval (.tmp 8) = vi z) (hF : Fit C w bb) (hB : BK w bb f) (hO : KOut C w kcSlots f xo xt xw xn xf xm xd xr) (hlen : xm.length ≤ 1000000)
    (hK : ∀ a' w' C' v, a'.tmps.size = a.tmps.size → a'.defers = a.defers → (∀ s : Nat, s < 10 → a'.eval (.tmp s) = a.eval (.tmp s)) → Fit C' w' bb → Stp (fun x => x = (2, .tM)) bb C w C' w' → BK w' bb (upd f 36 v) → KOut C' w' kcSlots (upd f 36 v) xo xt xw xn xf (xm ++ [(vi z)]) xd xr → K a' w') :
    (Code.region 14 (opsOf 14 Tryz.f142.body) false).wp Tryz.prog (Exit.then K Q) a w := by
  have eR : ∃ a n c, f 36 = .slice a n c := Row.slice hO.rM.1
  have q_0 := hB.cell (i := 36) (by omega)
  obtain ⟨v, wo, hr, hrow, honto⟩ := run_onto1 (P := Tryz.prog) (w := (w.alloc (.cells #[(vi z)] 3))) 3 29 29 (.int .i64 0) 8 und_ints info_int rfl (by first | decide | nofun) _ _ (hO.rM.1.alloc _) w.heap.size (vi z) (blk_new _ _) rfl hlen
  have hvs := Row.slice hrow
  have hBt : BK (w.alloc (.cells #[(vi z)] 3)) bb f := hB.keep ((Turned.refl [] _).alloc _) (by simp)
  have hBo : BK wo bb f := onto_bk hF hBt hO.rM.2 (by simp) honto
  have q_t := hBt.cell (i := 36) (by omega)
  have q_o := hBo.cell (i := 36) (by omega)
  have z_o := hBo.froz 36
  obtain ⟨C1, hF1, hS1, hB1, hO1⟩ := hO.push5 hF hB (by first | decide | nofun) ((Turned.refl [] _).alloc _) honto hrow
  have hT1 : Stp (fun x => x = (2, Tg.tM)) bb C w C1 (wo.setCell ⟨bb, 36, none⟩ v) := hS1
  refine wp_region_line [some 87, some 88, some 89, some 90, some 91, some 92, some 93, some 94, some 95, some 96, none] (fun kk => match kk with
      | 0 => pv bb 0
      | 1 => pv bb 0
      | 2 => pv bb 0
      | 3 => pv bb 36
      | 4 => f 36
      | 5 => vi z
      | 6 => Value.slice (some ⟨w.heap.size, 0, none⟩) 1 1
      | 7 => v
      | 8 => pv bb 0
      | 9 => pv bb 36
      | 10 => undef
      | _ => undef) (by rw [hs]; kernel_rfl) [6, 7, 10] (fun jj => match jj with
      | 0 => w
      | 1 => (w.alloc (.cells #[(vi z)] 3))
      | 2 => wo
      | _ => wo.setCell ⟨bb, 36, none⟩ v) rfl (by first | decide | nofun) (by decide +kernel) ?_ ?_ ?_
  · intro kk gg bq h
    exact (no_guard (by kernel_rfl) h).elim
  · intro kk hk _ o ac wa wb K ho hd _ hoff hv hL hK
    rcases (by simp at hk; omega : kk = 0 ∨ kk = 1 ∨ kk = 2 ∨ kk = 3 ∨ kk = 4 ∨ kk = 5 ∨ kk = 6 ∨ kk = 7 ∨ kk = 8 ∨ kk = 9 ∨ kk = 10) with rfl | rfl | rfl | rfl | rfl | rfl | rfl | rfl | rfl | rfl | rfl
    · obtain ⟨rfl, jw, hjw, rfl, hjR⟩ := hL.off (by first | decide | nofun)
      exact l_val hd ((x_move (op_is rfl ho)).trans (by rw [(hoff 0 (by first | decide | nofun)).trans x0]; rfl)) hK
    · obtain ⟨rfl, jw, hjw, rfl, hjR⟩ := hL.off (by first | decide | nofun)
      exact l_val hd ((x_move (op_is rfl ho)).trans (by rw [(hoff 0 (by first | decide | nofun)).trans x0]; rfl)) hK
    · obtain ⟨rfl, jw, hjw, rfl, hjR⟩ := hL.off (by first | decide | nofun)
      exact l_val hd (x_nil (op_is rfl ho) (hv 1 88 rfl (by kernel_rfl))) hK
    · obtain ⟨rfl, jw, hjw, rfl, hjR⟩ := hL.off (by first | decide | nofun)
      exact l_val hd (x_field (op_is rfl ho) (by rw [hv 2 89 rfl (by kernel_rfl)]; unfold pv; go_simp)) hK
    · obtain ⟨rfl, jw, hjw, rfl, hjR⟩ := hL.off (by first | decide | nofun)
      have hj := hjR 2 10 rfl (by first | decide | nofun)
      rcases (by omega : jw = 0 ∨ jw = 1 ∨ jw = 2) with rfl | rfl | rfl
      · exact l_val hd (x_load (op_is rfl ho) (by rw [hv 3 90 rfl (by kernel_rfl)]; exact ld_intso eR q_0)) hK
      · exact l_val hd (x_load (op_is rfl ho) (by rw [hv 3 90 rfl (by kernel_rfl)]; exact ld_intso eR q_t)) hK
      · exact l_val hd (x_load (op_is rfl ho) (by rw [hv 3 90 rfl (by kernel_rfl)]; exact ld_intso eR q_o)) hK
    · obtain ⟨rfl, jw, hjw, rfl, hjR⟩ := hL.off (by first | decide | nofun)
      exact l_val hd ((x_move (op_is rfl ho)).trans (by rw [(hoff 8 (by first | decide | nofun)).trans xy]; rfl)) hK
    · obtain ⟨rfl, rfl⟩ := hL.at_ (by first | decide | nofun) (j := 0) rfl
      exact l_val hd (x_bslice (op_is rfl ho) (by simp only [List.map_toArray, List.map_cons, List.map_nil, hv 5 92 rfl (by kernel_rfl)]) (bs_int _ _)) hK
    · obtain ⟨rfl, rfl⟩ := hL.at_ (by first | decide | nofun) (j := 1) rfl
      exact l_val hd (x_append (op_is rfl ho) (ty_is rfl ho) (hv 4 91 rfl (by kernel_rfl)) (hv 6 93 rfl (by kernel_rfl)) hr) hK
    · obtain ⟨rfl, jw, hjw, rfl, hjR⟩ := hL.off (by first | decide | nofun)
      exact l_val hd (x_nil (op_is rfl ho) (hv 0 87 rfl (by kernel_rfl))) hK
    · obtain ⟨rfl, jw, hjw, rfl, hjR⟩ := hL.off (by first | decide | nofun)
      exact l_val hd (x_field (op_is rfl ho) (by rw [hv 8 95 rfl (by kernel_rfl)]; unfold pv; go_simp)) hK
    · obtain ⟨rfl, rfl⟩ := hL.at_ (by first | decide | nofun) (j := 2) rfl
      exact l_skip hd (x_store (op_is rfl ho) (by rw [hv 9 96 rfl (by kernel_rfl), hv 7 94 rfl (by kernel_rfl)]; exact st_intso hvs q_o z_o)) hK
  · intro a1 g1 g2 g3 g4
    exact hK a1 _ C1 v g1 g2 (fun s hs' => ev_same (g3 s (not_low hs' (by first | decide | nofun)))) hF1 hT1 hB1 hO1
set_option maxRecDepth 100000 in
set_option maxHeartbeats 1600000 in
theorem markSlots_r15 {K : Act → World → Prop} {Q : Exit → Act → World → Prop} {a : Act} {w : World} {bb : Nat} {C : Own} {f : Nat → Value} {xo xt xw xn xf xm xd xr : List Value} {z : Int} {m : Nat} {k : Nat} {g : Nat} {rc : Nat} (hs : a.tmps.size = 189) (x0 : a.eval (.tmp 0) = pv bb 0) (xr_ : a.eval (.tmp 5) = Value.slice (some ⟨g, 0, none⟩) m rc) (xk : a.eval (.tmp 6) = vi (k : Nat)) (hkm : k < m) (hcell : w.cell? ⟨g, k, none⟩ = some (vi z)) (hF : Fit C w bb) (hB : BK w bb f) (hO : KOut C w kcSlots f xo xt xw xn xf xm xd xr) (hlen : xd.length ≤ 1000000)
    (hK : ∀ a' w' C' v, a'.tmps.size = a.tmps.size → a'.defers = a.defers → (∀ s : Nat, s < 10 → a'.eval (.tmp s) = a.eval (.tmp s)) → Fit C' w' bb → Stp (fun x => x = (2, .tD)) bb C w C' w' → BK w' bb (upd f 37 v) → KOut C' w' kcSlots (upd f 37 v) xo xt xw xn xf xm (xd ++ [(vi z)]) xr → K a' w') :
    (Code.region 15 (opsOf 15 Tryz.f142.body) true).wp Tryz.prog (Exit.then K Q) a w := by
  have hSd : Stp (fun _ => False) bb C w C w.drew := Stp.of (l := []) (Turned.refl [] w).drew (by simp)
  have hFd : Fit C w.drew bb := hF.of (Turned.refl [] w).drew
  have hBd : BK w.drew bb f := hB.keep (Turned.refl [] w).drew (by simp)
  have hOd := hO.step hF hSd (fun _ => .inl (fun h => h)) (fun _ _ => rfl)
  have eR : ∃ a n c, f 37 = .slice a n c := Row.slice hOd.rD.1
  have q_0 := hBd.cell (i := 37) (by omega)
  obtain ⟨v, wo, hr, hrow, honto⟩ := run_onto1 (P := Tryz.prog) (w := (w.drew.alloc (.cells #[(vi z)] 3))) 3 29 29 (.int .i64 0) 8 und_ints info_int rfl (by first | decide | nofun) _ _ (hOd.rD.1.alloc _) w.drew.heap.size (vi z) (blk_new _ _) rfl hlen
  have hvs := Row.slice hrow
  have hBt : BK (w.drew.alloc (.cells #[(vi z)] 3)) bb f := hBd.keep ((Turned.refl [] _).alloc _) (by simp)
  have hBo : BK wo bb f := onto_bk hFd hBt hOd.rD.2 (by simp) honto
  have q_t := hBt.cell (i := 37) (by omega)
  have q_o := hBo.cell (i := 37) (by omega)
  have z_o := hBo.froz 37
  obtain ⟨C1, hF1, hS1, hB1, hO1⟩ := hOd.push6 hFd hBd (by first | decide | nofun) ((Turned.refl [] _).alloc _) honto hrow
  have hT1 : Stp (fun x => x = (2, Tg.tD)) bb C w C1 (wo.setCell ⟨bb, 37, none⟩ v) := (hSd.mono (fun _ h => h.elim)).trans (hS1)
  have hlt : (k : Int) < (m : Int) := by omega
  have qk : (w.drew).cell? ⟨g, k, none⟩ = some (vi z) := hcell
  refine wp_region_chain (by kernel_rfl) [some 97, some 98, some 99, some 100, some 101, some 102, some 103, some 104, some 105, some 106, some 107, some 108, some 109, none] (fun kk => match kk with
      | 0 => pv bb 0
      | 1 => pv bb 0
      | 2 => pv bb 0
      | 3 => pv bb 37
      | 4 => f 37
      | 5 => Value.slice (some ⟨g, 0, none⟩) m rc
      | 6 => vi (k : Nat)
      | 7 => pv g k
      | 8 => (vi z)
      | 9 => Value.slice (some ⟨w.drew.heap.size, 0, none⟩) 1 1
      | 10 => v
      | 11 => pv bb 0
      | 12 => pv bb 37
      | 13 => undef
      | _ => undef) (by rw [hs]; kernel_rfl) [9, 10, 13] (fun jj => match jj with
      | 0 => w.drew
      | 1 => (w.drew.alloc (.cells #[(vi z)] 3))
      | 2 => wo
      | _ => wo.setCell ⟨bb, 37, none⟩ v) rfl (by first | decide | nofun) (by decide +kernel) ?_ ?_ ?_
  · intro kk gg bq h
    exact (no_guard (by kernel_rfl) h).elim
  · intro kk hk _ o ac wa wb K ho hd _ hoff hv hL hK
    rcases (by simp at hk; omega : kk = 0 ∨ kk = 1 ∨ kk = 2 ∨ kk = 3 ∨ kk = 4 ∨ kk = 5 ∨ kk = 6 ∨ kk = 7 ∨ kk = 8 ∨ kk = 9 ∨ kk = 10 ∨ kk = 11 ∨ kk = 12 ∨ kk = 13) with rfl | rfl | rfl | rfl | rfl | rfl | rfl | rfl | rfl | rfl | rfl | rfl | rfl | rfl
    · obtain ⟨rfl, jw, hjw, rfl, hjR⟩ := hL.off (by first | decide | nofun)
      exact l_val hd ((x_move (op_is rfl ho)).trans (by rw [(hoff 0 (by first | decide | nofun)).trans x0]; rfl)) hK
    · obtain ⟨rfl, jw, hjw, rfl, hjR⟩ := hL.off (by first | decide | nofun)
      exact l_val hd ((x_move (op_is rfl ho)).trans (by rw [(hoff 0 (by first | decide | nofun)).trans x0]; rfl)) hK
    · obtain ⟨rfl, jw, hjw, rfl, hjR⟩ := hL.off (by first | decide | nofun)
      exact l_val hd (x_nil (op_is rfl ho) (hv 1 98 rfl (by kernel_rfl))) hK
    · obtain ⟨rfl, jw, hjw, rfl, hjR⟩ := hL.off (by first | decide | nofun)
      exact l_val hd (x_field (op_is rfl ho) (by rw [hv 2 99 rfl (by kernel_rfl)]; unfold pv; go_simp)) hK
    · obtain ⟨rfl, jw, hjw, rfl, hjR⟩ := hL.off (by first | decide | nofun)
      have hj := hjR 2 13 rfl (by decide +kernel)
      rcases (by omega : jw = 0 ∨ jw = 1 ∨ jw = 2) with rfl | rfl | rfl
      · exact l_val hd (x_load (op_is rfl ho) (by rw [hv 3 100 rfl (by kernel_rfl)]; exact ld_intso eR q_0)) hK
      · exact l_val hd (x_load (op_is rfl ho) (by rw [hv 3 100 rfl (by kernel_rfl)]; exact ld_intso eR q_t)) hK
      · exact l_val hd (x_load (op_is rfl ho) (by rw [hv 3 100 rfl (by kernel_rfl)]; exact ld_intso eR q_o)) hK
    · obtain ⟨rfl, jw, hjw, rfl, hjR⟩ := hL.off (by first | decide | nofun)
      exact l_val hd ((x_move (op_is rfl ho)).trans (by rw [(hoff 5 (by first | decide | nofun)).trans xr_]; rfl)) hK
    · obtain ⟨rfl, jw, hjw, rfl, hjR⟩ := hL.off (by first | decide | nofun)
      exact l_val hd ((x_move (op_is rfl ho)).trans (by rw [(hoff 6 (by first | decide | nofun)).trans xk]; rfl)) hK
    · obtain ⟨rfl, jw, hjw, rfl, hjR⟩ := hL.off (by first | decide | nofun)
      exact l_val hd (x_index (op_is rfl ho) (by rw [hv 5 102 rfl (by kernel_rfl), hv 6 103 rfl (by kernel_rfl)]; exact idx_ints hlt)) hK
    · obtain ⟨rfl, jw, hjw, rfl, hjR⟩ := hL.off (by first | decide | nofun)
      have hj := hjR 0 9 rfl (by decide +kernel)
      obtain rfl : jw = 0 := by omega
      exact l_val hd (x_load (op_is rfl ho) (by rw [hv 7 104 rfl (by kernel_rfl)]; exact ld_int qk)) hK
    · obtain ⟨rfl, rfl⟩ := hL.at_ (by first | decide | nofun) (j := 0) rfl
      exact l_val hd (x_bslice (op_is rfl ho) (by simp only [List.map_toArray, List.map_cons, List.map_nil, hv 8 105 rfl (by kernel_rfl)]) (bs_int _ _)) hK
    · obtain ⟨rfl, rfl⟩ := hL.at_ (by first | decide | nofun) (j := 1) rfl
      exact l_val hd (x_append (op_is rfl ho) (ty_is rfl ho) (hv 4 101 rfl (by kernel_rfl)) (hv 9 106 rfl (by kernel_rfl)) hr) hK
    · obtain ⟨rfl, jw, hjw, rfl, hjR⟩ := hL.off (by first | decide | nofun)
      exact l_val hd (x_nil (op_is rfl ho) (hv 0 97 rfl (by kernel_rfl))) hK
    · obtain ⟨rfl, jw, hjw, rfl, hjR⟩ := hL.off (by first | decide | nofun)
      exact l_val hd (x_field (op_is rfl ho) (by rw [hv 11 108 rfl (by kernel_rfl)]; unfold pv; go_simp)) hK
    · obtain ⟨rfl, rfl⟩ := hL.at_ (by first | decide | nofun) (j := 2) rfl
      exact l_skip hd (x_store (op_is rfl ho) (by rw [hv 12 109 rfl (by kernel_rfl), hv 10 107 rfl (by kernel_rfl)]; exact st_intso hvs q_o z_o)) hK
  · intro a1 g1 g2 g3 g4
    exact hK a1 _ C1 v g1 g2 (fun s hs' => ev_same (g3 s (not_low hs' (by first | decide | nofun)))) hF1 hT1 hB1 hO1
set_option maxRecDepth 100000 in
set_option maxHeartbeats 1600000 in
theorem markSlots_r21 {K : Act → World → Prop} {Q : Exit → Act → World → Prop} {a : Act} {w : World} {bb : Nat} {C : Own} {f : Nat → Value} {xo xt xw xn xf xm xd xr : List Value} {y : Value} (hs : a.tmps.size = 189) (x0 : a.eval (.tmp 0) = pv bb 0) (xy : a.eval (.tmp 7) = y) (hy : ∃ sa sn sc, y = .slice sa sn sc) (hF : Fit C w bb) (hB : BK w bb f) (hO : KOut C w kcSlots f xo xt xw xn xf xm xd xr) (hlen : xo.length ≤ 1000000)
    (hK : ∀ a' w' C' v, a'.tmps.size = a.tmps.size → a'.defers = a.defers → (∀ s : Nat, s < 10 → a'.eval (.tmp s) = a.eval (.tmp s)) → Fit C' w' bb → Stp (fun x => x = (2, .tO)) bb C w C' w' → BK w' bb (upd f 31 v) → KOut C' w' kcSlots (upd f 31 v) (xo ++ [y]) xt xw xn xf xm xd xr → K a' w') :
    (Code.region 21 (opsOf 21 Tryz.f142.body) false).wp Tryz.prog (Exit.then K Q) a w := by
  have eR : ∃ a n c, f 31 = .slice a n c := Row.slice hO.rO.1
  have q_0 := hB.cell (i := 31) (by omega)
  obtain ⟨v, wo, hr, hrow, honto⟩ := run_onto1 (P := Tryz.prog) (w := (w.alloc (.cells #[y] 58))) 58 32 32 (.slice none 0 0) 24 Slots_lund Slots_linfo rfl (by first | decide | nofun) _ _ (hO.rO.1.alloc _) w.heap.size y (blk_new _ _) (slice_one hy) hlen
  have hvs := Row.slice hrow
  have hBt : BK (w.alloc (.cells #[y] 58)) bb f := hB.keep ((Turned.refl [] _).alloc _) (by simp)
  have hBo : BK wo bb f := onto_bk hF hBt hO.rO.2 (by simp) honto
  have q_t := hBt.cell (i := 31) (by omega)
  have q_o := hBo.cell (i := 31) (by omega)
  have z_o := hBo.froz 31
  obtain ⟨C1, hF1, hS1, hB1, hO1⟩ := hO.push0 hF hB (by first | decide | nofun) ((Turned.refl [] _).alloc _) honto hrow
  have hT1 : Stp (fun x => x = (2, Tg.tO)) bb C w C1 (wo.setCell ⟨bb, 31, none⟩ v) := hS1
  refine wp_region_line [some 147, some 148, some 149, some 150, some 151, some 152, some 153, some 154, some 155, some 156, none] (fun kk => match kk with
      | 0 => pv bb 0
      | 1 => pv bb 0
      | 2 => pv bb 0
      | 3 => pv bb 31
      | 4 => f 31
      | 5 => y
      | 6 => Value.slice (some ⟨w.heap.size, 0, none⟩) 1 1
      | 7 => v
      | 8 => pv bb 0
      | 9 => pv bb 31
      | 10 => undef
      | _ => undef) (by rw [hs]; kernel_rfl) [6, 7, 10] (fun jj => match jj with
      | 0 => w
      | 1 => (w.alloc (.cells #[y] 58))
      | 2 => wo
      | _ => wo.setCell ⟨bb, 31, none⟩ v) rfl (by first | decide | nofun) (by decide +kernel) ?_ ?_ ?_
  · intro kk gg bq h
    exact (no_guard (by kernel_rfl) h).elim
  · intro kk hk _ o ac wa wb K ho hd _ hoff hv hL hK
    rcases (by simp at hk; omega : kk = 0 ∨ kk = 1 ∨ kk = 2 ∨ kk = 3 ∨ kk = 4 ∨ kk = 5 ∨ kk = 6 ∨ kk = 7 ∨ kk = 8 ∨ kk = 9 ∨ kk = 10) with rfl | rfl | rfl | rfl | rfl | rfl | rfl | rfl | rfl | rfl | rfl
    · obtain ⟨rfl, jw, hjw, rfl, hjR⟩ := hL.off (by first | decide | nofun)
      exact l_val hd ((x_move (op_is rfl ho)).trans (by rw [(hoff 0 (by first | decide | nofun)).trans x0]; rfl)) hK
    · obtain ⟨rfl, jw, hjw, rfl, hjR⟩ := hL.off (by first | decide | nofun)
      exact l_val hd ((x_move (op_is rfl ho)).trans (by rw [(hoff 0 (by first | decide | nofun)).trans x0]; rfl)) hK
    · obtain ⟨rfl, jw, hjw, rfl, hjR⟩ := hL.off (by first | decide | nofun)
      exact l_val hd (x_nil (op_is rfl ho) (hv 1 148 rfl (by kernel_rfl))) hK
    · obtain ⟨rfl, jw, hjw, rfl, hjR⟩ := hL.off (by first | decide | nofun)
      exact l_val hd (x_field (op_is rfl ho) (by rw [hv 2 149 rfl (by kernel_rfl)]; unfold pv; go_simp)) hK
    · obtain ⟨rfl, jw, hjw, rfl, hjR⟩ := hL.off (by first | decide | nofun)
      have hj := hjR 2 10 rfl (by first | decide | nofun)
      rcases (by omega : jw = 0 ∨ jw = 1 ∨ jw = 2) with rfl | rfl | rfl
      · exact l_val hd (x_load (op_is rfl ho) (by rw [hv 3 150 rfl (by kernel_rfl)]; exact Slots_ldo eR q_0)) hK
      · exact l_val hd (x_load (op_is rfl ho) (by rw [hv 3 150 rfl (by kernel_rfl)]; exact Slots_ldo eR q_t)) hK
      · exact l_val hd (x_load (op_is rfl ho) (by rw [hv 3 150 rfl (by kernel_rfl)]; exact Slots_ldo eR q_o)) hK
    · obtain ⟨rfl, jw, hjw, rfl, hjR⟩ := hL.off (by first | decide | nofun)
      exact l_val hd ((x_move (op_is rfl ho)).trans (by rw [(hoff 7 (by first | decide | nofun)).trans xy]; rfl)) hK
    · obtain ⟨rfl, rfl⟩ := hL.at_ (by first | decide | nofun) (j := 0) rfl
      exact l_val hd (x_bslice (op_is rfl ho) (by simp only [List.map_toArray, List.map_cons, List.map_nil, hv 5 152 rfl (by kernel_rfl)]) (Slots_bs1o _ hy)) hK
    · obtain ⟨rfl, rfl⟩ := hL.at_ (by first | decide | nofun) (j := 1) rfl
      exact l_val hd (x_append (op_is rfl ho) (ty_is rfl ho) (hv 4 151 rfl (by kernel_rfl)) (hv 6 153 rfl (by kernel_rfl)) hr) hK
    · obtain ⟨rfl, jw, hjw, rfl, hjR⟩ := hL.off (by first | decide | nofun)
      exact l_val hd (x_nil (op_is rfl ho) (hv 0 147 rfl (by kernel_rfl))) hK
    · obtain ⟨rfl, jw, hjw, rfl, hjR⟩ := hL.off (by first | decide | nofun)
      exact l_val hd (x_field (op_is rfl ho) (by rw [hv 8 155 rfl (by kernel_rfl)]; unfold pv; go_simp)) hK
    · obtain ⟨rfl, rfl⟩ := hL.at_ (by first | decide | nofun) (j := 2) rfl
      exact l_skip hd (x_store (op_is rfl ho) (by rw [hv 9 156 rfl (by kernel_rfl), hv 7 154 rfl (by kernel_rfl)]; exact Slots_sto hvs q_o z_o)) hK
  · intro a1 g1 g2 g3 g4
    exact hK a1 _ C1 v g1 g2 (fun s hs' => ev_same (g3 s (not_low hs' (by first | decide | nofun)))) hF1 hT1 hB1 hO1
set_option maxRecDepth 100000 in
set_option maxHeartbeats 1600000 in
theorem markSlots_r22 {K : Act → World → Prop} {Q : Exit → Act → World → Prop} {a : Act} {w : World} {bb : Nat} {C : Own} {f : Nat → Value} {xo xt xw xn xf xm xd xr : List Value} {y : Value} {n : Nat} {zs : List Int} (hs : a.tmps.size = 189) (x0 : a.eval (.tmp 0) = pv bb 0) (xy : a.eval (.tmp 7) = y) (hl : IRow w 64 7 y n zs) (hn : n ≤ 10000) (hF : Fit C w bb) (hB : BK w bb f) (hO : KOut C w kcSlots f xo xt xw xn xf xm xd xr) (hlen : xt.length ≤ 1000000)
    (hK : ∀ a' w' C' v nt, a'.tmps.size = a.tmps.size → a'.defers = a.defers → (∀ s : Nat, s < 10 → a'.eval (.tmp s) = a.eval (.tmp s)) → Fit C' w' bb → Stp (fun x => x = (2, .tT)) bb C w C' w' → BK w' bb (upd f 32 v) → KOut C' w' kcSlots (upd f 32 v) xo (xt ++ [nt]) xw xn xf xm xd xr → IRow w' 64 7 nt n zs → Has C' 2 .kept nt → K a' w') :
    (Code.region 22 (opsOf 22 Tryz.f142.body) true).wp Tryz.prog (Exit.then K Q) a w := by
  have hSd : Stp (fun _ => False) bb C w C w.drew := Stp.of (l := []) (Turned.refl [] w).drew (by simp)
  have hFd : Fit C w.drew bb := hF.of (Turned.refl [] w).drew
  have hBd : BK w.drew bb f := hB.keep (Turned.refl [] w).drew (by simp)
  have hOd := hO.step hF hSd (fun _ => .inl (fun h => h)) (fun _ _ => rfl)
  have eR : ∃ a n c, f 32 = .slice a n c := Row.slice hOd.rT.1
  have q_0 := hBd.cell (i := 32) (by omega)
  obtain ⟨nt, wc, hcr, hcw, hct, -⟩ := run_copy (P := Tryz.prog) (w := (w.drew.alloc (.cells #[] 64))) w.drew.heap.size 64 58 58 (.agg #[.int .i64 0, .int .i64 0, .int .i64 0, .int .i64 0, .int .i64 0, .int .i64 0, .int .i64 0]) 7 56 Slots_und Slots_info rfl (by first | decide | nofun) w.drew.heap.size (blk_new _ _) (Nat.le_refl _) y n (zs.map vi) ((hl.drew).alloc _) IRow.one (by unfold maxLen; omega) (by omega)
  have hcT : Turned [] w.drew wc := ((Turned.refl [] _).alloc _).inner hct (by intro x hx; exact .inr (by simp at hx; rw [hx]; exact Nat.le_refl _))
  have hnv := Row.slice hcw
  obtain ⟨hFc, hSc, hkc⟩ := own_new (κ := 2) (t := .kept) hFd hcT hcw
  have hBc : BK wc bb f := hBd.keep hcT (by simp)
  have hOc := hOd.step hFd hSc (fun _ => .inl (fun h => h)) (fun _ _ => rfl)
  have hntr : IRow wc 64 7 nt n zs := Row.low hcw
  have q_1 := (hBd.keep ((Turned.refl [] _).alloc (.cells #[] 64)) (by simp)).cell (i := 32) (by omega)
  have q_2 := hBc.cell (i := 32) (by omega)
  obtain ⟨v, wo, hr, hrow, honto⟩ := run_onto1 (P := Tryz.prog) (w := (wc.alloc (.cells #[nt] 58))) 58 32 32 (.slice none 0 0) 24 Slots_lund Slots_linfo rfl (by first | decide | nofun) _ _ (hOc.rT.1.alloc _) wc.heap.size nt (blk_new _ _) (slice_one hnv) hlen
  have hvs := Row.slice hrow
  have hBt : BK (wc.alloc (.cells #[nt] 58)) bb f := hBc.keep ((Turned.refl [] _).alloc _) (by simp)
  have hBo : BK wo bb f := onto_bk hFc hBt hOc.rT.2 (by simp) honto
  have q_t := hBt.cell (i := 32) (by omega)
  have q_o := hBo.cell (i := 32) (by omega)
  have z_o := hBo.froz 32
  obtain ⟨C1, hF1, hS1, hB1, hO1⟩ := hOc.push1 hFc hBc (by first | decide | nofun) ((Turned.refl [] _).alloc _) honto hrow
  have hnt1 := hS1.row hFc hntr hkc (by simp) (by simp)
  have hnk1 := hS1.has hFc hkc
  have hT1 : Stp (fun x => x = (2, Tg.tT)) bb C w C1 (wo.setCell ⟨bb, 32, none⟩ v) := (hSd.mono (fun _ h => h.elim)).trans ((hSc.mono (fun _ h => h.elim)).trans hS1)
  refine wp_region_chain (by kernel_rfl) [some 157, some 158, some 159, some 160, some 161, some 162, some 163, some 164, some 165, some 166, some 167, some 168, none] (fun kk => match kk with
      | 0 => pv bb 0
      | 1 => pv bb 0
      | 2 => pv bb 0
      | 3 => pv bb 32
      | 4 => f 32
      | 5 => Value.slice (some ⟨w.drew.heap.size, 0, none⟩) 0 0
      | 6 => y
      | 7 => nt
      | 8 => Value.slice (some ⟨wc.heap.size, 0, none⟩) 1 1
      | 9 => v
      | 10 => pv bb 0
      | 11 => pv bb 32
      | 12 => undef
      | _ => undef) (by rw [hs]; kernel_rfl) [5, 7, 8, 9, 12] (fun jj => match jj with
      | 0 => w.drew
      | 1 => (w.drew.alloc (.cells #[] 64))
      | 2 => wc
      | 3 => (wc.alloc (.cells #[nt] 58))
      | 4 => wo
      | _ => wo.setCell ⟨bb, 32, none⟩ v) rfl (by first | decide | nofun) (by decide +kernel) ?_ ?_ ?_
  · intro kk gg bq h
    exact (no_guard (by kernel_rfl) h).elim
  · intro kk hk _ o ac wa wb K ho hd _ hoff hv hL hK
    rcases (by simp at hk; omega : kk = 0 ∨ kk = 1 ∨ kk = 2 ∨ kk = 3 ∨ kk = 4 ∨ kk = 5 ∨ kk = 6 ∨ kk = 7 ∨ kk = 8 ∨ kk = 9 ∨ kk = 10 ∨ kk = 11 ∨ kk = 12) with rfl | rfl | rfl | rfl | rfl | rfl | rfl | rfl | rfl | rfl | rfl | rfl | rfl
    · obtain ⟨rfl, jw, hjw, rfl, hjR⟩ := hL.off (by first | decide | nofun)
      exact l_val hd ((x_move (op_is rfl ho)).trans (by rw [(hoff 0 (by first | decide | nofun)).trans x0]; rfl)) hK
    · obtain ⟨rfl, jw, hjw, rfl, hjR⟩ := hL.off (by first | decide | nofun)
      exact l_val hd ((x_move (op_is rfl ho)).trans (by rw [(hoff 0 (by first | decide | nofun)).trans x0]; rfl)) hK
    · obtain ⟨rfl, jw, hjw, rfl, hjR⟩ := hL.off (by first | decide | nofun)
      exact l_val hd (x_nil (op_is rfl ho) (hv 1 158 rfl (by kernel_rfl))) hK
    · obtain ⟨rfl, jw, hjw, rfl, hjR⟩ := hL.off (by first | decide | nofun)
      exact l_val hd (x_field (op_is rfl ho) (by rw [hv 2 159 rfl (by kernel_rfl)]; unfold pv; go_simp)) hK
    · obtain ⟨rfl, jw, hjw, rfl, hjR⟩ := hL.off (by first | decide | nofun)
      have hj := hjR 4 12 rfl (by decide +kernel)
      rcases (by omega : jw = 0 ∨ jw = 1 ∨ jw = 2 ∨ jw = 3 ∨ jw = 4) with rfl | rfl | rfl | rfl | rfl
      · exact l_val hd (x_load (op_is rfl ho) (by rw [hv 3 160 rfl (by kernel_rfl)]; exact Slots_ldo eR q_0)) hK
      · exact l_val hd (x_load (op_is rfl ho) (by rw [hv 3 160 rfl (by kernel_rfl)]; exact Slots_ldo eR q_1)) hK
      · exact l_val hd (x_load (op_is rfl ho) (by rw [hv 3 160 rfl (by kernel_rfl)]; exact Slots_ldo eR q_2)) hK
      · exact l_val hd (x_load (op_is rfl ho) (by rw [hv 3 160 rfl (by kernel_rfl)]; exact Slots_ldo eR q_t)) hK
      · exact l_val hd (x_load (op_is rfl ho) (by rw [hv 3 160 rfl (by kernel_rfl)]; exact Slots_ldo eR q_o)) hK
    · obtain ⟨rfl, rfl⟩ := hL.at_ (by first | decide | nofun) (j := 0) rfl
      exact l_val hd (x_bslice (qs := #[]) (op_is rfl ho) (by simp) (Slots_bs0 _)) hK
    · obtain ⟨rfl, jw, hjw, rfl, hjR⟩ := hL.off (by first | decide | nofun)
      exact l_val hd ((x_move (op_is rfl ho)).trans (by rw [(hoff 7 (by first | decide | nofun)).trans xy]; rfl)) hK
    · obtain ⟨rfl, rfl⟩ := hL.at_ (by first | decide | nofun) (j := 1) rfl
      exact l_val hd (x_append (op_is rfl ho) (ty_is rfl ho) (hv 5 162 rfl (by kernel_rfl)) (hv 6 163 rfl (by kernel_rfl)) hcr) hK
    · obtain ⟨rfl, rfl⟩ := hL.at_ (by first | decide | nofun) (j := 2) rfl
      exact l_val hd (x_bslice (op_is rfl ho) (by simp only [List.map_toArray, List.map_cons, List.map_nil, hv 7 164 rfl (by kernel_rfl)]) (Slots_bs1o _ hnv)) hK
    · obtain ⟨rfl, rfl⟩ := hL.at_ (by first | decide | nofun) (j := 3) rfl
      exact l_val hd (x_append (op_is rfl ho) (ty_is rfl ho) (hv 4 161 rfl (by kernel_rfl)) (hv 8 165 rfl (by kernel_rfl)) hr) hK
    · obtain ⟨rfl, jw, hjw, rfl, hjR⟩ := hL.off (by first | decide | nofun)
      exact l_val hd (x_nil (op_is rfl ho) (hv 0 157 rfl (by kernel_rfl))) hK
    · obtain ⟨rfl, jw, hjw, rfl, hjR⟩ := hL.off (by first | decide | nofun)
      exact l_val hd (x_field (op_is rfl ho) (by rw [hv 10 167 rfl (by kernel_rfl)]; unfold pv; go_simp)) hK
    · obtain ⟨rfl, rfl⟩ := hL.at_ (by first | decide | nofun) (j := 4) rfl
      exact l_skip hd (x_store (op_is rfl ho) (by rw [hv 11 168 rfl (by kernel_rfl), hv 9 166 rfl (by kernel_rfl)]; exact Slots_sto hvs q_o z_o)) hK
  · intro a1 g1 g2 g3 g4
    exact hK a1 _ C1 v nt g1 g2 (fun s hs' => ev_same (g3 s (not_low hs' (by first | decide | nofun)))) hF1 hT1 hB1 hO1 hnt1 hnk1
set_option maxRecDepth 100000 in
set_option maxHeartbeats 1600000 in
theorem markSlots_r23 {K : Act → World → Prop} {Q : Exit → Act → World → Prop} {a : Act} {w : World} {bb : Nat} {C : Own} {f : Nat → Value} {xo xt xw xn xf xm xd xr : List Value} {y : Value} (hs : a.tmps.size = 189) (x0 : a.eval (.tmp 0) = pv bb 0) (xy : a.eval (.tmp 7) = y) (hy : ∃ sa sn sc, y = .slice sa sn sc) (hF : Fit C w bb) (hB : BK w bb f) (hO : KOut C w kcSlots f xo xt xw xn xf xm xd xr) (hlen : xf.length ≤ 1000000)
    (hK : ∀ a' w' C' v, a'.tmps.size = a.tmps.size → a'.defers = a.defers → (∀ s : Nat, s < 10 → a'.eval (.tmp s) = a.eval (.tmp s)) → Fit C' w' bb → Stp (fun x => x = (2, .tF)) bb C w C' w' → BK w' bb (upd f 35 v) → KOut C' w' kcSlots (upd f 35 v) xo xt xw xn (xf ++ [y]) xm xd xr → K a' w') :
    (Code.region 23 (opsOf 23 Tryz.f142.body) false).wp Tryz.prog (Exit.then K Q) a w := by
  have eR : ∃ a n c, f 35 = .slice a n c := Row.slice hO.rF.1
  have q_0 := hB.cell (i := 35) (by omega)
  obtain ⟨v, wo, hr, hrow, honto⟩ := run_onto1 (P := Tryz.prog) (w := (w.alloc (.cells #[y] 58))) 58 32 32 (.slice none 0 0) 24 Slots_lund Slots_linfo rfl (by first | decide | nofun) _ _ (hO.rF.1.alloc _) w.heap.size y (blk_new _ _) (slice_one hy) hlen
  have hvs := Row.slice hrow
  have hBt : BK (w.alloc (.cells #[y] 58)) bb f := hB.keep ((Turned.refl [] _).alloc _) (by simp)
  have hBo : BK wo bb f := onto_bk hF hBt hO.rF.2 (by simp) honto
  have q_t := hBt.cell (i := 35) (by omega)
  have q_o := hBo.cell (i := 35) (by omega)
  have z_o := hBo.froz 35
  obtain ⟨C1, hF1, hS1, hB1, hO1⟩ := hO.push4 hF hB (by first | decide | nofun) ((Turned.refl [] _).alloc _) honto hrow
  have hT1 : Stp (fun x => x = (2, Tg.tF)) bb C w C1 (wo.setCell ⟨bb, 35, none⟩ v) := hS1
  refine wp_region_line [some 169, some 170, some 171, some 172, some 173, some 174, some 175, some 176, some 177, some 178, none] (fun kk => match kk with
      | 0 => pv bb 0
      | 1 => pv bb 0
      | 2 => pv bb 0
      | 3 => pv bb 35
      | 4 => f 35
      | 5 => y
      | 6 => Value.slice (some ⟨w.heap.size, 0, none⟩) 1 1
      | 7 => v
      | 8 => pv bb 0
      | 9 => pv bb 35
      | 10 => undef
      | _ => undef) (by rw [hs]; kernel_rfl) [6, 7, 10] (fun jj => match jj with
      | 0 => w
      | 1 => (w.alloc (.cells #[y] 58))
      | 2 => wo
      | _ => wo.setCell ⟨bb, 35, none⟩ v) rfl (by first | decide | nofun) (by decide +kernel) ?_ ?_ ?_
  · intro kk gg bq h
    exact (no_guard (by kernel_rfl) h).elim
  · intro kk hk _ o ac wa wb K ho hd _ hoff hv hL hK
    rcases (by simp at hk; omega : kk = 0 ∨ kk = 1 ∨ kk = 2 ∨ kk = 3 ∨ kk = 4 ∨ kk = 5 ∨ kk = 6 ∨ kk = 7 ∨ kk = 8 ∨ kk = 9 ∨ kk = 10) with rfl | rfl | rfl | rfl | rfl | rfl | rfl | rfl | rfl | rfl | rfl
    · obtain ⟨rfl, jw, hjw, rfl, hjR⟩ := hL.off (by first | decide | nofun)
      exact l_val hd ((x_move (op_is rfl ho)).trans (by rw [(hoff 0 (by first | decide | nofun)).trans x0]; rfl)) hK
    · obtain ⟨rfl, jw, hjw, rfl, hjR⟩ := hL.off (by first | decide | nofun)
      exact l_val hd ((x_move (op_is rfl ho)).trans (by rw [(hoff 0 (by first | decide | nofun)).trans x0]; rfl)) hK
    · obtain ⟨rfl, jw, hjw, rfl, hjR⟩ := hL.off (by first | decide | nofun)
      exact l_val hd (x_nil (op_is rfl ho) (hv 1 170 rfl (by kernel_rfl))) hK
    · obtain ⟨rfl, jw, hjw, rfl, hjR⟩ := hL.off (by first | decide | nofun)
      exact l_val hd (x_field (op_is rfl ho) (by rw [hv 2 171 rfl (by kernel_rfl)]; unfold pv; go_simp)) hK
    · obtain ⟨rfl, jw, hjw, rfl, hjR⟩ := hL.off (by first | decide | nofun)
      have hj := hjR 2 10 rfl (by first | decide | nofun)
      rcases (by omega : jw = 0 ∨ jw = 1 ∨ jw = 2) with rfl | rfl | rfl
      · exact l_val hd (x_load (op_is rfl ho) (by rw [hv 3 172 rfl (by kernel_rfl)]; exact Slots_ldo eR q_0)) hK
      · exact l_val hd (x_load (op_is rfl ho) (by rw [hv 3 172 rfl (by kernel_rfl)]; exact Slots_ldo eR q_t)) hK
      · exact l_val hd (x_load (op_is rfl ho) (by rw [hv 3 172 rfl (by kernel_rfl)]; exact Slots_ldo eR q_o)) hK
    · obtain ⟨rfl, jw, hjw, rfl, hjR⟩ := hL.off (by first | decide | nofun)
      exact l_val hd ((x_move (op_is rfl ho)).trans (by rw [(hoff 7 (by first | decide | nofun)).trans xy]; rfl)) hK
    · obtain ⟨rfl, rfl⟩ := hL.at_ (by first | decide | nofun) (j := 0) rfl
      exact l_val hd (x_bslice (op_is rfl ho) (by simp only [List.map_toArray, List.map_cons, List.map_nil, hv 5 174 rfl (by kernel_rfl)]) (Slots_bs1o _ hy)) hK
    · obtain ⟨rfl, rfl⟩ := hL.at_ (by first | decide | nofun) (j := 1) rfl
      exact l_val hd (x_append (op_is rfl ho) (ty_is rfl ho) (hv 4 173 rfl (by kernel_rfl)) (hv 6 175 rfl (by kernel_rfl)) hr) hK
    · obtain ⟨rfl, jw, hjw, rfl, hjR⟩ := hL.off (by first | decide | nofun)
      exact l_val hd (x_nil (op_is rfl ho) (hv 0 169 rfl (by kernel_rfl))) hK
    · obtain ⟨rfl, jw, hjw, rfl, hjR⟩ := hL.off (by first | decide | nofun)
      exact l_val hd (x_field (op_is rfl ho) (by rw [hv 8 177 rfl (by kernel_rfl)]; unfold pv; go_simp)) hK
    · obtain ⟨rfl, rfl⟩ := hL.at_ (by first | decide | nofun) (j := 2) rfl
      exact l_skip hd (x_store (op_is rfl ho) (by rw [hv 9 178 rfl (by kernel_rfl), hv 7 176 rfl (by kernel_rfl)]; exact Slots_sto hvs q_o z_o)) hK
  · intro a1 g1 g2 g3 g4
    exact hK a1 _ C1 v g1 g2 (fun s hs' => ev_same (g3 s (not_low hs' (by first | decide | nofun)))) hF1 hT1 hB1 hO1
set_option maxRecDepth 100000 in
set_option maxHeartbeats 1600000 in
theorem markSlots_r24 {K : Act → World → Prop} {Q : Exit → Act → World → Prop} {a : Act} {w : World} {bb : Nat} {C : Own} {f : Nat → Value} {xo xt xw xn xf xm xd xr : List Value} {z : Int} (hs : a.tmps.size = 189) (x0 : a.eval (.tmp 0) = pv bb 0) (xy : a.eval (.tmp 8) = vi z) (hF : Fit C w bb) (hB : BK w bb f) (hO : KOut C w kcSlots f xo xt xw xn xf xm xd xr) (hlen : xr.length ≤ 1000000)
    (hK : ∀ a' w' C' v, a'.tmps.size = a.tmps.size → a'.defers = a.defers → (∀ s : Nat, s < 10 → a'.eval (.tmp s) = a.eval (.tmp s)) → Fit C' w' bb → Stp (fun x => x = (2, .tR)) bb C w C' w' → BK w' bb (upd f 38 v) → KOut C' w' kcSlots (upd f 38 v) xo xt xw xn xf xm xd (xr ++ [(vi z)]) → K a' w') :
    (Code.region 24 (opsOf 24 Tryz.f142.body) false).wp Tryz.prog (Exit.then K Q) a w := by
  have eR : ∃ a n c, f 38 = .slice a n c := Row.slice hO.rR.1
  have q_0 := hB.cell (i := 38) (by omega)
  obtain ⟨v, wo, hr, hrow, honto⟩ := run_onto1 (P := Tryz.prog) (w := (w.alloc (.cells #[(vi z)] 3))) 3 29 29 (.int .i64 0) 8 und_ints info_int rfl (by first | decide | nofun) _ _ (hO.rR.1.alloc _) w.heap.size (vi z) (blk_new _ _) rfl hlen
  have hvs := Row.slice hrow
  have hBt : BK (w.alloc (.cells #[(vi z)] 3)) bb f := hB.keep ((Turned.refl [] _).alloc _) (by simp)
  have hBo : BK wo bb f := onto_bk hF hBt hO.rR.2 (by simp) honto
  have q_t := hBt.cell (i := 38) (by omega)
  have q_o := hBo.cell (i := 38) (by omega)
  have z_o := hBo.froz 38
  obtain ⟨C1, hF1, hS1, hB1, hO1⟩ := hO.push7 hF hB (by first | decide | nofun) ((Turned.refl [] _).alloc _) honto hrow
  have hT1 : Stp (fun x => x = (2, Tg.tR)) bb C w C1 (wo.setCell ⟨bb, 38, none⟩ v) := hS1
  refine wp_region_line [some 179, some 180, some 181, some 182, some 183, some 184, some 185, some 186, some 187, some 188, none] (fun kk => match kk with
      | 0 => pv bb 0
      | 1 => pv bb 0
      | 2 => pv bb 0
      | 3 => pv bb 38
      | 4 => f 38
      | 5 => vi z
      | 6 => Value.slice (some ⟨w.heap.size, 0, none⟩) 1 1
      | 7 => v
      | 8 => pv bb 0
      | 9 => pv bb 38
      | 10 => undef
      | _ => undef) (by rw [hs]; kernel_rfl) [6, 7, 10] (fun jj => match jj with
      | 0 => w
      | 1 => (w.alloc (.cells #[(vi z)] 3))
      | 2 => wo
      | _ => wo.setCell ⟨bb, 38, none⟩ v) rfl (by first | decide | nofun) (by decide +kernel) ?_ ?_ ?_
  · intro kk gg bq h
    exact (no_guard (by kernel_rfl) h).elim
  · intro kk hk _ o ac wa wb K ho hd _ hoff hv hL hK
    rcases (by simp at hk; omega : kk = 0 ∨ kk = 1 ∨ kk = 2 ∨ kk = 3 ∨ kk = 4 ∨ kk = 5 ∨ kk = 6 ∨ kk = 7 ∨ kk = 8 ∨ kk = 9 ∨ kk = 10) with rfl | rfl | rfl | rfl | rfl | rfl | rfl | rfl | rfl | rfl | rfl
    · obtain ⟨rfl, jw, hjw, rfl, hjR⟩ := hL.off (by first | decide | nofun)
      exact l_val hd ((x_move (op_is rfl ho)).trans (by rw [(hoff 0 (by first | decide | nofun)).trans x0]; rfl)) hK
    · obtain ⟨rfl, jw, hjw, rfl, hjR⟩ := hL.off (by first | decide | nofun)
      exact l_val hd ((x_move (op_is rfl ho)).trans (by rw [(hoff 0 (by first | decide | nofun)).trans x0]; rfl)) hK
    · obtain ⟨rfl, jw, hjw, rfl, hjR⟩ := hL.off (by first | decide | nofun)
      exact l_val hd (x_nil (op_is rfl ho) (hv 1 180 rfl (by kernel_rfl))) hK
    · obtain ⟨rfl, jw, hjw, rfl, hjR⟩ := hL.off (by first | decide | nofun)
      exact l_val hd (x_field (op_is rfl ho) (by rw [hv 2 181 rfl (by kernel_rfl)]; unfold pv; go_simp)) hK
    · obtain ⟨rfl, jw, hjw, rfl, hjR⟩ := hL.off (by first | decide | nofun)
      have hj := hjR 2 10 rfl (by first | decide | nofun)
      rcases (by omega : jw = 0 ∨ jw = 1 ∨ jw = 2) with rfl | rfl | rfl
      · exact l_val hd (x_load (op_is rfl ho) (by rw [hv 3 182 rfl (by kernel_rfl)]; exact ld_intso eR q_0)) hK
      · exact l_val hd (x_load (op_is rfl ho) (by rw [hv 3 182 rfl (by kernel_rfl)]; exact ld_intso eR q_t)) hK
      · exact l_val hd (x_load (op_is rfl ho) (by rw [hv 3 182 rfl (by kernel_rfl)]; exact ld_intso eR q_o)) hK
    · obtain ⟨rfl, jw, hjw, rfl, hjR⟩ := hL.off (by first | decide | nofun)
      exact l_val hd ((x_move (op_is rfl ho)).trans (by rw [(hoff 8 (by first | decide | nofun)).trans xy]; rfl)) hK
    · obtain ⟨rfl, rfl⟩ := hL.at_ (by first | decide | nofun) (j := 0) rfl
      exact l_val hd (x_bslice (op_is rfl ho) (by simp only [List.map_toArray, List.map_cons, List.map_nil, hv 5 184 rfl (by kernel_rfl)]) (bs_int _ _)) hK
    · obtain ⟨rfl, rfl⟩ := hL.at_ (by first | decide | nofun) (j := 1) rfl
      exact l_val hd (x_append (op_is rfl ho) (ty_is rfl ho) (hv 4 183 rfl (by kernel_rfl)) (hv 6 185 rfl (by kernel_rfl)) hr) hK
    · obtain ⟨rfl, jw, hjw, rfl, hjR⟩ := hL.off (by first | decide | nofun)
      exact l_val hd (x_nil (op_is rfl ho) (hv 0 179 rfl (by kernel_rfl))) hK
    · obtain ⟨rfl, jw, hjw, rfl, hjR⟩ := hL.off (by first | decide | nofun)
      exact l_val hd (x_field (op_is rfl ho) (by rw [hv 8 187 rfl (by kernel_rfl)]; unfold pv; go_simp)) hK
    · obtain ⟨rfl, rfl⟩ := hL.at_ (by first | decide | nofun) (j := 2) rfl
      exact l_skip hd (x_store (op_is rfl ho) (by rw [hv 9 188 rfl (by kernel_rfl), hv 7 186 rfl (by kernel_rfl)]; exact st_intso hvs q_o z_o)) hK
  · intro a1 g1 g2 g3 g4
    exact hK a1 _ C1 v g1 g2 (fun s hs' => ev_same (g3 s (not_low hs' (by first | decide | nofun)))) hF1 hT1 hB1 hO1
set_option maxRecDepth 100000 in
set_option maxHeartbeats 1600000 in
theorem growSlots_r9 {K : Act → World → Prop} {Q : Exit → Act → World → Prop} {a : Act} {w : World} {bb : Nat} {C : Own} {f : Nat → Value} {xo xt xw xn xf xm xd xr : List Value} {y : Value} (hs : a.tmps.size = 70) (x0 : a.eval (.tmp 0) = pv bb 0) (xy : a.eval (.tmp 4) = y) (hy : ∃ sa sn sc, y = .slice sa sn sc) (hF : Fit C w bb) (hB : BK w bb f) (hO : KOut C w kcSlots f xo xt xw xn xf xm xd xr) (hlen : xo.length ≤ 1000000)
    (hK : ∀ a' w' C' v, a'.tmps.size = a.tmps.size → a'.defers = a.defers → (∀ s : Nat, s < 6 → a'.eval (.tmp s) = a.eval (.tmp s)) → Fit C' w' bb → Stp (fun x => x = (2, .tO)) bb C w C' w' → BK w' bb (upd f 31 v) → KOut C' w' kcSlots (upd f 31 v) (xo ++ [y]) xt xw xn xf xm xd xr → K a' w') :
    (Code.region 9 (opsOf 9 Tryz.f153.body) false).wp Tryz.prog (Exit.then K Q) a w := by
  have eR : ∃ a n c, f 31 = .slice a n c := Row.slice hO.rO.1
  have q_0 := hB.cell (i := 31) (by omega)
  obtain ⟨v, wo, hr, hrow, honto⟩ := run_onto1 (P := Tryz.prog) (w := (w.alloc (.cells #[y] 58))) 58 32 32 (.slice none 0 0) 24 Slots_lund Slots_linfo rfl (by first | decide | nofun) _ _ (hO.rO.1.alloc _) w.heap.size y (blk_new _ _) (slice_one hy) hlen
  have hvs := Row.slice hrow
  have hBt : BK (w.alloc (.cells #[y] 58)) bb f := hB.keep ((Turned.refl [] _).alloc _) (by simp)
  have hBo : BK wo bb f := onto_bk hF hBt hO.rO.2 (by simp) honto
  have q_t := hBt.cell (i := 31) (by omega)
  have q_o := hBo.cell (i := 31) (by omega)
  have z_o := hBo.froz 31
  obtain ⟨C1, hF1, hS1, hB1, hO1⟩ := hO.push0 hF hB (by first | decide | nofun) ((Turned.refl [] _).alloc _) honto hrow
  have hT1 : Stp (fun x => x = (2, Tg.tO)) bb C w C1 (wo.setCell ⟨bb, 31, none⟩ v) := hS1
  refine wp_region_line [some 42, some 43, some 44, some 45, some 46, some 47, some 48, some 49, some 50, some 51, none] (fun kk => match kk with
      | 0 => pv bb 0
      | 1 => pv bb 0
      | 2 => pv bb 0
      | 3 => pv bb 31
      | 4 => f 31
      | 5 => y
      | 6 => Value.slice (some ⟨w.heap.size, 0, none⟩) 1 1
      | 7 => v
      | 8 => pv bb 0
      | 9 => pv bb 31
      | 10 => undef
      | _ => undef) (by rw [hs]; kernel_rfl) [6, 7, 10] (fun jj => match jj with
      | 0 => w
      | 1 => (w.alloc (.cells #[y] 58))
      | 2 => wo
      | _ => wo.setCell ⟨bb, 31, none⟩ v) rfl (by first | decide | nofun) (by decide +kernel) ?_ ?_ ?_
  · intro kk gg bq h
    exact (no_guard (by kernel_rfl) h).elim
  · intro kk hk _ o ac wa wb K ho hd _ hoff hv hL hK
    rcases (by simp at hk; omega : kk = 0 ∨ kk = 1 ∨ kk = 2 ∨ kk = 3 ∨ kk = 4 ∨ kk = 5 ∨ kk = 6 ∨ kk = 7 ∨ kk = 8 ∨ kk = 9 ∨ kk = 10) with rfl | rfl | rfl | rfl | rfl | rfl | rfl | rfl | rfl | rfl | rfl
    · obtain ⟨rfl, jw, hjw, rfl, hjR⟩ := hL.off (by first | decide | nofun)
      exact l_val hd ((x_move (op_is rfl ho)).trans (by rw [(hoff 0 (by first | decide | nofun)).trans x0]; rfl)) hK
    · obtain ⟨rfl, jw, hjw, rfl, hjR⟩ := hL.off (by first | decide | nofun)
      exact l_val hd ((x_move (op_is rfl ho)).trans (by rw [(hoff 0 (by first | decide | nofun)).trans x0]; rfl)) hK
    · obtain ⟨rfl, jw, hjw, rfl, hjR⟩ := hL.off (by first | decide | nofun)
      exact l_val hd (x_nil (op_is rfl ho) (hv 1 43 rfl (by kernel_rfl))) hK
    · obtain ⟨rfl, jw, hjw, rfl, hjR⟩ := hL.off (by first | decide | nofun)
      exact l_val hd (x_field (op_is rfl ho) (by rw [hv 2 44 rfl (by kernel_rfl)]; unfold pv; go_simp)) hK
    · obtain ⟨rfl, jw, hjw, rfl, hjR⟩ := hL.off (by first | decide | nofun)
      have hj := hjR 2 10 rfl (by first | decide | nofun)
      rcases (by omega : jw = 0 ∨ jw = 1 ∨ jw = 2) with rfl | rfl | rfl
      · exact l_val hd (x_load (op_is rfl ho) (by rw [hv 3 45 rfl (by kernel_rfl)]; exact Slots_ldo eR q_0)) hK
      · exact l_val hd (x_load (op_is rfl ho) (by rw [hv 3 45 rfl (by kernel_rfl)]; exact Slots_ldo eR q_t)) hK
      · exact l_val hd (x_load (op_is rfl ho) (by rw [hv 3 45 rfl (by kernel_rfl)]; exact Slots_ldo eR q_o)) hK
    · obtain ⟨rfl, jw, hjw, rfl, hjR⟩ := hL.off (by first | decide | nofun)
      exact l_val hd ((x_move (op_is rfl ho)).trans (by rw [(hoff 4 (by first | decide | nofun)).trans xy]; rfl)) hK
    · obtain ⟨rfl, rfl⟩ := hL.at_ (by first | decide | nofun) (j := 0) rfl
      exact l_val hd (x_bslice (op_is rfl ho) (by simp only [List.map_toArray, List.map_cons, List.map_nil, hv 5 47 rfl (by kernel_rfl)]) (Slots_bs1o _ hy)) hK
    · obtain ⟨rfl, rfl⟩ := hL.at_ (by first | decide | nofun) (j := 1) rfl
      exact l_val hd (x_append (op_is rfl ho) (ty_is rfl ho) (hv 4 46 rfl (by kernel_rfl)) (hv 6 48 rfl (by kernel_rfl)) hr) hK
    · obtain ⟨rfl, jw, hjw, rfl, hjR⟩ := hL.off (by first | decide | nofun)
      exact l_val hd (x_nil (op_is rfl ho) (hv 0 42 rfl (by kernel_rfl))) hK
    · obtain ⟨rfl, jw, hjw, rfl, hjR⟩ := hL.off (by first | decide | nofun)
      exact l_val hd (x_field (op_is rfl ho) (by rw [hv 8 50 rfl (by kernel_rfl)]; unfold pv; go_simp)) hK
    · obtain ⟨rfl, rfl⟩ := hL.at_ (by first | decide | nofun) (j := 2) rfl
      exact l_skip hd (x_store (op_is rfl ho) (by rw [hv 9 51 rfl (by kernel_rfl), hv 7 49 rfl (by kernel_rfl)]; exact Slots_sto hvs q_o z_o)) hK
  · intro a1 g1 g2 g3 g4
    exact hK a1 _ C1 v g1 g2 (fun s hs' => ev_same (g3 s (not_low hs' (by first | decide | nofun)))) hF1 hT1 hB1 hO1
set_option maxRecDepth 100000 in
set_option maxHeartbeats 1600000 in
theorem growSlots_r10 {K : Act → World → Prop} {Q : Exit → Act → World → Prop} {a : Act} {w : World} {bb : Nat} {C : Own} {f : Nat → Value} {xo xt xw xn xf xm xd xr : List Value} {y : Value} {n : Nat} {zs : List Int} (hs : a.tmps.size = 70) (x0 : a.eval (.tmp 0) = pv bb 0) (xy : a.eval (.tmp 4) = y) (hl : IRow w 64 7 y n zs) (hn : n ≤ 10000) (hF : Fit C w bb) (hB : BK w bb f) (hO : KOut C w kcSlots f xo xt xw xn xf xm xd xr) (hlen : xt.length ≤ 1000000)
    (hK : ∀ a' w' C' v nt, a'.tmps.size = a.tmps.size → a'.defers = a.defers → (∀ s : Nat, s < 6 → a'.eval (.tmp s) = a.eval (.tmp s)) → Fit C' w' bb → Stp (fun x => x = (2, .tT)) bb C w C' w' → BK w' bb (upd f 32 v) → KOut C' w' kcSlots (upd f 32 v) xo (xt ++ [nt]) xw xn xf xm xd xr → IRow w' 64 7 nt n zs → Has C' 2 .kept nt → K a' w') :
    (Code.region 10 (opsOf 10 Tryz.f153.body) true).wp Tryz.prog (Exit.then K Q) a w := by
  have hSd : Stp (fun _ => False) bb C w C w.drew := Stp.of (l := []) (Turned.refl [] w).drew (by simp)
  have hFd : Fit C w.drew bb := hF.of (Turned.refl [] w).drew
  have hBd : BK w.drew bb f := hB.keep (Turned.refl [] w).drew (by simp)
  have hOd := hO.step hF hSd (fun _ => .inl (fun h => h)) (fun _ _ => rfl)
  have eR : ∃ a n c, f 32 = .slice a n c := Row.slice hOd.rT.1
  have q_0 := hBd.cell (i := 32) (by omega)
  obtain ⟨nt, wc, hcr, hcw, hct, -⟩ := run_copy (P := Tryz.prog) (w := (w.drew.alloc (.cells #[] 64))) w.drew.heap.size 64 58 58 (.agg #[.int .i64 0, .int .i64 0, .int .i64 0, .int .i64 0, .int .i64 0, .int .i64 0, .int .i64 0]) 7 56 Slots_und Slots_info rfl (by first | decide | nofun) w.drew.heap.size (blk_new _ _) (Nat.le_refl _) y n (zs.map vi) ((hl.drew).alloc _) IRow.one (by unfold maxLen; omega) (by omega)
  have hcT : Turned [] w.drew wc := ((Turned.refl [] _).alloc _).inner hct (by intro x hx; exact .inr (by simp at hx; rw [hx]; exact Nat.le_refl _))
  have hnv := Row.slice hcw
  obtain ⟨hFc, hSc, hkc⟩ := own_new (κ := 2) (t := .kept) hFd hcT hcw
  have hBc : BK wc bb f := hBd.keep hcT (by simp)
  have hOc := hOd.step hFd hSc (fun _ => .inl (fun h => h)) (fun _ _ => rfl)
  have hntr : IRow wc 64 7 nt n zs := Row.low hcw
  have q_1 := (hBd.keep ((Turned.refl [] _).alloc (.cells #[] 64)) (by simp)).cell (i := 32) (by omega)
  have q_2 := hBc.cell (i := 32) (by omega)
  obtain ⟨v, wo, hr, hrow, honto⟩ := run_onto1 (P := Tryz.prog) (w := (wc.alloc (.cells #[nt] 58))) 58 32 32 (.slice none 0 0) 24 Slots_lund Slots_linfo rfl (by first | decide | nofun) _ _ (hOc.rT.1.alloc _) wc.heap.size nt (blk_new _ _) (slice_one hnv) hlen
  have hvs := Row.slice hrow
  have hBt : BK (wc.alloc (.cells #[nt] 58)) bb f := hBc.keep ((Turned.refl [] _).alloc _) (by simp)
  have hBo : BK wo bb f := onto_bk hFc hBt hOc.rT.2 (by simp) honto
  have q_t := hBt.cell (i := 32) (by omega)
  have q_o := hBo.cell (i := 32) (by omega)
  have z_o := hBo.froz 32
  obtain ⟨C1, hF1, hS1, hB1, hO1⟩ := hOc.push1 hFc hBc (by first | decide | nofun) ((Turned.refl [] _).alloc _) honto hrow
  have hnt1 := hS1.row hFc hntr hkc (by simp) (by simp)
  have hnk1 := hS1.has hFc hkc
  have hT1 : Stp (fun x => x = (2, Tg.tT)) bb C w C1 (wo.setCell ⟨bb, 32, none⟩ v) := (hSd.mono (fun _ h => h.elim)).trans ((hSc.mono (fun _ h => h.elim)).trans hS1)
  refine wp_region_chain (by kernel_rfl) [some 52, some 53, some 54, some 55, some 56, some 57, some 58, some 59, some 60, some 61, some 62, some 63, none] (fun kk => match kk with
      | 0 => pv bb 0
      | 1 => pv bb 0
      | 2 => pv bb 0
      | 3 => pv bb 32
      | 4 => f 32
      | 5 => Value.slice (some ⟨w.drew.heap.size, 0, none⟩) 0 0
      | 6 => y
      | 7 => nt
      | 8 => Value.slice (some ⟨wc.heap.size, 0, none⟩) 1 1
      | 9 => v
      | 10 => pv bb 0
      | 11 => pv bb 32
      | 12 => undef
      | _ => undef) (by rw [hs]; kernel_rfl) [5, 7, 8, 9, 12] (fun jj => match jj with
      | 0 => w.drew
      | 1 => (w.drew.alloc (.cells #[] 64))
      | 2 => wc
      | 3 => (wc.alloc (.cells #[nt] 58))
      | 4 => wo
      | _ => wo.setCell ⟨bb, 32, none⟩ v) rfl (by first | decide | nofun) (by decide +kernel) ?_ ?_ ?_
  · intro kk gg bq h
    exact (no_guard (by kernel_rfl) h).elim
  · intro kk hk _ o ac wa wb K ho hd _ hoff hv hL hK
    rcases (by simp at hk; omega : kk = 0 ∨ kk = 1 ∨ kk = 2 ∨ kk = 3 ∨ kk = 4 ∨ kk = 5 ∨ kk = 6 ∨ kk = 7 ∨ kk = 8 ∨ kk = 9 ∨ kk = 10 ∨ kk = 11 ∨ kk = 12) with rfl | rfl | rfl | rfl | rfl | rfl | rfl | rfl | rfl | rfl | rfl | rfl | rfl
    · obtain ⟨rfl, jw, hjw, rfl, hjR⟩ := hL.off (by first | decide | nofun)
      exact l_val hd ((x_move (op_is rfl ho)).trans (by rw [(hoff 0 (by first | decide | nofun)).trans x0]; rfl)) hK
    · obtain ⟨rfl, jw, hjw, rfl, hjR⟩ := hL.off (by first | decide | nofun)
      exact l_val hd ((x_move (op_is rfl ho)).trans (by rw [(hoff 0 (by first | decide | nofun)).trans x0]; rfl)) hK
    · obtain ⟨rfl, jw, hjw, rfl, hjR⟩ := hL.off (by first | decide | nofun)
      exact l_val hd (x_nil (op_is rfl ho) (hv 1 53 rfl (by kernel_rfl))) hK
    · obtain ⟨rfl, jw, hjw, rfl, hjR⟩ := hL.off (by first | decide | nofun)
      exact l_val hd (x_field (op_is rfl ho) (by rw [hv 2 54 rfl (by kernel_rfl)]; unfold pv; go_simp)) hK
    · obtain ⟨rfl, jw, hjw, rfl, hjR⟩ := hL.off (by first | decide | nofun)
      have hj := hjR 4 12 rfl (by decide +kernel)
      rcases (by omega : jw = 0 ∨ jw = 1 ∨ jw = 2 ∨ jw = 3 ∨ jw = 4) with rfl | rfl | rfl | rfl | rfl
      · exact l_val hd (x_load (op_is rfl ho) (by rw [hv 3 55 rfl (by kernel_rfl)]; exact Slots_ldo eR q_0)) hK
      · exact l_val hd (x_load (op_is rfl ho) (by rw [hv 3 55 rfl (by kernel_rfl)]; exact Slots_ldo eR q_1)) hK
      · exact l_val hd (x_load (op_is rfl ho) (by rw [hv 3 55 rfl (by kernel_rfl)]; exact Slots_ldo eR q_2)) hK
      · exact l_val hd (x_load (op_is rfl ho) (by rw [hv 3 55 rfl (by kernel_rfl)]; exact Slots_ldo eR q_t)) hK
      · exact l_val hd (x_load (op_is rfl ho) (by rw [hv 3 55 rfl (by kernel_rfl)]; exact Slots_ldo eR q_o)) hK
    · obtain ⟨rfl, rfl⟩ := hL.at_ (by first | decide | nofun) (j := 0) rfl
      exact l_val hd (x_bslice (qs := #[]) (op_is rfl ho) (by simp) (Slots_bs0 _)) hK
    · obtain ⟨rfl, jw, hjw, rfl, hjR⟩ := hL.off (by first | decide | nofun)
      exact l_val hd ((x_move (op_is rfl ho)).trans (by rw [(hoff 4 (by first | decide | nofun)).trans xy]; rfl)) hK
    · obtain ⟨rfl, rfl⟩ := hL.at_ (by first | decide | nofun) (j := 1) rfl
      exact l_val hd (x_append (op_is rfl ho) (ty_is rfl ho) (hv 5 57 rfl (by kernel_rfl)) (hv 6 58 rfl (by kernel_rfl)) hcr) hK
    · obtain ⟨rfl, rfl⟩ := hL.at_ (by first | decide | nofun) (j := 2) rfl
      exact l_val hd (x_bslice (op_is rfl ho) (by simp only [List.map_toArray, List.map_cons, List.map_nil, hv 7 59 rfl (by kernel_rfl)]) (Slots_bs1o _ hnv)) hK
    · obtain ⟨rfl, rfl⟩ := hL.at_ (by first | decide | nofun) (j := 3) rfl
      exact l_val hd (x_append (op_is rfl ho) (ty_is rfl ho) (hv 4 56 rfl (by kernel_rfl)) (hv 8 60 rfl (by kernel_rfl)) hr) hK
    · obtain ⟨rfl, jw, hjw, rfl, hjR⟩ := hL.off (by first | decide | nofun)
      exact l_val hd (x_nil (op_is rfl ho) (hv 0 52 rfl (by kernel_rfl))) hK
    · obtain ⟨rfl, jw, hjw, rfl, hjR⟩ := hL.off (by first | decide | nofun)
      exact l_val hd (x_field (op_is rfl ho) (by rw [hv 10 62 rfl (by kernel_rfl)]; unfold pv; go_simp)) hK
    · obtain ⟨rfl, rfl⟩ := hL.at_ (by first | decide | nofun) (j := 4) rfl
      exact l_skip hd (x_store (op_is rfl ho) (by rw [hv 11 63 rfl (by kernel_rfl), hv 9 61 rfl (by kernel_rfl)]; exact Slots_sto hvs q_o z_o)) hK
  · intro a1 g1 g2 g3 g4
    exact hK a1 _ C1 v nt g1 g2 (fun s hs' => ev_same (g3 s (not_low hs' (by first | decide | nofun)))) hF1 hT1 hB1 hO1 hnt1 hnk1
end Go.Proofs.YtjbhnpofdafmbaaGreatDoor

/- The statements of the book that lay one more on its own slices (kind Ints). -/
import Derived.Test.YtjbhnpofdafmbaaGreatDoorJ13
namespace Go.Proofs.YtjbhnpofdafmbaaGreatDoor
open Go.RowKit
theorem idx_lists_Ints {w : World} {g m rc k : Nat} (hlt : (k : Int) < (m : Int)) : (Instr.indexAt 28 (.slice (some ⟨g, 0, none⟩) m rc) (vi (k : Nat))).run Tryz.prog w = .ok (pv g k) w := by
  unfold pv
  go_simp
theorem Ints_ldi {w : World} {bb i : Nat} {y : Value} (hy : ∃ a n c, y = .slice a n c) (h : w.cell? ⟨bb, i, none⟩ = some y) : (Instr.loadAt 29 (pv bb i)).run Tryz.prog w = .ok y w := by
  obtain ⟨a, n, c, rfl⟩ := hy
  unfold pv
  go_simp
set_option maxRecDepth 100000 in
set_option maxHeartbeats 1600000 in
theorem markInts_r12 {K : Act → World → Prop} {Q : Exit → Act → World → Prop} {a : Act} {w : World} {bb : Nat} {C : Own} {f : Nat → Value} {xo xt xw xn xf xm xd xr : List Value} {y : Value} (hs : a.tmps.size = 188) (x0 : a.eval (.tmp 0) = pv bb 0) (xy : a.eval (.tmp 7) = y) (hy : ∃ sa sn sc, y = .slice sa sn sc) (hF : Fit C w bb) (hB : BK w bb f) (hO : KOut C w kcInts f xo xt xw xn xf xm xd xr) (hlen : xw.length ≤ 1000000)
    (hK : ∀ a' w' C' v, a'.tmps.size = a.tmps.size → a'.defers = a.defers → (∀ s : Nat, s < 10 → a'.eval (.tmp s) = a.eval (.tmp s)) → Fit C' w' bb → Stp (fun x => x = (1, .tW)) bb C w C' w' → BK w' bb (upd f 6 v) → KOut C' w' kcInts (upd f 6 v) xo xt (xw ++ [y]) xn xf xm xd xr → K a' w') :
    (Code.region 12 (opsOf 12 Tryz.f139.body) false).wp Tryz.prog (Exit.then K Q) a w := by
  have eR : ∃ a n c, f 6 = .slice a n c := Row.slice hO.rW.1
  have q_0 := hB.cell (i := 6) (by omega)
  obtain ⟨v, wo, hr, hrow, honto⟩ := run_onto1 (P := Tryz.prog) (w := (w.alloc (.cells #[y] 29))) 29 28 28 (.slice none 0 0) 24 Ints_lund Ints_linfo rfl (by first | decide | nofun) _ _ (hO.rW.1.alloc _) w.heap.size y (blk_new _ _) (slice_one hy) hlen
  have hvs := Row.slice hrow
  have hBt : BK (w.alloc (.cells #[y] 29)) bb f := hB.keep ((Turned.refl [] _).alloc _) (by simp)
  have hBo : BK wo bb f := onto_bk hF hBt hO.rW.2 (by simp) honto
  have q_t := hBt.cell (i := 6) (by omega)
  have q_o := hBo.cell (i := 6) (by omega)
  have z_o := hBo.froz 6
  obtain ⟨C1, hF1, hS1, hB1, hO1⟩ := hO.push2 hF hB (by first | decide | nofun) ((Turned.refl [] _).alloc _) honto hrow
  have hT1 : Stp (fun x => x = (1, Tg.tW)) bb C w C1 (wo.setCell ⟨bb, 6, none⟩ v) := hS1
  refine wp_region_line [some 64, some 65, some 66, some 67, some 68, some 69, some 70, some 71, some 72, some 73, none] (fun kk => match kk with
      | 0 => pv bb 0
      | 1 => pv bb 0
      | 2 => pv bb 0
      | 3 => pv bb 6
      | 4 => f 6
      | 5 => y
      | 6 => Value.slice (some ⟨w.heap.size, 0, none⟩) 1 1
      | 7 => v
      | 8 => pv bb 0
      | 9 => pv bb 6
      | 10 => undef
      | _ => undef) (by rw [hs]; kernel_rfl) [6, 7, 10] (fun jj => match jj with
      | 0 => w
      | 1 => (w.alloc (.cells #[y] 29))
      | 2 => wo
      | _ => wo.setCell ⟨bb, 6, none⟩ v) rfl (by first | decide | nofun) (by decide +kernel) ?_ ?_ ?_
  · intro kk gg bq h
    exact (no_guard (by kernel_rfl) h).elim
  · intro kk hk _ o ac wa wb K ho hd _ hoff hv hL hK
    rcases (by simp at hk; omega : kk = 0 ∨ kk = 1 ∨ kk = 2 ∨ kk = 3 ∨ kk = 4 ∨ kk = 5 ∨ kk = 6 ∨ kk = 7 ∨ kk = 8 ∨ kk = 9 ∨ kk = 10) with rfl | rfl | rfl | rfl | rfl | rfl | rfl | rfl | rfl | rfl | rfl
    · obtain ⟨rfl, jw, hjw, rfl, hjR⟩ := hL.off (by first | decide | nofun)
      exact l_val hd ((x_move (op_is rfl ho)).trans (by rw [(hoff 0 (by first | decide | nofun)).trans x0]; rfl)) hK
    · obtain ⟨rfl, jw, hjw, rfl, hjR⟩ := hL.off (by first | decide | nofun)
      exact l_val hd ((x_move (op_is rfl ho)).trans (by rw [(hoff 0 (by first | decide | nofun)).trans x0]; rfl)) hK
    · obtain ⟨rfl, jw, hjw, rfl, hjR⟩ := hL.off (by first | decide | nofun)
      exact l_val hd (x_nil (op_is rfl ho) (hv 1 65 rfl (by kernel_rfl))) hK
    · obtain ⟨rfl, jw, hjw, rfl, hjR⟩ := hL.off (by first | decide | nofun)
      exact l_val hd (x_field (op_is rfl ho) (by rw [hv 2 66 rfl (by kernel_rfl)]; unfold pv; go_simp)) hK
    · obtain ⟨rfl, jw, hjw, rfl, hjR⟩ := hL.off (by first | decide | nofun)
      have hj := hjR 2 10 rfl (by first | decide | nofun)
      rcases (by omega : jw = 0 ∨ jw = 1 ∨ jw = 2) with rfl | rfl | rfl
      · exact l_val hd (x_load (op_is rfl ho) (by rw [hv 3 67 rfl (by kernel_rfl)]; exact Ints_ldo eR q_0)) hK
      · exact l_val hd (x_load (op_is rfl ho) (by rw [hv 3 67 rfl (by kernel_rfl)]; exact Ints_ldo eR q_t)) hK
      · exact l_val hd (x_load (op_is rfl ho) (by rw [hv 3 67 rfl (by kernel_rfl)]; exact Ints_ldo eR q_o)) hK
    · obtain ⟨rfl, jw, hjw, rfl, hjR⟩ := hL.off (by first | decide | nofun)
      exact l_val hd ((x_move (op_is rfl ho)).trans (by rw [(hoff 7 (by first | decide | nofun)).trans xy]; rfl)) hK
    · obtain ⟨rfl, rfl⟩ := hL.at_ (by first | decide | nofun) (j := 0) rfl
      exact l_val hd (x_bslice (op_is rfl ho) (by simp only [List.map_toArray, List.map_cons, List.map_nil, hv 5 69 rfl (by kernel_rfl)]) (Ints_bs1o _ hy)) hK
    · obtain ⟨rfl, rfl⟩ := hL.at_ (by first | decide | nofun) (j := 1) rfl
      exact l_val hd (x_append (op_is rfl ho) (ty_is rfl ho) (hv 4 68 rfl (by kernel_rfl)) (hv 6 70 rfl (by kernel_rfl)) hr) hK
    · obtain ⟨rfl, jw, hjw, rfl, hjR⟩ := hL.off (by first | decide | nofun)
      exact l_val hd (x_nil (op_is rfl ho) (hv 0 64 rfl (by kernel_rfl))) hK
    · obtain ⟨rfl, jw, hjw, rfl, hjR⟩ := hL.off (by first | decide | nofun)
      exact l_val hd (x_field (op_is rfl ho) (by rw [hv 8 72 rfl (by kernel_rfl)]; unfold pv; go_simp)) hK
    · obtain ⟨rfl, rfl⟩ := hL.at_ (by first | decide | nofun) (j := 2) rfl
      exact l_skip hd (x_store (op_is rfl ho) (by rw [hv 9 73 rfl (by kernel_rfl), hv 7 71 rfl (by kernel_rfl)]; exact Ints_sto hvs q_o z_o)) hK
  · intro a1 g1 g2 g3 g4
    exact hK a1 _ C1 v g1 g2 (fun s hs' => ev_same (g3 s (not_low hs' (by first | decide | nofun)))) hF1 hT1 hB1 hO1
set_option maxRecDepth 100000 in
set_option maxHeartbeats 1600000 in
theorem markInts_r13 {K : Act → World → Prop} {Q : Exit → Act → World → Prop} {a : Act} {w : World} {bb : Nat} {C : Own} {f : Nat → Value} {xo xt xw xn xf xm xd xr : List Value} {y : Value} {m : Nat} {k : Nat} {g : Nat} {rc : Nat} (hs : a.tmps.size = 188) (x0 : a.eval (.tmp 0) = pv bb 0) (xr_ : a.eval (.tmp 3) = Value.slice (some ⟨g, 0, none⟩) m rc) (xk : a.eval (.tmp 6) = vi (k : Nat)) (hkm : k < m) (hcell : w.cell? ⟨g, k, none⟩ = some y) (hy : ∃ sa sn sc, y = .slice sa sn sc) (hF : Fit C w bb) (hB : BK w bb f) (hO : KOut C w kcInts f xo xt xw xn xf xm xd xr) (hlen : xn.length ≤ 1000000)
    (hK : ∀ a' w' C' v, a'.tmps.size = a.tmps.size → a'.defers = a.defers → (∀ s : Nat, s < 10 → a'.eval (.tmp s) = a.eval (.tmp s)) → Fit C' w' bb → Stp (fun x => x = (1, .tN)) bb C w C' w' → BK w' bb (upd f 7 v) → KOut C' w' kcInts (upd f 7 v) xo xt xw (xn ++ [y]) xf xm xd xr → K a' w') :
    (Code.region 13 (opsOf 13 Tryz.f139.body) true).wp Tryz.prog (Exit.then K Q) a w := by
  have hSd : Stp (fun _ => False) bb C w C w.drew := Stp.of (l := []) (Turned.refl [] w).drew (by simp)
  have hFd : Fit C w.drew bb := hF.of (Turned.refl [] w).drew
  have hBd : BK w.drew bb f := hB.keep (Turned.refl [] w).drew (by simp)
  have hOd := hO.step hF hSd (fun _ => .inl (fun h => h)) (fun _ _ => rfl)
  have eR : ∃ a n c, f 7 = .slice a n c := Row.slice hOd.rN.1
  have q_0 := hBd.cell (i := 7) (by omega)
  obtain ⟨v, wo, hr, hrow, honto⟩ := run_onto1 (P := Tryz.prog) (w := (w.drew.alloc (.cells #[y] 29))) 29 28 28 (.slice none 0 0) 24 Ints_lund Ints_linfo rfl (by first | decide | nofun) _ _ (hOd.rN.1.alloc _) w.drew.heap.size y (blk_new _ _) (slice_one hy) hlen
  have hvs := Row.slice hrow
  have hBt : BK (w.drew.alloc (.cells #[y] 29)) bb f := hBd.keep ((Turned.refl [] _).alloc _) (by simp)
  have hBo : BK wo bb f := onto_bk hFd hBt hOd.rN.2 (by simp) honto
  have q_t := hBt.cell (i := 7) (by omega)
  have q_o := hBo.cell (i := 7) (by omega)
  have z_o := hBo.froz 7
  obtain ⟨C1, hF1, hS1, hB1, hO1⟩ := hOd.push3 hFd hBd (by first | decide | nofun) ((Turned.refl [] _).alloc _) honto hrow
  have hT1 : Stp (fun x => x = (1, Tg.tN)) bb C w C1 (wo.setCell ⟨bb, 7, none⟩ v) := (hSd.mono (fun _ h => h.elim)).trans (hS1)
  have hlt : (k : Int) < (m : Int) := by omega
  have qk : (w.drew).cell? ⟨g, k, none⟩ = some y := hcell
  refine wp_region_chain (by kernel_rfl) [some 74, some 75, some 76, some 77, some 78, some 79, some 80, some 81, some 82, some 83, some 84, some 85, some 86, none] (fun kk => match kk with
      | 0 => pv bb 0
      | 1 => pv bb 0
      | 2 => pv bb 0
      | 3 => pv bb 7
      | 4 => f 7
      | 5 => Value.slice (some ⟨g, 0, none⟩) m rc
      | 6 => vi (k : Nat)
      | 7 => pv g k
      | 8 => y
      | 9 => Value.slice (some ⟨w.drew.heap.size, 0, none⟩) 1 1
      | 10 => v
      | 11 => pv bb 0
      | 12 => pv bb 7
      | 13 => undef
      | _ => undef) (by rw [hs]; kernel_rfl) [9, 10, 13] (fun jj => match jj with
      | 0 => w.drew
      | 1 => (w.drew.alloc (.cells #[y] 29))
      | 2 => wo
      | _ => wo.setCell ⟨bb, 7, none⟩ v) rfl (by first | decide | nofun) (by decide +kernel) ?_ ?_ ?_
  · intro kk gg bq h
    exact (no_guard (by kernel_rfl) h).elim
  · intro kk hk _ o ac wa wb K ho hd _ hoff hv hL hK
    rcases (by simp at hk; omega : kk = 0 ∨ kk = 1 ∨ kk = 2 ∨ kk = 3 ∨ kk = 4 ∨ kk = 5 ∨ kk = 6 ∨ kk = 7 ∨ kk = 8 ∨ kk = 9 ∨ kk = 10 ∨ kk = 11 ∨ kk = 12 ∨ kk = 13) with rfl | rfl | rfl | rfl | rfl | rfl | rfl | rfl | rfl | rfl | rfl | rfl | rfl | rfl
    · obtain ⟨rfl, jw, hjw, rfl, hjR⟩ := hL.off (by first | decide | nofun)
      exact l_val hd ((x_move (op_is rfl ho)).trans (by rw [(hoff 0 (by first | decide | nofun)).trans x0]; rfl)) hK
    · obtain ⟨rfl, jw, hjw, rfl, hjR⟩ := hL.off (by first | decide | nofun)
      exact l_val hd ((x_move (op_is rfl ho)).trans (by rw [(hoff 0 (by first | decide | nofun)).trans x0]; rfl)) hK
    · obtain ⟨rfl, jw, hjw, rfl, hjR⟩ := hL.off (by first | decide | nofun)
      exact l_val hd (x_nil (op_is rfl ho) (hv 1 75 rfl (by kernel_rfl))) hK
    · obtain ⟨rfl, jw, hjw, rfl, hjR⟩ := hL.off (by first | decide | nofun)
      exact l_val hd (x_field (op_is rfl ho) (by rw [hv 2 76 rfl (by kernel_rfl)]; unfold pv; go_simp)) hK
    · obtain ⟨rfl, jw, hjw, rfl, hjR⟩ := hL.off (by first | decide | nofun)
      have hj := hjR 2 13 rfl (by decide +kernel)
      rcases (by omega : jw = 0 ∨ jw = 1 ∨ jw = 2) with rfl | rfl | rfl
      · exact l_val hd (x_load (op_is rfl ho) (by rw [hv 3 77 rfl (by kernel_rfl)]; exact Ints_ldo eR q_0)) hK
      · exact l_val hd (x_load (op_is rfl ho) (by rw [hv 3 77 rfl (by kernel_rfl)]; exact Ints_ldo eR q_t)) hK
      · exact l_val hd (x_load (op_is rfl ho) (by rw [hv 3 77 rfl (by kernel_rfl)]; exact Ints_ldo eR q_o)) hK
    · obtain ⟨rfl, jw, hjw, rfl, hjR⟩ := hL.off (by first | decide | nofun)
      exact l_val hd ((x_move (op_is rfl ho)).trans (by rw [(hoff 3 (by first | decide | nofun)).trans xr_]; rfl)) hK
    · obtain ⟨rfl, jw, hjw, rfl, hjR⟩ := hL.off (by first | decide | nofun)
      exact l_val hd ((x_move (op_is rfl ho)).trans (by rw [(hoff 6 (by first | decide | nofun)).trans xk]; rfl)) hK
    · obtain ⟨rfl, jw, hjw, rfl, hjR⟩ := hL.off (by first | decide | nofun)
      exact l_val hd (x_index (op_is rfl ho) (by rw [hv 5 79 rfl (by kernel_rfl), hv 6 80 rfl (by kernel_rfl)]; exact idx_lists_Ints hlt)) hK
    · obtain ⟨rfl, jw, hjw, rfl, hjR⟩ := hL.off (by first | decide | nofun)
      have hj := hjR 0 9 rfl (by decide +kernel)
      obtain rfl : jw = 0 := by omega
      exact l_val hd (x_load (op_is rfl ho) (by rw [hv 7 81 rfl (by kernel_rfl)]; exact Ints_ldi hy qk)) hK
    · obtain ⟨rfl, rfl⟩ := hL.at_ (by first | decide | nofun) (j := 0) rfl
      exact l_val hd (x_bslice (op_is rfl ho) (by simp only [List.map_toArray, List.map_cons, List.map_nil, hv 8 82 rfl (by kernel_rfl)]) (Ints_bs1o _ hy)) hK
    · obtain ⟨rfl, rfl⟩ := hL.at_ (by first | decide | nofun) (j := 1) rfl
      exact l_val hd (x_append (op_is rfl ho) (ty_is rfl ho) (hv 4 78 rfl (by kernel_rfl)) (hv 9 83 rfl (by kernel_rfl)) hr) hK
    · obtain ⟨rfl, jw, hjw, rfl, hjR⟩ := hL.off (by first | decide | nofun)
      exact l_val hd (x_nil (op_is rfl ho) (hv 0 74 rfl (by kernel_rfl))) hK
    · obtain ⟨rfl, jw, hjw, rfl, hjR⟩ := hL.off (by first | decide | nofun)
      exact l_val hd (x_field (op_is rfl ho) (by rw [hv 11 85 rfl (by kernel_rfl)]; unfold pv; go_simp)) hK
    · obtain ⟨rfl, rfl⟩ := hL.at_ (by first | decide | nofun) (j := 2) rfl
      exact l_skip hd (x_store (op_is rfl ho) (by rw [hv 12 86 rfl (by kernel_rfl), hv 10 84 rfl (by kernel_rfl)]; exact Ints_sto hvs q_o z_o)) hK
  · intro a1 g1 g2 g3 g4
    exact hK a1 _ C1 v g1 g2 (fun s hs' => ev_same (g3 s (not_low hs' (by first | decide | nofun)))) hF1 hT1 hB1 hO1
set_option maxRecDepth 100000 in
set_option maxHeartbeats 1600000 in
theorem markInts_r14 {K : Act → World → Prop} {Q : Exit → Act → World → Prop} {a : Act} {w : World} {bb : Nat} {C : Own} {f : Nat → Value} {xo xt xw xn xf xm xd xr : List Value} {z : Int} (hs : a.tmps.size = 188) (x0 : a.eval (.tmp 0) = pv bb 0) (xy : a.eval (.tmp 8) = vi z) (hF : Fit C w bb) (hB : BK w bb f) (hO : KOut C w kcInts f xo xt xw xn xf xm xd xr) (hlen : xm.length ≤ 1000000)
    (hK : ∀ a' w' C' v, a'.tmps.size = a.tmps.size → a'.defers = a.defers → (∀ s : Nat, s < 10 → a'.eval (.tmp s) = a.eval (.tmp s)) → Fit C' w' bb → Stp (fun x => x = (1, .tM)) bb C w C' w' → BK w' bb (upd f 9 v) → KOut C' w' kcInts (upd f 9 v) xo xt xw xn xf (xm ++ [(vi z)]) xd xr → K a' w') :
    (Code.region 14 (opsOf 14 Tryz.f139.body) false).wp Tryz.prog (Exit.then K Q) a w := by
  have eR : ∃ a n c, f 9 = .slice a n c := Row.slice hO.rM.1
  have q_0 := hB.cell (i := 9) (by omega)
  obtain ⟨v, wo, hr, hrow, honto⟩ := run_onto1 (P := Tryz.prog) (w := (w.alloc (.cells #[(vi z)] 3))) 3 29 29 (.int .i64 0) 8 und_ints info_int rfl (by first | decide | nofun) _ _ (hO.rM.1.alloc _) w.heap.size (vi z) (blk_new _ _) rfl hlen
  have hvs := Row.slice hrow
  have hBt : BK (w.alloc (.cells #[(vi z)] 3)) bb f := hB.keep ((Turned.refl [] _).alloc _) (by simp)
  have hBo : BK wo bb f := onto_bk hF hBt hO.rM.2 (by simp) honto
  have q_t := hBt.cell (i := 9) (by omega)
  have q_o := hBo.cell (i := 9) (by omega)
  have z_o := hBo.froz 9
  obtain ⟨C1, hF1, hS1, hB1, hO1⟩ := hO.push5 hF hB (by first | decide | nofun) ((Turned.refl [] _).alloc _) honto hrow
  have hT1 : Stp (fun x => x = (1, Tg.tM)) bb C w C1 (wo.setCell ⟨bb, 9, none⟩ v) := hS1
  refine wp_region_line [some 87, some 88, some 89, some 90, some 91, some 92, some 93, some 94, some 95, some 96, none] (fun kk => match kk with
      | 0 => pv bb 0
      | 1 => pv bb 0
      | 2 => pv bb 0
      | 3 => pv bb 9
      | 4 => f 9
      | 5 => vi z
      | 6 => Value.slice (some ⟨w.heap.size, 0, none⟩) 1 1
      | 7 => v
      | 8 => pv bb 0
      | 9 => pv bb 9
      | 10 => undef
      | _ => undef) (by rw [hs]; kernel_rfl) [6, 7, 10] (fun jj => match jj with
      | 0 => w
      | 1 => (w.alloc (.cells #[(vi z)] 3))
      | 2 => wo
      | _ => wo.setCell ⟨bb, 9, none⟩ v) rfl (by first | decide | nofun) (by decide +kernel) ?_ ?_ ?_
  · intro kk gg bq h
    exact (no_guard (by kernel_rfl) h).elim
  · intro kk hk _ o ac wa wb K ho hd _ hoff hv hL hK
    rcases (by simp at hk; omega : kk = 0 ∨ kk = 1 ∨ kk = 2 ∨ kk = 3 ∨ kk = 4 ∨ kk = 5 ∨ kk = 6 ∨ kk = 7 ∨ kk = 8 ∨ kk = 9 ∨ kk = 10) with rfl | rfl | rfl | rfl | rfl | rfl | rfl | rfl | rfl | rfl | rfl
    · obtain ⟨rfl, jw, hjw, rfl, hjR⟩ := hL.off (by first | decide | nofun)
      exact l_val hd ((x_move (op_is rfl ho)).trans (by rw [(hoff 0 (by first | decide | nofun)).trans x0]; rfl)) hK
    · obtain ⟨rfl, jw, hjw, rfl, hjR⟩ := hL.off (by first | decide | nofun)
      exact l_val hd ((x_move (op_is rfl ho)).trans (by rw [(hoff 0 (by first | decide | nofun)).trans x0]; rfl)) hK
    · obtain ⟨rfl, jw, hjw, rfl, hjR⟩ := hL.off (by first | decide | nofun)
      exact l_val hd (x_nil (op_is rfl ho) (hv 1 88 rfl (by kernel_rfl))) hK
    · obtain ⟨rfl, jw, hjw, rfl, hjR⟩ := hL.off (by first | decide | nofun)
      exact l_val hd (x_field (op_is rfl ho) (by rw [hv 2 89 rfl (by kernel_rfl)]; unfold pv; go_simp)) hK
    · obtain ⟨rfl, jw, hjw, rfl, hjR⟩ := hL.off (by first | decide | nofun)
      have hj := hjR 2 10 rfl (by first | decide | nofun)
      rcases (by omega : jw = 0 ∨ jw = 1 ∨ jw = 2) with rfl | rfl | rfl
      · exact l_val hd (x_load (op_is rfl ho) (by rw [hv 3 90 rfl (by kernel_rfl)]; exact ld_intso eR q_0)) hK
      · exact l_val hd (x_load (op_is rfl ho) (by rw [hv 3 90 rfl (by kernel_rfl)]; exact ld_intso eR q_t)) hK
      · exact l_val hd (x_load (op_is rfl ho) (by rw [hv 3 90 rfl (by kernel_rfl)]; exact ld_intso eR q_o)) hK
    · obtain ⟨rfl, jw, hjw, rfl, hjR⟩ := hL.off (by first | decide | nofun)
      exact l_val hd ((x_move (op_is rfl ho)).trans (by rw [(hoff 8 (by first | decide | nofun)).trans xy]; rfl)) hK
    · obtain ⟨rfl, rfl⟩ := hL.at_ (by first | decide | nofun) (j := 0) rfl
      exact l_val hd (x_bslice (op_is rfl ho) (by simp only [List.map_toArray, List.map_cons, List.map_nil, hv 5 92 rfl (by kernel_rfl)]) (bs_int _ _)) hK
    · obtain ⟨rfl, rfl⟩ := hL.at_ (by first | decide | nofun) (j := 1) rfl
      exact l_val hd (x_append (op_is rfl ho) (ty_is rfl ho) (hv 4 91 rfl (by kernel_rfl)) (hv 6 93 rfl (by kernel_rfl)) hr) hK
    · obtain ⟨rfl, jw, hjw, rfl, hjR⟩ := hL.off (by first | decide | nofun)
      exact l_val hd (x_nil (op_is rfl ho) (hv 0 87 rfl (by kernel_rfl))) hK
    · obtain ⟨rfl, jw, hjw, rfl, hjR⟩ := hL.off (by first | decide | nofun)
      exact l_val hd (x_field (op_is rfl ho) (by rw [hv 8 95 rfl (by kernel_rfl)]; unfold pv; go_simp)) hK
    · obtain ⟨rfl, rfl⟩ := hL.at_ (by first | decide | nofun) (j := 2) rfl
      exact l_skip hd (x_store (op_is rfl ho) (by rw [hv 9 96 rfl (by kernel_rfl), hv 7 94 rfl (by kernel_rfl)]; exact st_intso hvs q_o z_o)) hK
  · intro a1 g1 g2 g3 g4
    exact hK a1 _ C1 v g1 g2 (fun s hs' => ev_same (g3 s (not_low hs' (by first | decide | nofun)))) hF1 hT1 hB1 hO1
set_option maxRecDepth 100000 in
set_option maxHeartbeats 1600000 in
theorem markInts_r15 {K : Act → World → Prop} {Q : Exit → Act → World → Prop} {a : Act} {w : World} {bb : Nat} {C : Own} {f : Nat → Value} {xo xt xw xn xf xm xd xr : List Value} {z : Int} {m : Nat} {k : Nat} {g : Nat} {rc : Nat} (hs : a.tmps.size = 188) (x0 : a.eval (.tmp 0) = pv bb 0) (xr_ : a.eval (.tmp 5) = Value.slice (some ⟨g, 0, none⟩) m rc) (xk : a.eval (.tmp 6) = vi (k : Nat)) (hkm : k < m) (hcell : w.cell? ⟨g, k, none⟩ = some (vi z)) (hF : Fit C w bb) (hB : BK w bb f) (hO : KOut C w kcInts f xo xt xw xn xf xm xd xr) (hlen : xd.length ≤ 1000000)
    (hK : ∀ a' w' C' v, a'.tmps.size = a.tmps.size → a'.defers = a.defers → (∀ s : Nat, s < 10 → a'.eval (.tmp s) = a.eval (.tmp s)) → Fit C' w' bb → Stp (fun x => x = (1, .tD)) bb C w C' w' → BK w' bb (upd f 10 v) → KOut C' w' kcInts (upd f 10 v) xo xt xw xn xf xm (xd ++ [(vi z)]) xr → K a' w') :
    (Code.region 15 (opsOf 15 Tryz.f139.body) true).wp Tryz.prog (Exit.then K Q) a w := by
  have hSd : Stp (fun _ => False) bb C w C w.drew := Stp.of (l := []) (Turned.refl [] w).drew (by simp)
  have hFd : Fit C w.drew bb := hF.of (Turned.refl [] w).drew
  have hBd : BK w.drew bb f := hB.keep (Turned.refl [] w).drew (by simp)
  have hOd := hO.step hF hSd (fun _ => .inl (fun h => h)) (fun _ _ => rfl)
  have eR : ∃ a n c, f 10 = .slice a n c := Row.slice hOd.rD.1
  have q_0 := hBd.cell (i := 10) (by omega)
  obtain ⟨v, wo, hr, hrow, honto⟩ := run_onto1 (P := Tryz.prog) (w := (w.drew.alloc (.cells #[(vi z)] 3))) 3 29 29 (.int .i64 0) 8 und_ints info_int rfl (by first | decide | nofun) _ _ (hOd.rD.1.alloc _) w.drew.heap.size (vi z) (blk_new _ _) rfl hlen
  have hvs := Row.slice hrow
  have hBt : BK (w.drew.alloc (.cells #[(vi z)] 3)) bb f := hBd.keep ((Turned.refl [] _).alloc _) (by simp)
  have hBo : BK wo bb f := onto_bk hFd hBt hOd.rD.2 (by simp) honto
  have q_t := hBt.cell (i := 10) (by omega)
  have q_o := hBo.cell (i := 10) (by omega)
  have z_o := hBo.froz 10
  obtain ⟨C1, hF1, hS1, hB1, hO1⟩ := hOd.push6 hFd hBd (by first | decide | nofun) ((Turned.refl [] _).alloc _) honto hrow
  have hT1 : Stp (fun x => x = (1, Tg.tD)) bb C w C1 (wo.setCell ⟨bb, 10, none⟩ v) := (hSd.mono (fun _ h => h.elim)).trans (hS1)
  have hlt : (k : Int) < (m : Int) := by omega
  have qk : (w.drew).cell? ⟨g, k, none⟩ = some (vi z) := hcell
  refine wp_region_chain (by kernel_rfl) [some 97, some 98, some 99, some 100, some 101, some 102, some 103, some 104, some 105, some 106, some 107, some 108, some 109, none] (fun kk => match kk with
      | 0 => pv bb 0
      | 1 => pv bb 0
      | 2 => pv bb 0
      | 3 => pv bb 10
      | 4 => f 10
      | 5 => Value.slice (some ⟨g, 0, none⟩) m rc
      | 6 => vi (k : Nat)
      | 7 => pv g k
      | 8 => (vi z)
      | 9 => Value.slice (some ⟨w.drew.heap.size, 0, none⟩) 1 1
      | 10 => v
      | 11 => pv bb 0
      | 12 => pv bb 10
      | 13 => undef
      | _ => undef) (by rw [hs]; kernel_rfl) [9, 10, 13] (fun jj => match jj with
      | 0 => w.drew
      | 1 => (w.drew.alloc (.cells #[(vi z)] 3))
      | 2 => wo
      | _ => wo.setCell ⟨bb, 10, none⟩ v) rfl (by first | decide | nofun) (by decide +kernel) ?_ ?_ ?_
  · intro kk gg bq h
    exact (no_guard (by kernel_rfl) h).elim
  · intro kk hk _ o ac wa wb K ho hd _ hoff hv hL hK
    rcases (by simp at hk; omega : kk = 0 ∨ kk = 1 ∨ kk = 2 ∨ kk = 3 ∨ kk = 4 ∨ kk = 5 ∨ kk = 6 ∨ kk = 7 ∨ kk = 8 ∨ kk = 9 ∨ kk = 10 ∨ kk = 11 ∨ kk = 12 ∨ kk = 13) with rfl | rfl | rfl | rfl | rfl | rfl | rfl | rfl | rfl | rfl | rfl | rfl | rfl | rfl
    · obtain ⟨rfl, jw, hjw, rfl, hjR⟩ := hL.off (by first | decide | nofun)
      exact l_val hd ((x_move (op_is rfl ho)).trans (by rw [(hoff 0 (by first | decide | nofun)).trans x0]; rfl)) hK
    · obtain ⟨rfl, jw, hjw, rfl, hjR⟩ := hL.off (by first | decide | nofun)
      exact l_val hd ((x_move (op_is rfl ho)).trans (by rw [(hoff 0 (by first | decide | nofun)).trans x0]; rfl)) hK
    · obtain ⟨rfl, jw, hjw, rfl, hjR⟩ := hL.off (by first | decide | nofun)
      exact l_val hd (x_nil (op_is rfl ho) (hv 1 98 rfl (by kernel_rfl))) hK
    · obtain ⟨rfl, jw, hjw, rfl, hjR⟩ := hL.off (by first | decide | nofun)
      exact l_val hd (x_field (op_is rfl ho) (by rw [hv 2 99 rfl (by kernel_rfl)]; unfold pv; go_simp)) hK
    · obtain ⟨rfl, jw, hjw, rfl, hjR⟩ := hL.off (by first | decide | nofun)
      have hj := hjR 2 13 rfl (by decide +kernel)
      rcases (by omega : jw = 0 ∨ jw = 1 ∨ jw = 2) with rfl | rfl | rfl
      · exact l_val hd (x_load (op_is rfl ho) (by rw [hv 3 100 rfl (by kernel_rfl)]; exact ld_intso eR q_0)) hK
      · exact l_val hd (x_load (op_is rfl ho) (by rw [hv 3 100 rfl (by kernel_rfl)]; exact ld_intso eR q_t)) hK
      · exact l_val hd (x_load (op_is rfl ho) (by rw [hv 3 100 rfl (by kernel_rfl)]; exact ld_intso eR q_o)) hK
    · obtain ⟨rfl, jw, hjw, rfl, hjR⟩ := hL.off (by first | decide | nofun)
      exact l_val hd ((x_move (op_is rfl ho)).trans (by rw [(hoff 5 (by first | decide | nofun)).trans xr_]; rfl)) hK
    · obtain ⟨rfl, jw, hjw, rfl, hjR⟩ := hL.off (by first | decide | nofun)
      exact l_val hd ((x_move (op_is rfl ho)).trans (by rw [(hoff 6 (by first | decide | nofun)).trans xk]; rfl)) hK
    · obtain ⟨rfl, jw, hjw, rfl, hjR⟩ := hL.off (by first | decide | nofun)
      exact l_val hd (x_index (op_is rfl ho) (by rw [hv 5 102 rfl (by kernel_rfl), hv 6 103 rfl (by kernel_rfl)]; exact idx_ints hlt)) hK
    · obtain ⟨rfl, jw, hjw, rfl, hjR⟩ := hL.off (by first | decide | nofun)
      have hj := hjR 0 9 rfl (by decide +kernel)
      obtain rfl : jw = 0 := by omega
      exact l_val hd (x_load (op_is rfl ho) (by rw [hv 7 104 rfl (by kernel_rfl)]; exact ld_int qk)) hK
    · obtain ⟨rfl, rfl⟩ := hL.at_ (by first | decide | nofun) (j := 0) rfl
      exact l_val hd (x_bslice (op_is rfl ho) (by simp only [List.map_toArray, List.map_cons, List.map_nil, hv 8 105 rfl (by kernel_rfl)]) (bs_int _ _)) hK
    · obtain ⟨rfl, rfl⟩ := hL.at_ (by first | decide | nofun) (j := 1) rfl
      exact l_val hd (x_append (op_is rfl ho) (ty_is rfl ho) (hv 4 101 rfl (by kernel_rfl)) (hv 9 106 rfl (by kernel_rfl)) hr) hK
    · obtain ⟨rfl, jw, hjw, rfl, hjR⟩ := hL.off (by first | decide | nofun)
      exact l_val hd (x_nil (op_is rfl ho) (hv 0 97 rfl (by kernel_rfl))) hK
    · obtain ⟨rfl, jw, hjw, rfl, hjR⟩ := hL.off (by first | decide | nofun)
      exact l_val hd (x_field (op_is rfl ho) (by rw [hv 11 108 rfl (by kernel_rfl)]; unfold pv; go_simp)) hK
    · obtain ⟨rfl, rfl⟩ := hL.at_ (by first | decide | nofun) (j := 2) rfl
      exact l_skip hd (x_store (op_is rfl ho) (by rw [hv 12 109 rfl (by kernel_rfl), hv 10 107 rfl (by kernel_rfl)]; exact st_intso hvs q_o z_o)) hK
  · intro a1 g1 g2 g3 g4
    exact hK a1 _ C1 v g1 g2 (fun s hs' => ev_same (g3 s (not_low hs' (by first | decide | nofun)))) hF1 hT1 hB1 hO1
set_option maxRecDepth 100000 in
set_option maxHeartbeats 1600000 in
theorem markInts_r21 {K : Act → World → Prop} {Q : Exit → Act → World → Prop} {a : Act} {w : World} {bb : Nat} {C : Own} {f : Nat → Value} {xo xt xw xn xf xm xd xr : List Value} {y : Value} (hs : a.tmps.size = 188) (x0 : a.eval (.tmp 0) = pv bb 0) (xy : a.eval (.tmp 7) = y) (hy : ∃ sa sn sc, y = .slice sa sn sc) (hF : Fit C w bb) (hB : BK w bb f) (hO : KOut C w kcInts f xo xt xw xn xf xm xd xr) (hlen : xo.length ≤ 1000000)
    (hK : ∀ a' w' C' v, a'.tmps.size = a.tmps.size → a'.defers = a.defers → (∀ s : Nat, s < 10 → a'.eval (.tmp s) = a.eval (.tmp s)) → Fit C' w' bb → Stp (fun x => x = (1, .tO)) bb C w C' w' → BK w' bb (upd f 4 v) → KOut C' w' kcInts (upd f 4 v) (xo ++ [y]) xt xw xn xf xm xd xr → K a' w') :
    (Code.region 21 (opsOf 21 Tryz.f139.body) false).wp Tryz.prog (Exit.then K Q) a w := by
  have eR : ∃ a n c, f 4 = .slice a n c := Row.slice hO.rO.1
  have q_0 := hB.cell (i := 4) (by omega)
  obtain ⟨v, wo, hr, hrow, honto⟩ := run_onto1 (P := Tryz.prog) (w := (w.alloc (.cells #[y] 29))) 29 28 28 (.slice none 0 0) 24 Ints_lund Ints_linfo rfl (by first | decide | nofun) _ _ (hO.rO.1.alloc _) w.heap.size y (blk_new _ _) (slice_one hy) hlen
  have hvs := Row.slice hrow
  have hBt : BK (w.alloc (.cells #[y] 29)) bb f := hB.keep ((Turned.refl [] _).alloc _) (by simp)
  have hBo : BK wo bb f := onto_bk hF hBt hO.rO.2 (by simp) honto
  have q_t := hBt.cell (i := 4) (by omega)
  have q_o := hBo.cell (i := 4) (by omega)
  have z_o := hBo.froz 4
  obtain ⟨C1, hF1, hS1, hB1, hO1⟩ := hO.push0 hF hB (by first | decide | nofun) ((Turned.refl [] _).alloc _) honto hrow
  have hT1 : Stp (fun x => x = (1, Tg.tO)) bb C w C1 (wo.setCell ⟨bb, 4, none⟩ v) := hS1
  refine wp_region_line [some 146, some 147, some 148, some 149, some 150, some 151, some 152, some 153, some 154, some 155, none] (fun kk => match kk with
      | 0 => pv bb 0
      | 1 => pv bb 0
      | 2 => pv bb 0
      | 3 => pv bb 4
      | 4 => f 4
      | 5 => y
      | 6 => Value.slice (some ⟨w.heap.size, 0, none⟩) 1 1
      | 7 => v
      | 8 => pv bb 0
      | 9 => pv bb 4
      | 10 => undef
      | _ => undef) (by rw [hs]; kernel_rfl) [6, 7, 10] (fun jj => match jj with
      | 0 => w
      | 1 => (w.alloc (.cells #[y] 29))
      | 2 => wo
      | _ => wo.setCell ⟨bb, 4, none⟩ v) rfl (by first | decide | nofun) (by decide +kernel) ?_ ?_ ?_
  · intro kk gg bq h
    exact (no_guard (by kernel_rfl) h).elim
  · intro kk hk _ o ac wa wb K ho hd _ hoff hv hL hK
    rcases (by simp at hk; omega : kk = 0 ∨ kk = 1 ∨ kk = 2 ∨ kk = 3 ∨ kk = 4 ∨ kk = 5 ∨ kk = 6 ∨ kk = 7 ∨ kk = 8 ∨ kk = 9 ∨ kk = 10) with rfl | rfl | rfl | rfl | rfl | rfl | rfl | rfl | rfl | rfl | rfl
    · obtain ⟨rfl, jw, hjw, rfl, hjR⟩ := hL.off (by first | decide | nofun)
      exact l_val hd ((x_move (op_is rfl ho)).trans (by rw [(hoff 0 (by first | decide | nofun)).trans x0]; rfl)) hK
    · obtain ⟨rfl, jw, hjw, rfl, hjR⟩ := hL.off (by first | decide | nofun)
      exact l_val hd ((x_move (op_is rfl ho)).trans (by rw [(hoff 0 (by first | decide | nofun)).trans x0]; rfl)) hK
    · obtain ⟨rfl, jw, hjw, rfl, hjR⟩ := hL.off (by first | decide | nofun)
      exact l_val hd (x_nil (op_is rfl ho) (hv 1 147 rfl (by kernel_rfl))) hK
    · obtain ⟨rfl, jw, hjw, rfl, hjR⟩ := hL.off (by first | decide | nofun)
      exact l_val hd (x_field (op_is rfl ho) (by rw [hv 2 148 rfl (by kernel_rfl)]; unfold pv; go_simp)) hK
    · obtain ⟨rfl, jw, hjw, rfl, hjR⟩ := hL.off (by first | decide | nofun)
      have hj := hjR 2 10 rfl (by first | decide | nofun)
      rcases (by omega : jw = 0 ∨ jw = 1 ∨ jw = 2) with rfl | rfl | rfl
      · exact l_val hd (x_load (op_is rfl ho) (by rw [hv 3 149 rfl (by kernel_rfl)]; exact Ints_ldo eR q_0)) hK
      · exact l_val hd (x_load (op_is rfl ho) (by rw [hv 3 149 rfl (by kernel_rfl)]; exact Ints_ldo eR q_t)) hK
      · exact l_val hd (x_load (op_is rfl ho) (by rw [hv 3 149 rfl (by kernel_rfl)]; exact Ints_ldo eR q_o)) hK
    · obtain ⟨rfl, jw, hjw, rfl, hjR⟩ := hL.off (by first | decide | nofun)
      exact l_val hd ((x_move (op_is rfl ho)).trans (by rw [(hoff 7 (by first | decide | nofun)).trans xy]; rfl)) hK
    · obtain ⟨rfl, rfl⟩ := hL.at_ (by first | decide | nofun) (j := 0) rfl
      exact l_val hd (x_bslice (op_is rfl ho) (by simp only [List.map_toArray, List.map_cons, List.map_nil, hv 5 151 rfl (by kernel_rfl)]) (Ints_bs1o _ hy)) hK
    · obtain ⟨rfl, rfl⟩ := hL.at_ (by first | decide | nofun) (j := 1) rfl
      exact l_val hd (x_append (op_is rfl ho) (ty_is rfl ho) (hv 4 150 rfl (by kernel_rfl)) (hv 6 152 rfl (by kernel_rfl)) hr) hK
    · obtain ⟨rfl, jw, hjw, rfl, hjR⟩ := hL.off (by first | decide | nofun)
      exact l_val hd (x_nil (op_is rfl ho) (hv 0 146 rfl (by kernel_rfl))) hK
    · obtain ⟨rfl, jw, hjw, rfl, hjR⟩ := hL.off (by first | decide | nofun)
      exact l_val hd (x_field (op_is rfl ho) (by rw [hv 8 154 rfl (by kernel_rfl)]; unfold pv; go_simp)) hK
    · obtain ⟨rfl, rfl⟩ := hL.at_ (by first | decide | nofun) (j := 2) rfl
      exact l_skip hd (x_store (op_is rfl ho) (by rw [hv 9 155 rfl (by kernel_rfl), hv 7 153 rfl (by kernel_rfl)]; exact Ints_sto hvs q_o z_o)) hK
  · intro a1 g1 g2 g3 g4
    exact hK a1 _ C1 v g1 g2 (fun s hs' => ev_same (g3 s (not_low hs' (by first | decide | nofun)))) hF1 hT1 hB1 hO1
set_option maxRecDepth 100000 in
set_option maxHeartbeats 1600000 in
theorem markInts_r22 {K : Act → World → Prop} {Q : Exit → Act → World → Prop} {a : Act} {w : World} {bb : Nat} {C : Own} {f : Nat → Value} {xo xt xw xn xf xm xd xr : List Value} {y : Value} {n : Nat} {zs : List Int} (hs : a.tmps.size = 188) (x0 : a.eval (.tmp 0) = pv bb 0) (xy : a.eval (.tmp 7) = y) (hl : IRow w 3 1 y n zs) (hn : n ≤ 10000) (hF : Fit C w bb) (hB : BK w bb f) (hO : KOut C w kcInts f xo xt xw xn xf xm xd xr) (hlen : xt.length ≤ 1000000)
    (hK : ∀ a' w' C' v nt, a'.tmps.size = a.tmps.size → a'.defers = a.defers → (∀ s : Nat, s < 10 → a'.eval (.tmp s) = a.eval (.tmp s)) → Fit C' w' bb → Stp (fun x => x = (1, .tT)) bb C w C' w' → BK w' bb (upd f 5 v) → KOut C' w' kcInts (upd f 5 v) xo (xt ++ [nt]) xw xn xf xm xd xr → IRow w' 3 1 nt n zs → Has C' 1 .kept nt → K a' w') :
    (Code.region 22 (opsOf 22 Tryz.f139.body) true).wp Tryz.prog (Exit.then K Q) a w := by
  have hSd : Stp (fun _ => False) bb C w C w.drew := Stp.of (l := []) (Turned.refl [] w).drew (by simp)
  have hFd : Fit C w.drew bb := hF.of (Turned.refl [] w).drew
  have hBd : BK w.drew bb f := hB.keep (Turned.refl [] w).drew (by simp)
  have hOd := hO.step hF hSd (fun _ => .inl (fun h => h)) (fun _ _ => rfl)
  have eR : ∃ a n c, f 5 = .slice a n c := Row.slice hOd.rT.1
  have q_0 := hBd.cell (i := 5) (by omega)
  obtain ⟨nt, wc, hcr, hcw, hct, -⟩ := run_copy (P := Tryz.prog) (w := (w.drew.alloc (.cells #[] 3))) w.drew.heap.size 3 29 29 (.int .i64 0) 1 8 Ints_und Ints_info rfl (by first | decide | nofun) w.drew.heap.size (blk_new _ _) (Nat.le_refl _) y n (zs.map vi) ((hl.drew).alloc _) IRow.one (by unfold maxLen; omega) (by omega)
  have hcT : Turned [] w.drew wc := ((Turned.refl [] _).alloc _).inner hct (by intro x hx; exact .inr (by simp at hx; rw [hx]; exact Nat.le_refl _))
  have hnv := Row.slice hcw
  obtain ⟨hFc, hSc, hkc⟩ := own_new (κ := 1) (t := .kept) hFd hcT hcw
  have hBc : BK wc bb f := hBd.keep hcT (by simp)
  have hOc := hOd.step hFd hSc (fun _ => .inl (fun h => h)) (fun _ _ => rfl)
  have hntr : IRow wc 3 1 nt n zs := Row.low hcw
  have q_1 := (hBd.keep ((Turned.refl [] _).alloc (.cells #[] 3)) (by simp)).cell (i := 5) (by omega)
  have q_2 := hBc.cell (i := 5) (by omega)
  obtain ⟨v, wo, hr, hrow, honto⟩ := run_onto1 (P := Tryz.prog) (w := (wc.alloc (.cells #[nt] 29))) 29 28 28 (.slice none 0 0) 24 Ints_lund Ints_linfo rfl (by first | decide | nofun) _ _ (hOc.rT.1.alloc _) wc.heap.size nt (blk_new _ _) (slice_one hnv) hlen
  have hvs := Row.slice hrow
  have hBt : BK (wc.alloc (.cells #[nt] 29)) bb f := hBc.keep ((Turned.refl [] _).alloc _) (by simp)
  have hBo : BK wo bb f := onto_bk hFc hBt hOc.rT.2 (by simp) honto
  have q_t := hBt.cell (i := 5) (by omega)
  have q_o := hBo.cell (i := 5) (by omega)
  have z_o := hBo.froz 5
  obtain ⟨C1, hF1, hS1, hB1, hO1⟩ := hOc.push1 hFc hBc (by first | decide | nofun) ((Turned.refl [] _).alloc _) honto hrow
  have hnt1 := hS1.row hFc hntr hkc (by simp) (by simp)
  have hnk1 := hS1.has hFc hkc
  have hT1 : Stp (fun x => x = (1, Tg.tT)) bb C w C1 (wo.setCell ⟨bb, 5, none⟩ v) := (hSd.mono (fun _ h => h.elim)).trans ((hSc.mono (fun _ h => h.elim)).trans hS1)
  refine wp_region_chain (by kernel_rfl) [some 156, some 157, some 158, some 159, some 160, some 161, some 162, some 163, some 164, some 165, some 166, some 167, none] (fun kk => match kk with
      | 0 => pv bb 0
      | 1 => pv bb 0
      | 2 => pv bb 0
      | 3 => pv bb 5
      | 4 => f 5
      | 5 => Value.slice (some ⟨w.drew.heap.size, 0, none⟩) 0 0
      | 6 => y
      | 7 => nt
      | 8 => Value.slice (some ⟨wc.heap.size, 0, none⟩) 1 1
      | 9 => v
      | 10 => pv bb 0
      | 11 => pv bb 5
      | 12 => undef
      | _ => undef) (by rw [hs]; kernel_rfl) [5, 7, 8, 9, 12] (fun jj => match jj with
      | 0 => w.drew
      | 1 => (w.drew.alloc (.cells #[] 3))
      | 2 => wc
      | 3 => (wc.alloc (.cells #[nt] 29))
      | 4 => wo
      | _ => wo.setCell ⟨bb, 5, none⟩ v) rfl (by first | decide | nofun) (by decide +kernel) ?_ ?_ ?_
  · intro kk gg bq h
    exact (no_guard (by kernel_rfl) h).elim
  · intro kk hk _ o ac wa wb K ho hd _ hoff hv hL hK
    rcases (by simp at hk; omega : kk = 0 ∨ kk = 1 ∨ kk = 2 ∨ kk = 3 ∨ kk = 4 ∨ kk = 5 ∨ kk = 6 ∨ kk = 7 ∨ kk = 8 ∨ kk = 9 ∨ kk = 10 ∨ kk = 11 ∨ kk = 12) with rfl | rfl | rfl | rfl | rfl | rfl | rfl | rfl | rfl | rfl | rfl | rfl | rfl
    · obtain ⟨rfl, jw, hjw, rfl, hjR⟩ := hL.off (by first | decide | nofun)
      exact l_val hd ((x_move (op_is rfl ho)).trans (by rw [(hoff 0 (by first | decide | nofun)).trans x0]; rfl)) hK
    · obtain ⟨rfl, jw, hjw, rfl, hjR⟩ := hL.off (by first | decide | nofun)
      exact l_val hd ((x_move (op_is rfl ho)).trans (by rw [(hoff 0 (by first | decide | nofun)).trans x0]; rfl)) hK
    · obtain ⟨rfl, jw, hjw, rfl, hjR⟩ := hL.off (by first | decide | nofun)
      exact l_val hd (x_nil (op_is rfl ho) (hv 1 157 rfl (by kernel_rfl))) hK
    · obtain ⟨rfl, jw, hjw, rfl, hjR⟩ := hL.off (by first | decide | nofun)
      exact l_val hd (x_field (op_is rfl ho) (by rw [hv 2 158 rfl (by kernel_rfl)]; unfold pv; go_simp)) hK
    · obtain ⟨rfl, jw, hjw, rfl, hjR⟩ := hL.off (by first | decide | nofun)
      have hj := hjR 4 12 rfl (by decide +kernel)
      rcases (by omega : jw = 0 ∨ jw = 1 ∨ jw = 2 ∨ jw = 3 ∨ jw = 4) with rfl | rfl | rfl | rfl | rfl
      · exact l_val hd (x_load (op_is rfl ho) (by rw [hv 3 159 rfl (by kernel_rfl)]; exact Ints_ldo eR q_0)) hK
      · exact l_val hd (x_load (op_is rfl ho) (by rw [hv 3 159 rfl (by kernel_rfl)]; exact Ints_ldo eR q_1)) hK
      · exact l_val hd (x_load (op_is rfl ho) (by rw [hv 3 159 rfl (by kernel_rfl)]; exact Ints_ldo eR q_2)) hK
      · exact l_val hd (x_load (op_is rfl ho) (by rw [hv 3 159 rfl (by kernel_rfl)]; exact Ints_ldo eR q_t)) hK
      · exact l_val hd (x_load (op_is rfl ho) (by rw [hv 3 159 rfl (by kernel_rfl)]; exact Ints_ldo eR q_o)) hK
    · obtain ⟨rfl, rfl⟩ := hL.at_ (by first | decide | nofun) (j := 0) rfl
      exact l_val hd (x_bslice (qs := #[]) (op_is rfl ho) (by simp) (Ints_bs0 _)) hK
    · obtain ⟨rfl, jw, hjw, rfl, hjR⟩ := hL.off (by first | decide | nofun)
      exact l_val hd ((x_move (op_is rfl ho)).trans (by rw [(hoff 7 (by first | decide | nofun)).trans xy]; rfl)) hK
    · obtain ⟨rfl, rfl⟩ := hL.at_ (by first | decide | nofun) (j := 1) rfl
      exact l_val hd (x_append (op_is rfl ho) (ty_is rfl ho) (hv 5 161 rfl (by kernel_rfl)) (hv 6 162 rfl (by kernel_rfl)) hcr) hK
    · obtain ⟨rfl, rfl⟩ := hL.at_ (by first | decide | nofun) (j := 2) rfl
      exact l_val hd (x_bslice (op_is rfl ho) (by simp only [List.map_toArray, List.map_cons, List.map_nil, hv 7 163 rfl (by kernel_rfl)]) (Ints_bs1o _ hnv)) hK
    · obtain ⟨rfl, rfl⟩ := hL.at_ (by first | decide | nofun) (j := 3) rfl
      exact l_val hd (x_append (op_is rfl ho) (ty_is rfl ho) (hv 4 160 rfl (by kernel_rfl)) (hv 8 164 rfl (by kernel_rfl)) hr) hK
    · obtain ⟨rfl, jw, hjw, rfl, hjR⟩ := hL.off (by first | decide | nofun)
      exact l_val hd (x_nil (op_is rfl ho) (hv 0 156 rfl (by kernel_rfl))) hK
    · obtain ⟨rfl, jw, hjw, rfl, hjR⟩ := hL.off (by first | decide | nofun)
      exact l_val hd (x_field (op_is rfl ho) (by rw [hv 10 166 rfl (by kernel_rfl)]; unfold pv; go_simp)) hK
    · obtain ⟨rfl, rfl⟩ := hL.at_ (by first | decide | nofun) (j := 4) rfl
      exact l_skip hd (x_store (op_is rfl ho) (by rw [hv 11 167 rfl (by kernel_rfl), hv 9 165 rfl (by kernel_rfl)]; exact Ints_sto hvs q_o z_o)) hK
  · intro a1 g1 g2 g3 g4
    exact hK a1 _ C1 v nt g1 g2 (fun s hs' => ev_same (g3 s (not_low hs' (by first | decide | nofun)))) hF1 hT1 hB1 hO1 hnt1 hnk1
set_option maxRecDepth 100000 in
set_option maxHeartbeats 1600000 in
theorem markInts_r23 {K : Act → World → Prop} {Q : Exit → Act → World → Prop} {a : Act} {w : World} {bb : Nat} {C : Own} {f : Nat → Value} {xo xt xw xn xf xm xd xr : List Value} {y : Value} (hs : a.tmps.size = 188) (x0 : a.eval (.tmp 0) = pv bb 0) (xy : a.eval (.tmp 7) = y) (hy : ∃ sa sn sc, y = .slice sa sn sc) (hF : Fit C w bb) (hB : BK w bb f) (hO : KOut C w kcInts f xo xt xw xn xf xm xd xr) (hlen : xf.length ≤ 1000000)
    (hK : ∀ a' w' C' v, a'.tmps.size = a.tmps.size → a'.defers = a.defers → (∀ s : Nat, s < 10 → a'.eval (.tmp s) = a.eval (.tmp s)) → Fit C' w' bb → Stp (fun x => x = (1, .tF)) bb C w C' w' → BK w' bb (upd f 8 v) → KOut C' w' kcInts (upd f 8 v) xo xt xw xn (xf ++ [y]) xm xd xr → K a' w') :
    (Code.region 23 (opsOf 23 Tryz.f139.body) false).wp Tryz.prog (Exit.then K Q) a w := by
  have eR : ∃ a n c, f 8 = .slice a n c := Row.slice hO.rF.1
  have q_0 := hB.cell (i := 8) (by omega)
  obtain ⟨v, wo, hr, hrow, honto⟩ := run_onto1 (P := Tryz.prog) (w := (w.alloc (.cells #[y] 29))) 29 28 28 (.slice none 0 0) 24 Ints_lund Ints_linfo rfl (by first | decide | nofun) _ _ (hO.rF.1.alloc _) w.heap.size y (blk_new _ _) (slice_one hy) hlen
  have hvs := Row.slice hrow
  have hBt : BK (w.alloc (.cells #[y] 29)) bb f := hB.keep ((Turned.refl [] _).alloc _) (by simp)
  have hBo : BK wo bb f := onto_bk hF hBt hO.rF.2 (by simp) honto
  have q_t := hBt.cell (i := 8) (by omega)
  have q_o := hBo.cell (i := 8) (by omega)
  have z_o := hBo.froz 8
  obtain ⟨C1, hF1, hS1, hB1, hO1⟩ := hO.push4 hF hB (by first | decide | nofun) ((Turned.refl [] _).alloc _) honto hrow
  have hT1 : Stp (fun x => x = (1, Tg.tF)) bb C w C1 (wo.setCell ⟨bb, 8, none⟩ v) := hS1
  refine wp_region_line [some 168, some 169, some 170, some 171, some 172, some 173, some 174, some 175, some 176, some 177, none] (fun kk => match kk with
      | 0 => pv bb 0
      | 1 => pv bb 0
      | 2 => pv bb 0
      | 3 => pv bb 8
      | 4 => f 8
      | 5 => y
      | 6 => Value.slice (some ⟨w.heap.size, 0, none⟩) 1 1
      | 7 => v
      | 8 => pv bb 0
      | 9 => pv bb 8
      | 10 => undef
      | _ => undef) (by rw [hs]; kernel_rfl) [6, 7, 10] (fun jj => match jj with
      | 0 => w
      | 1 => (w.alloc (.cells #[y] 29))
      | 2 => wo
      | _ => wo.setCell ⟨bb, 8, none⟩ v) rfl (by first | decide | nofun) (by decide +kernel) ?_ ?_ ?_
  · intro kk gg bq h
    exact (no_guard (by kernel_rfl) h).elim
  · intro kk hk _ o ac wa wb K ho hd _ hoff hv hL hK
    rcases (by simp at hk; omega : kk = 0 ∨ kk = 1 ∨ kk = 2 ∨ kk = 3 ∨ kk = 4 ∨ kk = 5 ∨ kk = 6 ∨ kk = 7 ∨ kk = 8 ∨ kk = 9 ∨ kk = 10) with rfl | rfl | rfl | rfl | rfl | rfl | rfl | rfl | rfl | rfl | rfl
    · obtain ⟨rfl, jw, hjw, rfl, hjR⟩ := hL.off (by first | decide | nofun)
      exact l_val hd ((x_move (op_is rfl ho)).trans (by rw [(hoff 0 (by first | decide | nofun)).trans x0]; rfl)) hK
    · obtain ⟨rfl, jw, hjw, rfl, hjR⟩ := hL.off (by first | decide | nofun)
      exact l_val hd ((x_move (op_is rfl ho)).trans (by rw [(hoff 0 (by first | decide | nofun)).trans x0]; rfl)) hK
    · obtain ⟨rfl, jw, hjw, rfl, hjR⟩ := hL.off (by first | decide | nofun)
      exact l_val hd (x_nil (op_is rfl ho) (hv 1 169 rfl (by kernel_rfl))) hK
    · obtain ⟨rfl, jw, hjw, rfl, hjR⟩ := hL.off (by first | decide | nofun)
      exact l_val hd (x_field (op_is rfl ho) (by rw [hv 2 170 rfl (by kernel_rfl)]; unfold pv; go_simp)) hK
    · obtain ⟨rfl, jw, hjw, rfl, hjR⟩ := hL.off (by first | decide | nofun)
      have hj := hjR 2 10 rfl (by first | decide | nofun)
      rcases (by omega : jw = 0 ∨ jw = 1 ∨ jw = 2) with rfl | rfl | rfl
      · exact l_val hd (x_load (op_is rfl ho) (by rw [hv 3 171 rfl (by kernel_rfl)]; exact Ints_ldo eR q_0)) hK
      · exact l_val hd (x_load (op_is rfl ho) (by rw [hv 3 171 rfl (by kernel_rfl)]; exact Ints_ldo eR q_t)) hK
      · exact l_val hd (x_load (op_is rfl ho) (by rw [hv 3 171 rfl (by kernel_rfl)]; exact Ints_ldo eR q_o)) hK
    · obtain ⟨rfl, jw, hjw, rfl, hjR⟩ := hL.off (by first | decide | nofun)
      exact l_val hd ((x_move (op_is rfl ho)).trans (by rw [(hoff 7 (by first | decide | nofun)).trans xy]; rfl)) hK
    · obtain ⟨rfl, rfl⟩ := hL.at_ (by first | decide | nofun) (j := 0) rfl
      exact l_val hd (x_bslice (op_is rfl ho) (by simp only [List.map_toArray, List.map_cons, List.map_nil, hv 5 173 rfl (by kernel_rfl)]) (Ints_bs1o _ hy)) hK
    · obtain ⟨rfl, rfl⟩ := hL.at_ (by first | decide | nofun) (j := 1) rfl
      exact l_val hd (x_append (op_is rfl ho) (ty_is rfl ho) (hv 4 172 rfl (by kernel_rfl)) (hv 6 174 rfl (by kernel_rfl)) hr) hK
    · obtain ⟨rfl, jw, hjw, rfl, hjR⟩ := hL.off (by first | decide | nofun)
      exact l_val hd (x_nil (op_is rfl ho) (hv 0 168 rfl (by kernel_rfl))) hK
    · obtain ⟨rfl, jw, hjw, rfl, hjR⟩ := hL.off (by first | decide | nofun)
      exact l_val hd (x_field (op_is rfl ho) (by rw [hv 8 176 rfl (by kernel_rfl)]; unfold pv; go_simp)) hK
    · obtain ⟨rfl, rfl⟩ := hL.at_ (by first | decide | nofun) (j := 2) rfl
      exact l_skip hd (x_store (op_is rfl ho) (by rw [hv 9 177 rfl (by kernel_rfl), hv 7 175 rfl (by kernel_rfl)]; exact Ints_sto hvs q_o z_o)) hK
  · intro a1 g1 g2 g3 g4
    exact hK a1 _ C1 v g1 g2 (fun s hs' => ev_same (g3 s (not_low hs' (by first | decide | nofun)))) hF1 hT1 hB1 hO1
set_option maxRecDepth 100000 in
set_option maxHeartbeats 1600000 in
theorem markInts_r24 {K : Act → World → Prop} {Q : Exit → Act → World → Prop} {a : Act} {w : World} {bb : Nat} {C : Own} {f : Nat → Value} {xo xt xw xn xf xm xd xr : List Value} {z : Int} (hs : a.tmps.size = 188) (x0 : a.eval (.tmp 0) = pv bb 0) (xy : a.eval (.tmp 8) = vi z) (hF : Fit C w bb) (hB : BK w bb f) (hO : KOut C w kcInts f xo xt xw xn xf xm xd xr) (hlen : xr.length ≤ 1000000)
    (hK : ∀ a' w' C' v, a'.tmps.size = a.tmps.size → a'.defers = a.defers → (∀ s : Nat, s < 10 → a'.eval (.tmp s) = a.eval (.tmp s)) → Fit C' w' bb → Stp (fun x => x = (1, .tR)) bb C w C' w' → BK w' bb (upd f 11 v) → KOut C' w' kcInts (upd f 11 v) xo xt xw xn xf xm xd (xr ++ [(vi z)]) → K a' w') :
    (Code.region 24 (opsOf 24 Tryz.f139.body) false).wp Tryz.prog (Exit.then K Q) a w := by
  have eR : ∃ a n c, f 11 = .slice a n c := Row.slice hO.rR.1
  have q_0 := hB.cell (i := 11) (by omega)
  obtain ⟨v, wo, hr, hrow, honto⟩ := run_onto1 (P := Tryz.prog) (w := (w.alloc (.cells #[(vi z)] 3))) 3 29 29 (.int .i64 0) 8 und_ints info_int rfl (by first | decide | nofun) _ _ (hO.rR.1.alloc _) w.heap.size (vi z) (blk_new _ _) rfl hlen
  have hvs := Row.slice hrow
  have hBt : BK (w.alloc (.cells #[(vi z)] 3)) bb f := hB.keep ((Turned.refl [] _).alloc _) (by simp)
  have hBo : BK wo bb f := onto_bk hF hBt hO.rR.2 (by simp) honto
  have q_t := hBt.cell (i := 11) (by omega)
  have q_o := hBo.cell (i := 11) (by omega)
  have z_o := hBo.froz 11
  obtain ⟨C1, hF1, hS1, hB1, hO1⟩ := hO.push7 hF hB (by first | decide | nofun) ((Turned.refl [] _).alloc _) honto hrow
  have hT1 : Stp (fun x => x = (1, Tg.tR)) bb C w C1 (wo.setCell ⟨bb, 11, none⟩ v) := hS1
  refine wp_region_line [some 178, some 179, some 180, some 181, some 182, some 183, some 184, some 185, some 186, some 187, none] (fun kk => match kk with
      | 0 => pv bb 0
      | 1 => pv bb 0
      | 2 => pv bb 0
      | 3 => pv bb 11
      | 4 => f 11
      | 5 => vi z
      | 6 => Value.slice (some ⟨w.heap.size, 0, none⟩) 1 1
      | 7 => v
      | 8 => pv bb 0
      | 9 => pv bb 11
      | 10 => undef
      | _ => undef) (by rw [hs]; kernel_rfl) [6, 7, 10] (fun jj => match jj with
      | 0 => w
      | 1 => (w.alloc (.cells #[(vi z)] 3))
      | 2 => wo
      | _ => wo.setCell ⟨bb, 11, none⟩ v) rfl (by first | decide | nofun) (by decide +kernel) ?_ ?_ ?_
  · intro kk gg bq h
    exact (no_guard (by kernel_rfl) h).elim
  · intro kk hk _ o ac wa wb K ho hd _ hoff hv hL hK
    rcases (by simp at hk; omega : kk = 0 ∨ kk = 1 ∨ kk = 2 ∨ kk = 3 ∨ kk = 4 ∨ kk = 5 ∨ kk = 6 ∨ kk = 7 ∨ kk = 8 ∨ kk = 9 ∨ kk = 10) with rfl | rfl | rfl | rfl | rfl | rfl | rfl | rfl | rfl | rfl | rfl
    · obtain ⟨rfl, jw, hjw, rfl, hjR⟩ := hL.off (by first | decide | nofun)
      exact l_val hd ((x_move (op_is rfl ho)).trans (by rw [(hoff 0 (by first | decide | nofun)).trans x0]; rfl)) hK
    · obtain ⟨rfl, jw, hjw, rfl, hjR⟩ := hL.off (by first | decide | nofun)
      exact l_val hd ((x_move (op_is rfl ho)).trans (by rw [(hoff 0 (by first | decide | nofun)).trans x0]; rfl)) hK
    · obtain ⟨rfl, jw, hjw, rfl, hjR⟩ := hL.off (by first | decide | nofun)
      exact l_val hd (x_nil (op_is rfl ho) (hv 1 179 rfl (by kernel_rfl))) hK
    · obtain ⟨rfl, jw, hjw, rfl, hjR⟩ := hL.off (by first | decide | nofun)
      exact l_val hd (x_field (op_is rfl ho) (by rw [hv 2 180 rfl (by kernel_rfl)]; unfold pv; go_simp)) hK
    · obtain ⟨rfl, jw, hjw, rfl, hjR⟩ := hL.off (by first | decide | nofun)
      have hj := hjR 2 10 rfl (by first | decide | nofun)
      rcases (by omega : jw = 0 ∨ jw = 1 ∨ jw = 2) with rfl | rfl | rfl
      · exact l_val hd (x_load (op_is rfl ho) (by rw [hv 3 181 rfl (by kernel_rfl)]; exact ld_intso eR q_0)) hK
      · exact l_val hd (x_load (op_is rfl ho) (by rw [hv 3 181 rfl (by kernel_rfl)]; exact ld_intso eR q_t)) hK
      · exact l_val hd (x_load (op_is rfl ho) (by rw [hv 3 181 rfl (by kernel_rfl)]; exact ld_intso eR q_o)) hK
    · obtain ⟨rfl, jw, hjw, rfl, hjR⟩ := hL.off (by first | decide | nofun)
      exact l_val hd ((x_move (op_is rfl ho)).trans (by rw [(hoff 8 (by first | decide | nofun)).trans xy]; rfl)) hK
    · obtain ⟨rfl, rfl⟩ := hL.at_ (by first | decide | nofun) (j := 0) rfl
      exact l_val hd (x_bslice (op_is rfl ho) (by simp only [List.map_toArray, List.map_cons, List.map_nil, hv 5 183 rfl (by kernel_rfl)]) (bs_int _ _)) hK
    · obtain ⟨rfl, rfl⟩ := hL.at_ (by first | decide | nofun) (j := 1) rfl
      exact l_val hd (x_append (op_is rfl ho) (ty_is rfl ho) (hv 4 182 rfl (by kernel_rfl)) (hv 6 184 rfl (by kernel_rfl)) hr) hK
    · obtain ⟨rfl, jw, hjw, rfl, hjR⟩ := hL.off (by first | decide | nofun)
      exact l_val hd (x_nil (op_is rfl ho) (hv 0 178 rfl (by kernel_rfl))) hK
    · obtain ⟨rfl, jw, hjw, rfl, hjR⟩ := hL.off (by first | decide | nofun)
      exact l_val hd (x_field (op_is rfl ho) (by rw [hv 8 186 rfl (by kernel_rfl)]; unfold pv; go_simp)) hK
    · obtain ⟨rfl, rfl⟩ := hL.at_ (by first | decide | nofun) (j := 2) rfl
      exact l_skip hd (x_store (op_is rfl ho) (by rw [hv 9 187 rfl (by kernel_rfl), hv 7 185 rfl (by kernel_rfl)]; exact st_intso hvs q_o z_o)) hK
  · intro a1 g1 g2 g3 g4
    exact hK a1 _ C1 v g1 g2 (fun s hs' => ev_same (g3 s (not_low hs' (by first | decide | nofun)))) hF1 hT1 hB1 hO1
set_option maxRecDepth 100000 in
set_option maxHeartbeats 1600000 in
theorem growInts_r9 {K : Act → World → Prop} {Q : Exit → Act → World → Prop} {a : Act} {w : World} {bb : Nat} {C : Own} {f : Nat → Value} {xo xt xw xn xf xm xd xr : List Value} {y : Value} (hs : a.tmps.size = 69) (x0 : a.eval (.tmp 0) = pv bb 0) (xy : a.eval (.tmp 4) = y) (hy : ∃ sa sn sc, y = .slice sa sn sc) (hF : Fit C w bb) (hB : BK w bb f) (hO : KOut C w kcInts f xo xt xw xn xf xm xd xr) (hlen : xo.length ≤ 1000000)
    (hK : ∀ a' w' C' v, a'.tmps.size = a.tmps.size → a'.defers = a.defers → (∀ s : Nat, s < 6 → a'.eval (.tmp s) = a.eval (.tmp s)) → Fit C' w' bb → Stp (fun x => x = (1, .tO)) bb C w C' w' → BK w' bb (upd f 4 v) → KOut C' w' kcInts (upd f 4 v) (xo ++ [y]) xt xw xn xf xm xd xr → K a' w') :
    (Code.region 9 (opsOf 9 Tryz.f150.body) false).wp Tryz.prog (Exit.then K Q) a w := by
  have eR : ∃ a n c, f 4 = .slice a n c := Row.slice hO.rO.1
  have q_0 := hB.cell (i := 4) (by omega)
  obtain ⟨v, wo, hr, hrow, honto⟩ := run_onto1 (P := Tryz.prog) (w := (w.alloc (.cells #[y] 29))) 29 28 28 (.slice none 0 0) 24 Ints_lund Ints_linfo rfl (by first | decide | nofun) _ _ (hO.rO.1.alloc _) w.heap.size y (blk_new _ _) (slice_one hy) hlen
  have hvs := Row.slice hrow
  have hBt : BK (w.alloc (.cells #[y] 29)) bb f := hB.keep ((Turned.refl [] _).alloc _) (by simp)
  have hBo : BK wo bb f := onto_bk hF hBt hO.rO.2 (by simp) honto
  have q_t := hBt.cell (i := 4) (by omega)
  have q_o := hBo.cell (i := 4) (by omega)
  have z_o := hBo.froz 4
  obtain ⟨C1, hF1, hS1, hB1, hO1⟩ := hO.push0 hF hB (by first | decide | nofun) ((Turned.refl [] _).alloc _) honto hrow
  have hT1 : Stp (fun x => x = (1, Tg.tO)) bb C w C1 (wo.setCell ⟨bb, 4, none⟩ v) := hS1
  refine wp_region_line [some 41, some 42, some 43, some 44, some 45, some 46, some 47, some 48, some 49, some 50, none] (fun kk => match kk with
      | 0 => pv bb 0
      | 1 => pv bb 0
      | 2 => pv bb 0
      | 3 => pv bb 4
      | 4 => f 4
      | 5 => y
      | 6 => Value.slice (some ⟨w.heap.size, 0, none⟩) 1 1
      | 7 => v
      | 8 => pv bb 0
      | 9 => pv bb 4
      | 10 => undef
      | _ => undef) (by rw [hs]; kernel_rfl) [6, 7, 10] (fun jj => match jj with
      | 0 => w
      | 1 => (w.alloc (.cells #[y] 29))
      | 2 => wo
      | _ => wo.setCell ⟨bb, 4, none⟩ v) rfl (by first | decide | nofun) (by decide +kernel) ?_ ?_ ?_
  · intro kk gg bq h
    exact (no_guard (by kernel_rfl) h).elim
  · intro kk hk _ o ac wa wb K ho hd _ hoff hv hL hK
    rcases (by simp at hk; omega : kk = 0 ∨ kk = 1 ∨ kk = 2 ∨ kk = 3 ∨ kk = 4 ∨ kk = 5 ∨ kk = 6 ∨ kk = 7 ∨ kk = 8 ∨ kk = 9 ∨ kk = 10) with rfl | rfl | rfl | rfl | rfl | rfl | rfl | rfl | rfl | rfl | rfl
    · obtain ⟨rfl, jw, hjw, rfl, hjR⟩ := hL.off (by first | decide | nofun)
      exact l_val hd ((x_move (op_is rfl ho)).trans (by rw [(hoff 0 (by first | decide | nofun)).trans x0]; rfl)) hK
    · obtain ⟨rfl, jw, hjw, rfl, hjR⟩ := hL.off (by first | decide | nofun)
      exact l_val hd ((x_move (op_is rfl ho)).trans (by rw [(hoff 0 (by first | decide | nofun)).trans x0]; rfl)) hK
    · obtain ⟨rfl, jw, hjw, rfl, hjR⟩ := hL.off (by first | decide | nofun)
      exact l_val hd (x_nil (op_is rfl ho) (hv 1 42 rfl (by kernel_rfl))) hK
    · obtain ⟨rfl, jw, hjw, rfl, hjR⟩ := hL.off (by first | decide | nofun)
      exact l_val hd (x_field (op_is rfl ho) (by rw [hv 2 43 rfl (by kernel_rfl)]; unfold pv; go_simp)) hK
    · obtain ⟨rfl, jw, hjw, rfl, hjR⟩ := hL.off (by first | decide | nofun)
      have hj := hjR 2 10 rfl (by first | decide | nofun)
      rcases (by omega : jw = 0 ∨ jw = 1 ∨ jw = 2) with rfl | rfl | rfl
      · exact l_val hd (x_load (op_is rfl ho) (by rw [hv 3 44 rfl (by kernel_rfl)]; exact Ints_ldo eR q_0)) hK
      · exact l_val hd (x_load (op_is rfl ho) (by rw [hv 3 44 rfl (by kernel_rfl)]; exact Ints_ldo eR q_t)) hK
      · exact l_val hd (x_load (op_is rfl ho) (by rw [hv 3 44 rfl (by kernel_rfl)]; exact Ints_ldo eR q_o)) hK
    · obtain ⟨rfl, jw, hjw, rfl, hjR⟩ := hL.off (by first | decide | nofun)
      exact l_val hd ((x_move (op_is rfl ho)).trans (by rw [(hoff 4 (by first | decide | nofun)).trans xy]; rfl)) hK
    · obtain ⟨rfl, rfl⟩ := hL.at_ (by first | decide | nofun) (j := 0) rfl
      exact l_val hd (x_bslice (op_is rfl ho) (by simp only [List.map_toArray, List.map_cons, List.map_nil, hv 5 46 rfl (by kernel_rfl)]) (Ints_bs1o _ hy)) hK
    · obtain ⟨rfl, rfl⟩ := hL.at_ (by first | decide | nofun) (j := 1) rfl
      exact l_val hd (x_append (op_is rfl ho) (ty_is rfl ho) (hv 4 45 rfl (by kernel_rfl)) (hv 6 47 rfl (by kernel_rfl)) hr) hK
    · obtain ⟨rfl, jw, hjw, rfl, hjR⟩ := hL.off (by first | decide | nofun)
      exact l_val hd (x_nil (op_is rfl ho) (hv 0 41 rfl (by kernel_rfl))) hK
    · obtain ⟨rfl, jw, hjw, rfl, hjR⟩ := hL.off (by first | decide | nofun)
      exact l_val hd (x_field (op_is rfl ho) (by rw [hv 8 49 rfl (by kernel_rfl)]; unfold pv; go_simp)) hK
    · obtain ⟨rfl, rfl⟩ := hL.at_ (by first | decide | nofun) (j := 2) rfl
      exact l_skip hd (x_store (op_is rfl ho) (by rw [hv 9 50 rfl (by kernel_rfl), hv 7 48 rfl (by kernel_rfl)]; exact Ints_sto hvs q_o z_o)) hK
  · intro a1 g1 g2 g3 g4
    exact hK a1 _ C1 v g1 g2 (fun s hs' => ev_same (g3 s (not_low hs' (by first | decide | nofun)))) hF1 hT1 hB1 hO1
set_option maxRecDepth 100000 in
set_option maxHeartbeats 1600000 in
theorem growInts_r10 {K : Act → World → Prop} {Q : Exit → Act → World → Prop} {a : Act} {w : World} {bb : Nat} {C : Own} {f : Nat → Value} {xo xt xw xn xf xm xd xr : List Value} {y : Value} {n : Nat} {zs : List Int} (hs : a.tmps.size = 69) (x0 : a.eval (.tmp 0) = pv bb 0) (xy : a.eval (.tmp 4) = y) (hl : IRow w 3 1 y n zs) (hn : n ≤ 10000) (hF : Fit C w bb) (hB : BK w bb f) (hO : KOut C w kcInts f xo xt xw xn xf xm xd xr) (hlen : xt.length ≤ 1000000)
    (hK : ∀ a' w' C' v nt, a'.tmps.size = a.tmps.size → a'.defers = a.defers → (∀ s : Nat, s < 6 → a'.eval (.tmp s) = a.eval (.tmp s)) → Fit C' w' bb → Stp (fun x => x = (1, .tT)) bb C w C' w' → BK w' bb (upd f 5 v) → KOut C' w' kcInts (upd f 5 v) xo (xt ++ [nt]) xw xn xf xm xd xr → IRow w' 3 1 nt n zs → Has C' 1 .kept nt → K a' w') :
    (Code.region 10 (opsOf 10 Tryz.f150.body) true).wp Tryz.prog (Exit.then K Q) a w := by
  have hSd : Stp (fun _ => False) bb C w C w.drew := Stp.of (l := []) (Turned.refl [] w).drew (by simp)
  have hFd : Fit C w.drew bb := hF.of (Turned.refl [] w).drew
  have hBd : BK w.drew bb f := hB.keep (Turned.refl [] w).drew (by simp)
  have hOd := hO.step hF hSd (fun _ => .inl (fun h => h)) (fun _ _ => rfl)
  have eR : ∃ a n c, f 5 = .slice a n c := Row.slice hOd.rT.1
  have q_0 := hBd.cell (i := 5) (by omega)
  obtain ⟨nt, wc, hcr, hcw, hct, -⟩ := run_copy (P := Tryz.prog) (w := (w.drew.alloc (.cells #[] 3))) w.drew.heap.size 3 29 29 (.int .i64 0) 1 8 Ints_und Ints_info rfl (by first | decide | nofun) w.drew.heap.size (blk_new _ _) (Nat.le_refl _) y n (zs.map vi) ((hl.drew).alloc _) IRow.one (by unfold maxLen; omega) (by omega)
  have hcT : Turned [] w.drew wc := ((Turned.refl [] _).alloc _).inner hct (by intro x hx; exact .inr (by simp at hx; rw [hx]; exact Nat.le_refl _))
  have hnv := Row.slice hcw
  obtain ⟨hFc, hSc, hkc⟩ := own_new (κ := 1) (t := .kept) hFd hcT hcw
  have hBc : BK wc bb f := hBd.keep hcT (by simp)
  have hOc := hOd.step hFd hSc (fun _ => .inl (fun h => h)) (fun _ _ => rfl)
  have hntr : IRow wc 3 1 nt n zs := Row.low hcw
  have q_1 := (hBd.keep ((Turned.refl [] _).alloc (.cells #[] 3)) (by simp)).cell (i := 5) (by omega)
  have q_2 := hBc.cell (i := 5) (by omega)
  obtain ⟨v, wo, hr, hrow, honto⟩ := run_onto1 (P := Tryz.prog) (w := (wc.alloc (.cells #[nt] 29))) 29 28 28 (.slice none 0 0) 24 Ints_lund Ints_linfo rfl (by first | decide | nofun) _ _ (hOc.rT.1.alloc _) wc.heap.size nt (blk_new _ _) (slice_one hnv) hlen
  have hvs := Row.slice hrow
  have hBt : BK (wc.alloc (.cells #[nt] 29)) bb f := hBc.keep ((Turned.refl [] _).alloc _) (by simp)
  have hBo : BK wo bb f := onto_bk hFc hBt hOc.rT.2 (by simp) honto
  have q_t := hBt.cell (i := 5) (by omega)
  have q_o := hBo.cell (i := 5) (by omega)
  have z_o := hBo.froz 5
  obtain ⟨C1, hF1, hS1, hB1, hO1⟩ := hOc.push1 hFc hBc (by first | decide | nofun) ((Turned.refl [] _).alloc _) honto hrow
  have hnt1 := hS1.row hFc hntr hkc (by simp) (by simp)
  have hnk1 := hS1.has hFc hkc
  have hT1 : Stp (fun x => x = (1, Tg.tT)) bb C w C1 (wo.setCell ⟨bb, 5, none⟩ v) := (hSd.mono (fun _ h => h.elim)).trans ((hSc.mono (fun _ h => h.elim)).trans hS1)
  refine wp_region_chain (by kernel_rfl) [some 51, some 52, some 53, some 54, some 55, some 56, some 57, some 58, some 59, some 60, some 61, some 62, none] (fun kk => match kk with
      | 0 => pv bb 0
      | 1 => pv bb 0
      | 2 => pv bb 0
      | 3 => pv bb 5
      | 4 => f 5
      | 5 => Value.slice (some ⟨w.drew.heap.size, 0, none⟩) 0 0
      | 6 => y
      | 7 => nt
      | 8 => Value.slice (some ⟨wc.heap.size, 0, none⟩) 1 1
      | 9 => v
      | 10 => pv bb 0
      | 11 => pv bb 5
      | 12 => undef
      | _ => undef) (by rw [hs]; kernel_rfl) [5, 7, 8, 9, 12] (fun jj => match jj with
      | 0 => w.drew
      | 1 => (w.drew.alloc (.cells #[] 3))
      | 2 => wc
      | 3 => (wc.alloc (.cells #[nt] 29))
      | 4 => wo
      | _ => wo.setCell ⟨bb, 5, none⟩ v) rfl (by first | decide | nofun) (by decide +kernel) ?_ ?_ ?_
  · intro kk gg bq h
    exact (no_guard (by kernel_rfl) h).elim
  · intro kk hk _ o ac wa wb K ho hd _ hoff hv hL hK
    rcases (by simp at hk; omega : kk = 0 ∨ kk = 1 ∨ kk = 2 ∨ kk = 3 ∨ kk = 4 ∨ kk = 5 ∨ kk = 6 ∨ kk = 7 ∨ kk = 8 ∨ kk = 9 ∨ kk = 10 ∨ kk = 11 ∨ kk = 12) with rfl | rfl | rfl | rfl | rfl | rfl | rfl | rfl | rfl | rfl | rfl | rfl | rfl
    · obtain ⟨rfl, jw, hjw, rfl, hjR⟩ := hL.off (by first | decide | nofun)
      exact l_val hd ((x_move (op_is rfl ho)).trans (by rw [(hoff 0 (by first | decide | nofun)).trans x0]; rfl)) hK
    · obtain ⟨rfl, jw, hjw, rfl, hjR⟩ := hL.off (by first | decide | nofun)
      exact l_val hd ((x_move (op_is rfl ho)).trans (by rw [(hoff 0 (by first | decide | nofun)).trans x0]; rfl)) hK
    · obtain ⟨rfl, jw, hjw, rfl, hjR⟩ := hL.off (by first | decide | nofun)
      exact l_val hd (x_nil (op_is rfl ho) (hv 1 52 rfl (by kernel_rfl))) hK
    · obtain ⟨rfl, jw, hjw, rfl, hjR⟩ := hL.off (by first | decide | nofun)
      exact l_val hd (x_field (op_is rfl ho) (by rw [hv 2 53 rfl (by kernel_rfl)]; unfold pv; go_simp)) hK
    · obtain ⟨rfl, jw, hjw, rfl, hjR⟩ := hL.off (by first | decide | nofun)
      have hj := hjR 4 12 rfl (by decide +kernel)
      rcases (by omega : jw = 0 ∨ jw = 1 ∨ jw = 2 ∨ jw = 3 ∨ jw = 4) with rfl | rfl | rfl | rfl | rfl
      · exact l_val hd (x_load (op_is rfl ho) (by rw [hv 3 54 rfl (by kernel_rfl)]; exact Ints_ldo eR q_0)) hK
      · exact l_val hd (x_load (op_is rfl ho) (by rw [hv 3 54 rfl (by kernel_rfl)]; exact Ints_ldo eR q_1)) hK
      · exact l_val hd (x_load (op_is rfl ho) (by rw [hv 3 54 rfl (by kernel_rfl)]; exact Ints_ldo eR q_2)) hK
      · exact l_val hd (x_load (op_is rfl ho) (by rw [hv 3 54 rfl (by kernel_rfl)]; exact Ints_ldo eR q_t)) hK
      · exact l_val hd (x_load (op_is rfl ho) (by rw [hv 3 54 rfl (by kernel_rfl)]; exact Ints_ldo eR q_o)) hK
    · obtain ⟨rfl, rfl⟩ := hL.at_ (by first | decide | nofun) (j := 0) rfl
      exact l_val hd (x_bslice (qs := #[]) (op_is rfl ho) (by simp) (Ints_bs0 _)) hK
    · obtain ⟨rfl, jw, hjw, rfl, hjR⟩ := hL.off (by first | decide | nofun)
      exact l_val hd ((x_move (op_is rfl ho)).trans (by rw [(hoff 4 (by first | decide | nofun)).trans xy]; rfl)) hK
    · obtain ⟨rfl, rfl⟩ := hL.at_ (by first | decide | nofun) (j := 1) rfl
      exact l_val hd (x_append (op_is rfl ho) (ty_is rfl ho) (hv 5 56 rfl (by kernel_rfl)) (hv 6 57 rfl (by kernel_rfl)) hcr) hK
    · obtain ⟨rfl, rfl⟩ := hL.at_ (by first | decide | nofun) (j := 2) rfl
      exact l_val hd (x_bslice (op_is rfl ho) (by simp only [List.map_toArray, List.map_cons, List.map_nil, hv 7 58 rfl (by kernel_rfl)]) (Ints_bs1o _ hnv)) hK
    · obtain ⟨rfl, rfl⟩ := hL.at_ (by first | decide | nofun) (j := 3) rfl
      exact l_val hd (x_append (op_is rfl ho) (ty_is rfl ho) (hv 4 55 rfl (by kernel_rfl)) (hv 8 59 rfl (by kernel_rfl)) hr) hK
    · obtain ⟨rfl, jw, hjw, rfl, hjR⟩ := hL.off (by first | decide | nofun)
      exact l_val hd (x_nil (op_is rfl ho) (hv 0 51 rfl (by kernel_rfl))) hK
    · obtain ⟨rfl, jw, hjw, rfl, hjR⟩ := hL.off (by first | decide | nofun)
      exact l_val hd (x_field (op_is rfl ho) (by rw [hv 10 61 rfl (by kernel_rfl)]; unfold pv; go_simp)) hK
    · obtain ⟨rfl, rfl⟩ := hL.at_ (by first | decide | nofun) (j := 4) rfl
      exact l_skip hd (x_store (op_is rfl ho) (by rw [hv 11 62 rfl (by kernel_rfl), hv 9 60 rfl (by kernel_rfl)]; exact Ints_sto hvs q_o z_o)) hK
  · intro a1 g1 g2 g3 g4
    exact hK a1 _ C1 v nt g1 g2 (fun s hs' => ev_same (g3 s (not_low hs' (by first | decide | nofun)))) hF1 hT1 hB1 hO1 hnt1 hnk1
end Go.Proofs.YtjbhnpofdafmbaaGreatDoor

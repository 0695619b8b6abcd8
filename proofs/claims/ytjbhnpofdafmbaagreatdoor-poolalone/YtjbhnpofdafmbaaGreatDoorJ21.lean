/- The book takes a list of kind Slots. -/
import Derived.Test.YtjbhnpofdafmbaaGreatDoorJ15
import Derived.Test.YtjbhnpofdafmbaaGreatDoorJ13
namespace Go.Proofs.YtjbhnpofdafmbaaGreatDoor
open Go.RowKit
/-- What stands ahead of 'done'. -/
structure PutSlots (w : World) (bb : Nat) (C : Own) (f : Nat → Value) (ot : List Ot) (wn : List Wt) (q : Wt) (deep seen : Int) (w' : World) : Prop where
  ex : ∃ C' f', Fit C' w' bb ∧ BK w' bb f' ∧ FullSlots C' w' f' ot (wn ++ [q]) [] ∧ Stp (fun x => x.1 = 2 ∧ (x.2 = .tW ∨ x.2 = .tN ∨ x.2 = .tM ∨ x.2 = .tD)) bb C w C' w' ∧ f' 3 = vi (deep + 1) ∧ f' 39 = vi (seen + 1) ∧ ∀ i, i ≠ 3 → i ≠ 33 → i ≠ 34 → i ≠ 36 → i ≠ 37 → i ≠ 39 → f' i = f i
set_option maxRecDepth 100000 in
set_option maxHeartbeats 4000000 in
theorem cSlotsKeep {w : World} {bb : Nat} {C : Own} {f : Nat → Value} {ot : List Ot} {wn : List Wt} {l : Value} {n id : Nat} {zs : List Int} {turn deep mark seen : Int} {R : Ending → World → Prop}
    (hF : Fit C w bb) (hB : BK w bb f) (hK : FullSlots C w f ot wn []) (h0 : f 0 = .bool false) (h2 : f 2 = .int .i64 turn) (h3 : f 3 = .int .i64 deep) (h8 : f 39 = .int .i64 seen) (ht0 : 0 ≤ turn) (ht1 : turn ≤ 1000000) (hd0 : 0 ≤ deep) (hd1 : deep ≤ 1000) (hs0 : 0 ≤ seen) (hs1 : seen ≤ 100000) (hwl : wn.length ≤ 1000000)
    (hl : IRow w 64 7 l n zs) (hn : n ≤ 4500) (hln : Has C 2 (.lst id) l) (hid : ∀ q ∈ wn, q.id ≠ id) (hio : ∀ q ∈ ot, q.id ≠ id) (hmk : small mark)
    (HD : ∀ w' nt, PutSlots w bb C f ot wn ⟨l, nt, n, zs, mark, dueV turn seen, id⟩ deep seen w' → Calls Tryz.prog 94 #[.pointer (some ⟨bb, 0, none⟩)] w' fun e w'' => e = .returned (.tuple #[]) ∧ R (.returned (.tuple #[])) w'') :
    Calls Tryz.prog 40 #[.pointer (some ⟨bb, 0, none⟩), l, .int .i64 mark] w R := by
  obtain ⟨hO, hR⟩ := hK
  obtain ⟨la, lc, rfl⟩ := Row.shape hl
  go_enter Tryz.func40, Tryz.ntmps40
  refine wp_seq_k fun K0 hK0 => ?_
  have HK0 : Hid _ := hK0
  clear hK0
  generalize hact : (Act.mk _ _) = a0
  have s_0 : a0.tmps.size = 69 := by rw [← hact]; rfl
  have d_0 : a0.defers = [] := by rw [← hact]
  have x0_0 : a0.eval (.tmp 0) = pv bb 0 := by rw [← hact]; rfl
  have x1_0 : a0.eval (.tmp 1) = (Value.slice la n lc) := by rw [← hact]; rfl
  have x2_0 : a0.eval (.tmp 2) = vi mark := by rw [← hact]; rfl
  clear hact
  have c3 := hB.cell (i := 3) (by omega)
  rw [h3] at c3
  have z3 := hB.froz 3
  refine wp_region_line [some 6, some 7, some 8, some 9, some 10, some 11, some 12, none] (fun kk => match kk with
      | 0 => pv bb 0
      | 1 => pv bb 0
      | 2 => pv bb 3
      | 3 => vi deep
      | 4 => vi (deep + 1)
      | 5 => pv bb 0
      | 6 => pv bb 3
      | 7 => undef
      | _ => undef) (by rw [s_0]; kernel_rfl) [7] (fun jj => match jj with
      | 0 => w
      | _ => w.setCell ⟨bb, 3, none⟩ (vi (deep + 1))) rfl (by first | decide | nofun) (by decide +kernel) ?_ ?_ ?_
  · intro kk gg bq h
    exact (no_guard (by kernel_rfl) h).elim
  · intro kk hk _ o ac wa wb K ho hd _ hoff hv hL hK
    rcases (by simp at hk; omega : kk = 0 ∨ kk = 1 ∨ kk = 2 ∨ kk = 3 ∨ kk = 4 ∨ kk = 5 ∨ kk = 6 ∨ kk = 7) with rfl | rfl | rfl | rfl | rfl | rfl | rfl | rfl
    · obtain ⟨rfl, jw, hjw, rfl, hjR⟩ := hL.off (by first | decide | nofun)
      exact l_val hd ((x_move (op_is rfl ho)).trans (by rw [(hoff 0 (by first | decide | nofun)).trans x0_0]; rfl)) hK
    · obtain ⟨rfl, jw, hjw, rfl, hjR⟩ := hL.off (by first | decide | nofun)
      exact l_val hd (x_nil (op_is rfl ho) (hv 0 6 rfl (by kernel_rfl))) hK
    · obtain ⟨rfl, jw, hjw, rfl, hjR⟩ := hL.off (by first | decide | nofun)
      exact l_val hd (x_field (op_is rfl ho) (by rw [hv 1 7 rfl (by kernel_rfl)]; unfold pv; go_simp)) hK
    · obtain ⟨rfl, jw, hjw, rfl, hjR⟩ := hL.off (by first | decide | nofun)
      have hj := hjR 0 7 rfl (by first | decide | nofun)
      obtain rfl : jw = 0 := by omega
      exact l_val hd (x_load (op_is rfl ho) (by rw [hv 2 8 rfl (by kernel_rfl)]; exact ld_int c3)) hK
    · obtain ⟨rfl, jw, hjw, rfl, hjR⟩ := hL.off (by first | decide | nofun)
      exact l_val hd (x_addc (op_is rfl ho) (hv 3 9 rfl (by kernel_rfl)) rfl (by omega) (by omega)) hK
    · obtain ⟨rfl, jw, hjw, rfl, hjR⟩ := hL.off (by first | decide | nofun)
      exact l_val hd (x_nil (op_is rfl ho) (hv 0 6 rfl (by kernel_rfl))) hK
    · obtain ⟨rfl, jw, hjw, rfl, hjR⟩ := hL.off (by first | decide | nofun)
      exact l_val hd (x_field (op_is rfl ho) (by rw [hv 5 11 rfl (by kernel_rfl)]; unfold pv; go_simp)) hK
    · obtain ⟨rfl, rfl⟩ := hL.at_ (by first | decide | nofun) (j := 0) rfl
      exact l_skip hd (x_store (op_is rfl ho) (by rw [hv 6 12 rfl (by kernel_rfl), hv 4 10 rfl (by kernel_rfl)]; exact st_int c3 z3)) hK
  · intro a1 g1 g2 g3 g4
    have x0_1 := (ev_same (g3 0 (by first | decide | nofun))).trans x0_0
    have x1_1 := (ev_same (g3 1 (by first | decide | nofun))).trans x1_0
    have x2_1 := (ev_same (g3 2 (by first | decide | nofun))).trans x2_0
    have s_1 := g1.trans s_0
    have d_1 := g2.trans d_0
    clear g1 g2 g3 g4
    refine HK0.out a1 _ ?_
    clear HK0
    show Code.wp _ _ _ a1 (w.setCell ⟨bb, 3, none⟩ (vi (deep + 1)))
    have hS1 : Stp (fun x => x.1 = 2 ∧ (x.2 = Tg.tW ∨ x.2 = Tg.tN ∨ x.2 = Tg.tM ∨ x.2 = Tg.tD)) bb C w C (w.setCell ⟨bb, 3, none⟩ (vi (deep + 1))) := Stp.of (l := [bb]) ((Turned.refl [bb] w).set (.inl (by simp)) _ _) (by intro x hx; exact .inl (by simpa using hx))
    have hSf : Stp (fun _ => False) bb C w C (w.setCell ⟨bb, 3, none⟩ (vi (deep + 1))) := Stp.of (l := [bb]) ((Turned.refl [bb] w).set (.inl (by simp)) _ _) (by intro x hx; exact .inl (by simpa using hx))
    have hF1 : Fit C (w.setCell ⟨bb, 3, none⟩ (vi (deep + 1))) bb := hF.of ((Turned.refl [bb] w).set (.inl (by simp)) 3 (vi (deep + 1)))
    have hB1 := hB.put (i := 3) (by omega) (vi (deep + 1))
    have hO1 := hO.step (f' := upd f 3 (vi (deep + 1))) hF hSf (fun _ => .inl (fun h => h)) (fun i _ => upd_other _ _ (by show 31 + i ≠ 3; omega))
    have hR1 := hR.step hF hSf (fun h => h) (fun _ h => h)
    have hl1 := hSf.row hF hl hln (by simp) (fun h => h)
    have hln1 := hln
    have hT1 := hS1
    generalize hw1 : w.setCell ⟨bb, 3, none⟩ (vi (deep + 1)) = w1 at *
    clear hw1 hS1 hSf c3 z3
    generalize hf1 : upd f 3 (vi (deep + 1)) = f1 at *
    obtain ⟨C1, hC1⟩ : ∃ C1, C1 = C := ⟨C, rfl⟩
    rw [← hC1] at hF1 hO1 hR1 hln1 hT1
    refine wp_seq_k fun K1 hK1 => ?_
    have HK1 : Hid _ := hK1
    clear hK1
    have eR1 : ∃ a n c, f1 33 = .slice a n c := Row.slice hO1.rW.1
    have q1_0 := hB1.cell (i := 33) (by omega)
    obtain ⟨v1, wo1, hr1, hrow1, honto1⟩ := run_onto1 (P := Tryz.prog) (w := (w1.alloc (.cells #[(Value.slice la n lc)] 58))) 58 32 32 (.slice none 0 0) 24 Slots_lund Slots_linfo rfl (by first | decide | nofun) _ _ (hO1.rW.1.alloc _) w1.heap.size (Value.slice la n lc) (blk_new _ _) rfl (by simp; omega)
    have hvs1 := Row.slice hrow1
    have hBt1 : BK (w1.alloc (.cells #[(Value.slice la n lc)] 58)) bb f1 := hB1.keep ((Turned.refl [] _).alloc _) (by simp)
    have hBo1 : BK wo1 bb f1 := onto_bk hF1 hBt1 hO1.rW.2 (by simp) honto1
    have q1_t := hBt1.cell (i := 33) (by omega)
    have q1_o := hBo1.cell (i := 33) (by omega)
    have z1_o := hBo1.froz 33
    obtain ⟨C2, hF2, hS2, hB2, hO2⟩ := hO1.push2 hF1 hB1 (by first | decide | nofun) ((Turned.refl [] _).alloc _) honto1 hrow1
    have hR2 := hR1.step hF1 hS2 (by simp) (by simp)
    have hl2 := hS2.row hF1 hl1 hln1 (by simp) (by simp)
    have hln2 := hS2.has hF1 hln1
    have hT2 := hT1.trans (hS2.mono (fun x hx => by subst hx; exact ⟨rfl, by simp⟩))
    refine wp_region_line [some 13, some 14, some 15, some 16, some 17, some 18, some 19, some 20, some 21, some 22, none] (fun kk => match kk with
        | 0 => pv bb 0
        | 1 => pv bb 0
        | 2 => pv bb 0
        | 3 => pv bb 33
        | 4 => f1 33
        | 5 => (Value.slice la n lc)
        | 6 => Value.slice (some ⟨w1.heap.size, 0, none⟩) 1 1
        | 7 => v1
        | 8 => pv bb 0
        | 9 => pv bb 33
        | 10 => undef
        | _ => undef) (by rw [s_1]; kernel_rfl) [6, 7, 10] (fun jj => match jj with
        | 0 => w1
        | 1 => (w1.alloc (.cells #[(Value.slice la n lc)] 58))
        | 2 => wo1
        | _ => wo1.setCell ⟨bb, 33, none⟩ v1) rfl (by first | decide | nofun) (by decide +kernel) ?_ ?_ ?_
    · intro kk gg bq h
      exact (no_guard (by kernel_rfl) h).elim
    · intro kk hk _ o ac wa wb K ho hd _ hoff hv hL hK
      rcases (by simp at hk; omega : kk = 0 ∨ kk = 1 ∨ kk = 2 ∨ kk = 3 ∨ kk = 4 ∨ kk = 5 ∨ kk = 6 ∨ kk = 7 ∨ kk = 8 ∨ kk = 9 ∨ kk = 10) with rfl | rfl | rfl | rfl | rfl | rfl | rfl | rfl | rfl | rfl | rfl
      · obtain ⟨rfl, jw, hjw, rfl, hjR⟩ := hL.off (by first | decide | nofun)
        exact l_val hd ((x_move (op_is rfl ho)).trans (by rw [(hoff 0 (by first | decide | nofun)).trans x0_1]; rfl)) hK
      · obtain ⟨rfl, jw, hjw, rfl, hjR⟩ := hL.off (by first | decide | nofun)
        exact l_val hd ((x_move (op_is rfl ho)).trans (by rw [(hoff 0 (by first | decide | nofun)).trans x0_1]; rfl)) hK
      · obtain ⟨rfl, jw, hjw, rfl, hjR⟩ := hL.off (by first | decide | nofun)
        exact l_val hd (x_nil (op_is rfl ho) (hv 1 14 rfl (by kernel_rfl))) hK
      · obtain ⟨rfl, jw, hjw, rfl, hjR⟩ := hL.off (by first | decide | nofun)
        exact l_val hd (x_field (op_is rfl ho) (by rw [hv 2 15 rfl (by kernel_rfl)]; unfold pv; go_simp)) hK
      · obtain ⟨rfl, jw, hjw, rfl, hjR⟩ := hL.off (by first | decide | nofun)
        have hj := hjR 2 10 rfl (by first | decide | nofun)
        rcases (by omega : jw = 0 ∨ jw = 1 ∨ jw = 2) with rfl | rfl | rfl
        · exact l_val hd (x_load (op_is rfl ho) (by rw [hv 3 16 rfl (by kernel_rfl)]; exact Slots_ldo eR1 q1_0)) hK
        · exact l_val hd (x_load (op_is rfl ho) (by rw [hv 3 16 rfl (by kernel_rfl)]; exact Slots_ldo eR1 q1_t)) hK
        · exact l_val hd (x_load (op_is rfl ho) (by rw [hv 3 16 rfl (by kernel_rfl)]; exact Slots_ldo eR1 q1_o)) hK
      · obtain ⟨rfl, jw, hjw, rfl, hjR⟩ := hL.off (by first | decide | nofun)
        exact l_val hd ((x_move (op_is rfl ho)).trans (by rw [(hoff 1 (by first | decide | nofun)).trans x1_1]; rfl)) hK
      · obtain ⟨rfl, rfl⟩ := hL.at_ (by first | decide | nofun) (j := 0) rfl
        exact l_val hd (x_bslice (op_is rfl ho) (by simp only [List.map_toArray, List.map_cons, List.map_nil, hv 5 18 rfl (by kernel_rfl)]) (Slots_bs1o _ ⟨_, _, _, rfl⟩)) hK
      · obtain ⟨rfl, rfl⟩ := hL.at_ (by first | decide | nofun) (j := 1) rfl
        exact l_val hd (x_append (op_is rfl ho) (ty_is rfl ho) (hv 4 17 rfl (by kernel_rfl)) (hv 6 19 rfl (by kernel_rfl)) hr1) hK
      · obtain ⟨rfl, jw, hjw, rfl, hjR⟩ := hL.off (by first | decide | nofun)
        exact l_val hd (x_nil (op_is rfl ho) (hv 0 13 rfl (by kernel_rfl))) hK
      · obtain ⟨rfl, jw, hjw, rfl, hjR⟩ := hL.off (by first | decide | nofun)
        exact l_val hd (x_field (op_is rfl ho) (by rw [hv 8 21 rfl (by kernel_rfl)]; unfold pv; go_simp)) hK
      · obtain ⟨rfl, rfl⟩ := hL.at_ (by first | decide | nofun) (j := 2) rfl
        exact l_skip hd (x_store (op_is rfl ho) (by rw [hv 9 22 rfl (by kernel_rfl), hv 7 20 rfl (by kernel_rfl)]; exact Slots_sto hvs1 q1_o z1_o)) hK
    · intro a1 g1 g2 g3 g4
      have x0_2 := (ev_same (g3 0 (by first | decide | nofun))).trans x0_1
      have x1_2 := (ev_same (g3 1 (by first | decide | nofun))).trans x1_1
      have x2_2 := (ev_same (g3 2 (by first | decide | nofun))).trans x2_1
      have s_2 := g1.trans s_1
      have d_2 := g2.trans d_1
      clear g1 g2 g3 g4
      refine HK1.out a1 _ ?_
      clear HK1
      show Code.wp _ _ _ a1 (wo1.setCell ⟨bb, 33, none⟩ v1)
      generalize hw2 : wo1.setCell ⟨bb, 33, none⟩ v1 = w2 at *
      clear hw2
      have hff2 : ∀ i, i ≠ 33 → upd f1 33 v1 i = f1 i := fun i hi => upd_other _ _ hi
      generalize hf2 : upd f1 33 v1 = f2 at *
      clear hf2
      refine wp_seq_k fun K2 hK2 => ?_
      have HK2 : Hid _ := hK2
      clear hK2
      have hSd2 : Stp (fun _ => False) bb C2 w2 C2 w2.drew := Stp.of (l := []) (Turned.refl [] w2).drew (by simp)
      have hFd2 : Fit C2 w2.drew bb := hF2.of (Turned.refl [] w2).drew
      have hBd2 : BK w2.drew bb f2 := hB2.keep (Turned.refl [] w2).drew (by simp)
      have hOd2 := hO2.step hF2 hSd2 (fun _ => .inl (fun h => h)) (fun _ _ => rfl)
      have hRd2 := hR2.step hF2 hSd2 (fun h => h) (fun _ h => h)
      have hld2 := hSd2.row hF2 hl2 hln2 (by simp) (fun h => h)
      have hTd2 := hT2.trans (hSd2.mono (fun _ h => h.elim))
      have eR2 : ∃ a n c, f2 34 = .slice a n c := Row.slice hOd2.rN.1
      have q2_0 := hBd2.cell (i := 34) (by omega)
      obtain ⟨nt, wc2, hcr2, hcw2, hct2, -⟩ := run_copy (P := Tryz.prog) (w := ((w2.drew).alloc (.cells #[] 64))) (w2.drew).heap.size 64 58 58 (.agg #[.int .i64 0, .int .i64 0, .int .i64 0, .int .i64 0, .int .i64 0, .int .i64 0, .int .i64 0]) 7 56 Slots_und Slots_info rfl (by first | decide | nofun) (w2.drew).heap.size (blk_new _ _) (Nat.le_refl _) (Value.slice la n lc) n (zs.map vi) (hld2.alloc _) IRow.one (by unfold maxLen; omega) (by omega)
      have hcT2 : Turned [] (w2.drew) wc2 := ((Turned.refl [] _).alloc _).inner hct2 (by intro x hx; exact .inr (by simp at hx; rw [hx]; exact Nat.le_refl _))
      have hnv2 := Row.slice hcw2
      obtain ⟨hFc2, hSc2, hkc2⟩ := own_new (κ := 2) (t := .kept) hFd2 hcT2 hcw2
      have hBc2 : BK wc2 bb f2 := hBd2.keep hcT2 (by simp)
      have hOc2 := hOd2.step hFd2 hSc2 (fun _ => .inl (fun h => h)) (fun _ _ => rfl)
      have hRc2 := hRd2.step hFd2 hSc2 (fun h => h) (fun _ h => h)
      have hlc2 := hSc2.row hFd2 hld2 hln2 (by simp) (fun h => h)
      have hlnc2 := hSc2.has hFd2 hln2
      have hTc2 := hTd2.trans (hSc2.mono (fun _ h => h.elim))
      have hntr2 : IRow wc2 64 7 nt n zs := Row.low hcw2
      have q2_1 := (hBd2.keep ((Turned.refl [] _).alloc (.cells #[] 64)) (by simp)).cell (i := 34) (by omega)
      have q2_2 := hBc2.cell (i := 34) (by omega)
      obtain ⟨v2, wo2, hr2, hrow2, honto2⟩ := run_onto1 (P := Tryz.prog) (w := (wc2.alloc (.cells #[nt] 58))) 58 32 32 (.slice none 0 0) 24 Slots_lund Slots_linfo rfl (by first | decide | nofun) _ _ (hOc2.rN.1.alloc _) wc2.heap.size nt (blk_new _ _) (slice_one hnv2) (by simp; omega)
      have hvs2 := Row.slice hrow2
      have hBt2 : BK (wc2.alloc (.cells #[nt] 58)) bb f2 := hBc2.keep ((Turned.refl [] _).alloc _) (by simp)
      have hBo2 : BK wo2 bb f2 := onto_bk hFc2 hBt2 hOc2.rN.2 (by simp) honto2
      have q2_t := hBt2.cell (i := 34) (by omega)
      have q2_o := hBo2.cell (i := 34) (by omega)
      have z2_o := hBo2.froz 34
      obtain ⟨C3, hF3, hS3, hB3, hO3⟩ := hOc2.push3 hFc2 hBc2 (by first | decide | nofun) ((Turned.refl [] _).alloc _) honto2 hrow2
      have hR3 := hRc2.step hFc2 hS3 (by simp) (by simp)
      have hl3 := hS3.row hFc2 hlc2 hlnc2 (by simp) (by simp)
      have hln3 := hS3.has hFc2 hlnc2
      have hT3 := hTc2.trans (hS3.mono (fun x hx => by subst hx; exact ⟨rfl, by simp⟩))
      have hnt3 := hS3.row hFc2 hntr2 hkc2 (by simp) (by simp)
      have hnk3 := hS3.has hFc2 hkc2
      refine wp_region_chain (by kernel_rfl) [some 23, some 24, some 25, some 26, some 27, some 28, some 29, some 30, some 31, some 32, some 33, some 34, none] (fun kk => match kk with
          | 0 => pv bb 0
          | 1 => pv bb 0
          | 2 => pv bb 0
          | 3 => pv bb 34
          | 4 => f2 34
          | 5 => Value.slice (some ⟨(w2.drew).heap.size, 0, none⟩) 0 0
          | 6 => (Value.slice la n lc)
          | 7 => nt
          | 8 => Value.slice (some ⟨wc2.heap.size, 0, none⟩) 1 1
          | 9 => v2
          | 10 => pv bb 0
          | 11 => pv bb 34
          | 12 => undef
          | _ => undef) (by rw [s_2]; kernel_rfl) [5, 7, 8, 9, 12] (fun jj => match jj with
          | 0 => (w2.drew)
          | 1 => ((w2.drew).alloc (.cells #[] 64))
          | 2 => wc2
          | 3 => (wc2.alloc (.cells #[nt] 58))
          | 4 => wo2
          | _ => wo2.setCell ⟨bb, 34, none⟩ v2) rfl (by first | decide | nofun) (by decide +kernel) ?_ ?_ ?_
      · intro kk gg bq h
        exact (no_guard (by kernel_rfl) h).elim
      · intro kk hk _ o ac wa wb K ho hd _ hoff hv hL hK
        rcases (by simp at hk; omega : kk = 0 ∨ kk = 1 ∨ kk = 2 ∨ kk = 3 ∨ kk = 4 ∨ kk = 5 ∨ kk = 6 ∨ kk = 7 ∨ kk = 8 ∨ kk = 9 ∨ kk = 10 ∨ kk = 11 ∨ kk = 12) with rfl | rfl | rfl | rfl | rfl | rfl | rfl | rfl | rfl | rfl | rfl | rfl | rfl
        · obtain ⟨rfl, jw, hjw, rfl, hjR⟩ := hL.off (by first | decide | nofun)
          exact l_val hd ((x_move (op_is rfl ho)).trans (by rw [(hoff 0 (by first | decide | nofun)).trans x0_2]; rfl)) hK
        · obtain ⟨rfl, jw, hjw, rfl, hjR⟩ := hL.off (by first | decide | nofun)
          exact l_val hd ((x_move (op_is rfl ho)).trans (by rw [(hoff 0 (by first | decide | nofun)).trans x0_2]; rfl)) hK
        · obtain ⟨rfl, jw, hjw, rfl, hjR⟩ := hL.off (by first | decide | nofun)
          exact l_val hd (x_nil (op_is rfl ho) (hv 1 24 rfl (by kernel_rfl))) hK
        · obtain ⟨rfl, jw, hjw, rfl, hjR⟩ := hL.off (by first | decide | nofun)
          exact l_val hd (x_field (op_is rfl ho) (by rw [hv 2 25 rfl (by kernel_rfl)]; unfold pv; go_simp)) hK
        · obtain ⟨rfl, jw, hjw, rfl, hjR⟩ := hL.off (by first | decide | nofun)
          have hj := hjR 4 12 rfl (by decide +kernel)
          rcases (by omega : jw = 0 ∨ jw = 1 ∨ jw = 2 ∨ jw = 3 ∨ jw = 4) with rfl | rfl | rfl | rfl | rfl
          · exact l_val hd (x_load (op_is rfl ho) (by rw [hv 3 26 rfl (by kernel_rfl)]; exact Slots_ldo eR2 q2_0)) hK
          · exact l_val hd (x_load (op_is rfl ho) (by rw [hv 3 26 rfl (by kernel_rfl)]; exact Slots_ldo eR2 q2_1)) hK
          · exact l_val hd (x_load (op_is rfl ho) (by rw [hv 3 26 rfl (by kernel_rfl)]; exact Slots_ldo eR2 q2_2)) hK
          · exact l_val hd (x_load (op_is rfl ho) (by rw [hv 3 26 rfl (by kernel_rfl)]; exact Slots_ldo eR2 q2_t)) hK
          · exact l_val hd (x_load (op_is rfl ho) (by rw [hv 3 26 rfl (by kernel_rfl)]; exact Slots_ldo eR2 q2_o)) hK
        · obtain ⟨rfl, rfl⟩ := hL.at_ (by first | decide | nofun) (j := 0) rfl
          exact l_val hd (x_bslice (qs := #[]) (op_is rfl ho) (by simp) (Slots_bs0 _)) hK
        · obtain ⟨rfl, jw, hjw, rfl, hjR⟩ := hL.off (by first | decide | nofun)
          exact l_val hd ((x_move (op_is rfl ho)).trans (by rw [(hoff 1 (by first | decide | nofun)).trans x1_2]; rfl)) hK
        · obtain ⟨rfl, rfl⟩ := hL.at_ (by first | decide | nofun) (j := 1) rfl
          exact l_val hd (x_append (op_is rfl ho) (ty_is rfl ho) (hv 5 28 rfl (by kernel_rfl)) (hv 6 29 rfl (by kernel_rfl)) hcr2) hK
        · obtain ⟨rfl, rfl⟩ := hL.at_ (by first | decide | nofun) (j := 2) rfl
          exact l_val hd (x_bslice (op_is rfl ho) (by simp only [List.map_toArray, List.map_cons, List.map_nil, hv 7 30 rfl (by kernel_rfl)]) (Slots_bs1o _ hnv2)) hK
        · obtain ⟨rfl, rfl⟩ := hL.at_ (by first | decide | nofun) (j := 3) rfl
          exact l_val hd (x_append (op_is rfl ho) (ty_is rfl ho) (hv 4 27 rfl (by kernel_rfl)) (hv 8 31 rfl (by kernel_rfl)) hr2) hK
        · obtain ⟨rfl, jw, hjw, rfl, hjR⟩ := hL.off (by first | decide | nofun)
          exact l_val hd (x_nil (op_is rfl ho) (hv 0 23 rfl (by kernel_rfl))) hK
        · obtain ⟨rfl, jw, hjw, rfl, hjR⟩ := hL.off (by first | decide | nofun)
          exact l_val hd (x_field (op_is rfl ho) (by rw [hv 10 33 rfl (by kernel_rfl)]; unfold pv; go_simp)) hK
        · obtain ⟨rfl, rfl⟩ := hL.at_ (by first | decide | nofun) (j := 4) rfl
          exact l_skip hd (x_store (op_is rfl ho) (by rw [hv 11 34 rfl (by kernel_rfl), hv 9 32 rfl (by kernel_rfl)]; exact Slots_sto hvs2 q2_o z2_o)) hK
      · intro a1 g1 g2 g3 g4
        have x0_3 := (ev_same (g3 0 (by first | decide | nofun))).trans x0_2
        have x1_3 := (ev_same (g3 1 (by first | decide | nofun))).trans x1_2
        have x2_3 := (ev_same (g3 2 (by first | decide | nofun))).trans x2_2
        have s_3 := g1.trans s_2
        have d_3 := g2.trans d_2
        clear g1 g2 g3 g4
        refine HK2.out a1 _ ?_
        clear HK2
        show Code.wp _ _ _ a1 (wo2.setCell ⟨bb, 34, none⟩ v2)
        generalize hw3 : wo2.setCell ⟨bb, 34, none⟩ v2 = w3 at *
        clear hw3
        have hff3 : ∀ i, i ≠ 34 → upd f2 34 v2 i = f2 i := fun i hi => upd_other _ _ hi
        generalize hf3 : upd f2 34 v2 = f3 at *
        clear hf3
        refine wp_seq_k fun K3 hK3 => ?_
        have HK3 : Hid _ := hK3
        clear hK3
        have eR3 : ∃ a n c, f3 36 = .slice a n c := Row.slice hO3.rM.1
        have q3_0 := hB3.cell (i := 36) (by omega)
        obtain ⟨v3, wo3, hr3, hrow3, honto3⟩ := run_onto1 (P := Tryz.prog) (w := (w3.alloc (.cells #[(vi mark)] 3))) 3 29 29 (.int .i64 0) 8 und_ints info_int rfl (by first | decide | nofun) _ _ (hO3.rM.1.alloc _) w3.heap.size (vi mark) (blk_new _ _) rfl (by simp; omega)
        have hvs3 := Row.slice hrow3
        have hBt3 : BK (w3.alloc (.cells #[(vi mark)] 3)) bb f3 := hB3.keep ((Turned.refl [] _).alloc _) (by simp)
        have hBo3 : BK wo3 bb f3 := onto_bk hF3 hBt3 hO3.rM.2 (by simp) honto3
        have q3_t := hBt3.cell (i := 36) (by omega)
        have q3_o := hBo3.cell (i := 36) (by omega)
        have z3_o := hBo3.froz 36
        obtain ⟨C4, hF4, hS4, hB4, hO4⟩ := hO3.push5 hF3 hB3 (by first | decide | nofun) ((Turned.refl [] _).alloc _) honto3 hrow3
        have hR4 := hR3.step hF3 hS4 (by simp) (by simp)
        have hl4 := hS4.row hF3 hl3 hln3 (by simp) (by simp)
        have hln4 := hS4.has hF3 hln3
        have hT4 := hT3.trans (hS4.mono (fun x hx => by subst hx; exact ⟨rfl, by simp⟩))
        have hnt4 := hS4.row hF3 hnt3 hnk3 (by simp) (by simp)
        have hnk4 := hS4.has hF3 hnk3
        refine wp_region_line [some 35, some 36, some 37, some 38, some 39, some 40, some 41, some 42, some 43, some 44, none] (fun kk => match kk with
            | 0 => pv bb 0
            | 1 => pv bb 0
            | 2 => pv bb 0
            | 3 => pv bb 36
            | 4 => f3 36
            | 5 => vi mark
            | 6 => Value.slice (some ⟨w3.heap.size, 0, none⟩) 1 1
            | 7 => v3
            | 8 => pv bb 0
            | 9 => pv bb 36
            | 10 => undef
            | _ => undef) (by rw [s_3]; kernel_rfl) [6, 7, 10] (fun jj => match jj with
            | 0 => w3
            | 1 => (w3.alloc (.cells #[(vi mark)] 3))
            | 2 => wo3
            | _ => wo3.setCell ⟨bb, 36, none⟩ v3) rfl (by first | decide | nofun) (by decide +kernel) ?_ ?_ ?_
        · intro kk gg bq h
          exact (no_guard (by kernel_rfl) h).elim
        · intro kk hk _ o ac wa wb K ho hd _ hoff hv hL hK
          rcases (by simp at hk; omega : kk = 0 ∨ kk = 1 ∨ kk = 2 ∨ kk = 3 ∨ kk = 4 ∨ kk = 5 ∨ kk = 6 ∨ kk = 7 ∨ kk = 8 ∨ kk = 9 ∨ kk = 10) with rfl | rfl | rfl | rfl | rfl | rfl | rfl | rfl | rfl | rfl | rfl
          · obtain ⟨rfl, jw, hjw, rfl, hjR⟩ := hL.off (by first | decide | nofun)
            exact l_val hd ((x_move (op_is rfl ho)).trans (by rw [(hoff 0 (by first | decide | nofun)).trans x0_3]; rfl)) hK
          · obtain ⟨rfl, jw, hjw, rfl, hjR⟩ := hL.off (by first | decide | nofun)
            exact l_val hd ((x_move (op_is rfl ho)).trans (by rw [(hoff 0 (by first | decide | nofun)).trans x0_3]; rfl)) hK
          · obtain ⟨rfl, jw, hjw, rfl, hjR⟩ := hL.off (by first | decide | nofun)
            exact l_val hd (x_nil (op_is rfl ho) (hv 1 36 rfl (by kernel_rfl))) hK
          · obtain ⟨rfl, jw, hjw, rfl, hjR⟩ := hL.off (by first | decide | nofun)
            exact l_val hd (x_field (op_is rfl ho) (by rw [hv 2 37 rfl (by kernel_rfl)]; unfold pv; go_simp)) hK
          · obtain ⟨rfl, jw, hjw, rfl, hjR⟩ := hL.off (by first | decide | nofun)
            have hj := hjR 2 10 rfl (by first | decide | nofun)
            rcases (by omega : jw = 0 ∨ jw = 1 ∨ jw = 2) with rfl | rfl | rfl
            · exact l_val hd (x_load (op_is rfl ho) (by rw [hv 3 38 rfl (by kernel_rfl)]; exact ld_intso eR3 q3_0)) hK
            · exact l_val hd (x_load (op_is rfl ho) (by rw [hv 3 38 rfl (by kernel_rfl)]; exact ld_intso eR3 q3_t)) hK
            · exact l_val hd (x_load (op_is rfl ho) (by rw [hv 3 38 rfl (by kernel_rfl)]; exact ld_intso eR3 q3_o)) hK
          · obtain ⟨rfl, jw, hjw, rfl, hjR⟩ := hL.off (by first | decide | nofun)
            exact l_val hd ((x_move (op_is rfl ho)).trans (by rw [(hoff 2 (by first | decide | nofun)).trans x2_3]; rfl)) hK
          · obtain ⟨rfl, rfl⟩ := hL.at_ (by first | decide | nofun) (j := 0) rfl
            exact l_val hd (x_bslice (op_is rfl ho) (by simp only [List.map_toArray, List.map_cons, List.map_nil, hv 5 40 rfl (by kernel_rfl)]) (bs_int _ _)) hK
          · obtain ⟨rfl, rfl⟩ := hL.at_ (by first | decide | nofun) (j := 1) rfl
            exact l_val hd (x_append (op_is rfl ho) (ty_is rfl ho) (hv 4 39 rfl (by kernel_rfl)) (hv 6 41 rfl (by kernel_rfl)) hr3) hK
          · obtain ⟨rfl, jw, hjw, rfl, hjR⟩ := hL.off (by first | decide | nofun)
            exact l_val hd (x_nil (op_is rfl ho) (hv 0 35 rfl (by kernel_rfl))) hK
          · obtain ⟨rfl, jw, hjw, rfl, hjR⟩ := hL.off (by first | decide | nofun)
            exact l_val hd (x_field (op_is rfl ho) (by rw [hv 8 43 rfl (by kernel_rfl)]; unfold pv; go_simp)) hK
          · obtain ⟨rfl, rfl⟩ := hL.at_ (by first | decide | nofun) (j := 2) rfl
            exact l_skip hd (x_store (op_is rfl ho) (by rw [hv 9 44 rfl (by kernel_rfl), hv 7 42 rfl (by kernel_rfl)]; exact st_intso hvs3 q3_o z3_o)) hK
        · intro a1 g1 g2 g3 g4
          have x0_4 := (ev_same (g3 0 (by first | decide | nofun))).trans x0_3
          have x1_4 := (ev_same (g3 1 (by first | decide | nofun))).trans x1_3
          have x2_4 := (ev_same (g3 2 (by first | decide | nofun))).trans x2_3
          have s_4 := g1.trans s_3
          have d_4 := g2.trans d_3
          clear g1 g2 g3 g4
          refine HK3.out a1 _ ?_
          clear HK3
          show Code.wp _ _ _ a1 (wo3.setCell ⟨bb, 36, none⟩ v3)
          generalize hw4 : wo3.setCell ⟨bb, 36, none⟩ v3 = w4 at *
          clear hw4
          have hff4 : ∀ i, i ≠ 36 → upd f3 36 v3 i = f3 i := fun i hi => upd_other _ _ hi
          generalize hf4 : upd f3 36 v3 = f4 at *
          clear hf4
          have h0_4 : f4 0 = .bool false := (hff4 0 (by omega)).trans ((hff3 0 (by omega)).trans ((hff2 0 (by omega)).trans ((congrFun hf1 0).symm.trans ((upd_other _ _ (by omega)).trans h0))))
          have h2_4 : f4 2 = .int .i64 turn := (hff4 2 (by omega)).trans ((hff3 2 (by omega)).trans ((hff2 2 (by omega)).trans ((congrFun hf1 2).symm.trans ((upd_other _ _ (by omega)).trans h2))))
          have h8_4 : f4 39 = .int .i64 seen := (hff4 39 (by omega)).trans ((hff3 39 (by omega)).trans ((hff2 39 (by omega)).trans ((congrFun hf1 39).symm.trans ((upd_other _ _ (by omega)).trans h8))))
          have HDue := cDue (k := seen) (hB4.keep (Turned.refl [] w4).drew (by simp)) h0_4 h2_4 ht0 ht1 hs0 (by omega)
          have q4_s := (hB4.keep (Turned.refl [] w4).drew (by simp)).cell (i := 39) (by omega)
          rw [h8_4] at q4_s
          refine wp_seq_k fun K4 hK4 => ?_
          have HK4 : Hid _ := hK4
          clear hK4
          have hSd4 : Stp (fun _ => False) bb C4 w4 C4 w4.drew := Stp.of (l := []) (Turned.refl [] w4).drew (by simp)
          have hFd4 : Fit C4 w4.drew bb := hF4.of (Turned.refl [] w4).drew
          have hBd4 : BK w4.drew bb f4 := hB4.keep (Turned.refl [] w4).drew (by simp)
          have hOd4 := hO4.step hF4 hSd4 (fun _ => .inl (fun h => h)) (fun _ _ => rfl)
          have hRd4 := hR4.step hF4 hSd4 (fun h => h) (fun _ h => h)
          have hld4 := hSd4.row hF4 hl4 hln4 (by simp) (fun h => h)
          have hTd4 := hT4.trans (hSd4.mono (fun _ h => h.elim))
          have eR4 : ∃ a n c, f4 37 = .slice a n c := Row.slice hOd4.rD.1
          have q4_0 := hBd4.cell (i := 37) (by omega)
          obtain ⟨v4, wo4, hr4, hrow4, honto4⟩ := run_onto1 (P := Tryz.prog) (w := ((w4.drew).alloc (.cells #[(vi (dueV turn seen))] 3))) 3 29 29 (.int .i64 0) 8 und_ints info_int rfl (by first | decide | nofun) _ _ (hOd4.rD.1.alloc _) (w4.drew).heap.size (vi (dueV turn seen)) (blk_new _ _) rfl (by simp; omega)
          have hvs4 := Row.slice hrow4
          have hBt4 : BK ((w4.drew).alloc (.cells #[(vi (dueV turn seen))] 3)) bb f4 := hBd4.keep ((Turned.refl [] _).alloc _) (by simp)
          have hBo4 : BK wo4 bb f4 := onto_bk hFd4 hBt4 hOd4.rD.2 (by simp) honto4
          have q4_t := hBt4.cell (i := 37) (by omega)
          have q4_o := hBo4.cell (i := 37) (by omega)
          have z4_o := hBo4.froz 37
          obtain ⟨C5, hF5, hS5, hB5, hO5⟩ := hOd4.push6 hFd4 hBd4 (by first | decide | nofun) ((Turned.refl [] _).alloc _) honto4 hrow4
          have hR5 := hRd4.step hFd4 hS5 (by simp) (by simp)
          have hl5 := hS5.row hFd4 hld4 hln4 (by simp) (by simp)
          have hln5 := hS5.has hFd4 hln4
          have hT5 := hTd4.trans (hS5.mono (fun x hx => by subst hx; exact ⟨rfl, by simp⟩))
          have hntd4 := hSd4.row hF4 hnt4 hnk4 (by simp) (fun h => h)
          have hnt5 := hS5.row hFd4 hntd4 hnk4 (by simp) (by simp)
          have hnk5 := hS5.has hFd4 hnk4
          refine wp_region_chain (by kernel_rfl) [some 45, some 46, some 47, some 48, some 49, some 50, some 51, some 52, some 53, some 54, some 55, some 56, some 57, some 58, some 59, none] (fun kk => match kk with
              | 0 => pv bb 0
              | 1 => pv bb 0
              | 2 => pv bb 0
              | 3 => pv bb 37
              | 4 => f4 37
              | 5 => pv bb 0
              | 6 => pv bb 0
              | 7 => pv bb 0
              | 8 => pv bb 39
              | 9 => vi seen
              | 10 => vi (dueV turn seen)
              | 11 => Value.slice (some ⟨(w4.drew).heap.size, 0, none⟩) 1 1
              | 12 => v4
              | 13 => pv bb 0
              | 14 => pv bb 37
              | 15 => undef
              | _ => undef) (by rw [s_4]; kernel_rfl) [11, 12, 15] (fun jj => match jj with
              | 0 => (w4.drew)
              | 1 => ((w4.drew).alloc (.cells #[(vi (dueV turn seen))] 3))
              | 2 => wo4
              | _ => wo4.setCell ⟨bb, 37, none⟩ v4) rfl (by first | decide | nofun) (by decide +kernel) ?_ ?_ ?_
          · intro kk gg bq h
            exact (no_guard (by kernel_rfl) h).elim
          · intro kk hk _ o ac wa wb K ho hd _ hoff hv hL hK
            rcases (by simp at hk; omega : kk = 0 ∨ kk = 1 ∨ kk = 2 ∨ kk = 3 ∨ kk = 4 ∨ kk = 5 ∨ kk = 6 ∨ kk = 7 ∨ kk = 8 ∨ kk = 9 ∨ kk = 10 ∨ kk = 11 ∨ kk = 12 ∨ kk = 13 ∨ kk = 14 ∨ kk = 15) with rfl | rfl | rfl | rfl | rfl | rfl | rfl | rfl | rfl | rfl | rfl | rfl | rfl | rfl | rfl | rfl
            · obtain ⟨rfl, jw, hjw, rfl, hjR⟩ := hL.off (by first | decide | nofun)
              exact l_val hd ((x_move (op_is rfl ho)).trans (by rw [(hoff 0 (by first | decide | nofun)).trans x0_4]; rfl)) hK
            · obtain ⟨rfl, jw, hjw, rfl, hjR⟩ := hL.off (by first | decide | nofun)
              exact l_val hd ((x_move (op_is rfl ho)).trans (by rw [(hoff 0 (by first | decide | nofun)).trans x0_4]; rfl)) hK
            · obtain ⟨rfl, jw, hjw, rfl, hjR⟩ := hL.off (by first | decide | nofun)
              exact l_val hd (x_nil (op_is rfl ho) (hv 1 46 rfl (by kernel_rfl))) hK
            · obtain ⟨rfl, jw, hjw, rfl, hjR⟩ := hL.off (by first | decide | nofun)
              exact l_val hd (x_field (op_is rfl ho) (by rw [hv 2 47 rfl (by kernel_rfl)]; unfold pv; go_simp)) hK
            · obtain ⟨rfl, jw, hjw, rfl, hjR⟩ := hL.off (by first | decide | nofun)
              have hj := hjR 2 15 rfl (by decide +kernel)
              rcases (by omega : jw = 0 ∨ jw = 1 ∨ jw = 2) with rfl | rfl | rfl
              · exact l_val hd (x_load (op_is rfl ho) (by rw [hv 3 48 rfl (by kernel_rfl)]; exact ld_intso eR4 q4_0)) hK
              · exact l_val hd (x_load (op_is rfl ho) (by rw [hv 3 48 rfl (by kernel_rfl)]; exact ld_intso eR4 q4_t)) hK
              · exact l_val hd (x_load (op_is rfl ho) (by rw [hv 3 48 rfl (by kernel_rfl)]; exact ld_intso eR4 q4_o)) hK
            · obtain ⟨rfl, jw, hjw, rfl, hjR⟩ := hL.off (by first | decide | nofun)
              exact l_val hd ((x_move (op_is rfl ho)).trans (by rw [(hoff 0 (by first | decide | nofun)).trans x0_4]; rfl)) hK
            · obtain ⟨rfl, jw, hjw, rfl, hjR⟩ := hL.off (by first | decide | nofun)
              exact l_val hd ((x_move (op_is rfl ho)).trans (by rw [(hoff 0 (by first | decide | nofun)).trans x0_4]; rfl)) hK
            · obtain ⟨rfl, jw, hjw, rfl, hjR⟩ := hL.off (by first | decide | nofun)
              exact l_val hd (x_nil (op_is rfl ho) (hv 6 51 rfl (by kernel_rfl))) hK
            · obtain ⟨rfl, jw, hjw, rfl, hjR⟩ := hL.off (by first | decide | nofun)
              exact l_val hd (x_field (op_is rfl ho) (by rw [hv 7 52 rfl (by kernel_rfl)]; unfold pv; go_simp)) hK
            · obtain ⟨rfl, jw, hjw, rfl, hjR⟩ := hL.off (by first | decide | nofun)
              have hj := hjR 0 11 rfl (by decide +kernel)
              obtain rfl : jw = 0 := by omega
              exact l_val hd (x_load (op_is rfl ho) (by rw [hv 8 53 rfl (by kernel_rfl)]; exact ld_int q4_s)) hK
            · obtain ⟨rfl, jw, hjw, rfl, hjR⟩ := hL.off (by first | decide | nofun)
              have hj := hjR 0 11 rfl (by decide +kernel)
              obtain rfl : jw = 0 := by omega
              exact l_call hd (op_is rfl ho) (by simp only [List.map_toArray, List.map_cons, List.map_nil, hv 5 50 rfl (by kernel_rfl), hv 9 54 rfl (by kernel_rfl)]; rfl) Tryz.func93 (by kernel_rfl) (by rfl) HDue hK
            · obtain ⟨rfl, rfl⟩ := hL.at_ (by first | decide | nofun) (j := 0) rfl
              exact l_val hd (x_bslice (op_is rfl ho) (by simp only [List.map_toArray, List.map_cons, List.map_nil, hv 10 55 rfl (by kernel_rfl)]) (bs_int _ _)) hK
            · obtain ⟨rfl, rfl⟩ := hL.at_ (by first | decide | nofun) (j := 1) rfl
              exact l_val hd (x_append (op_is rfl ho) (ty_is rfl ho) (hv 4 49 rfl (by kernel_rfl)) (hv 11 56 rfl (by kernel_rfl)) hr4) hK
            · obtain ⟨rfl, jw, hjw, rfl, hjR⟩ := hL.off (by first | decide | nofun)
              exact l_val hd (x_nil (op_is rfl ho) (hv 0 45 rfl (by kernel_rfl))) hK
            · obtain ⟨rfl, jw, hjw, rfl, hjR⟩ := hL.off (by first | decide | nofun)
              exact l_val hd (x_field (op_is rfl ho) (by rw [hv 13 58 rfl (by kernel_rfl)]; unfold pv; go_simp)) hK
            · obtain ⟨rfl, rfl⟩ := hL.at_ (by first | decide | nofun) (j := 2) rfl
              exact l_skip hd (x_store (op_is rfl ho) (by rw [hv 14 59 rfl (by kernel_rfl), hv 12 57 rfl (by kernel_rfl)]; exact st_intso hvs4 q4_o z4_o)) hK
          · intro a1 g1 g2 g3 g4
            have x0_5 := (ev_same (g3 0 (by first | decide | nofun))).trans x0_4
            have x1_5 := (ev_same (g3 1 (by first | decide | nofun))).trans x1_4
            have x2_5 := (ev_same (g3 2 (by first | decide | nofun))).trans x2_4
            have s_5 := g1.trans s_4
            have d_5 := g2.trans d_4
            clear g1 g2 g3 g4
            refine HK4.out a1 _ ?_
            clear HK4
            show Code.wp _ _ _ a1 (wo4.setCell ⟨bb, 37, none⟩ v4)
            generalize hw5 : wo4.setCell ⟨bb, 37, none⟩ v4 = w5 at *
            clear hw5
            have hff5 : ∀ i, i ≠ 37 → upd f4 37 v4 i = f4 i := fun i hi => upd_other _ _ hi
            generalize hf5 : upd f4 37 v4 = f5 at *
            clear hf5
            refine wp_seq_k fun K5 hK5 => ?_
            have HK5 : Hid _ := hK5
            clear hK5
            have h8_5 : f5 39 = .int .i64 seen := (hff5 39 (by omega)).trans h8_4
            have q5_0 := hB5.cell (i := 39) (by omega)
            rw [h8_5] at q5_0
            have z5_0 := hB5.froz 39
            refine wp_region_line [some 60, some 61, some 62, some 63, some 64, some 65, some 66, none] (fun kk => match kk with
                | 0 => pv bb 0
                | 1 => pv bb 0
                | 2 => pv bb 39
                | 3 => vi seen
                | 4 => vi (seen + 1)
                | 5 => pv bb 0
                | 6 => pv bb 39
                | 7 => undef
                | _ => undef) (by rw [s_5]; kernel_rfl) [7] (fun jj => match jj with
                | 0 => w5
                | _ => w5.setCell ⟨bb, 39, none⟩ (vi (seen + 1))) rfl (by first | decide | nofun) (by decide +kernel) ?_ ?_ ?_
            · intro kk gg bq h
              exact (no_guard (by kernel_rfl) h).elim
            · intro kk hk _ o ac wa wb K ho hd _ hoff hv hL hK
              rcases (by simp at hk; omega : kk = 0 ∨ kk = 1 ∨ kk = 2 ∨ kk = 3 ∨ kk = 4 ∨ kk = 5 ∨ kk = 6 ∨ kk = 7) with rfl | rfl | rfl | rfl | rfl | rfl | rfl | rfl
              · obtain ⟨rfl, jw, hjw, rfl, hjR⟩ := hL.off (by first | decide | nofun)
                exact l_val hd ((x_move (op_is rfl ho)).trans (by rw [(hoff 0 (by first | decide | nofun)).trans x0_5]; rfl)) hK
              · obtain ⟨rfl, jw, hjw, rfl, hjR⟩ := hL.off (by first | decide | nofun)
                exact l_val hd (x_nil (op_is rfl ho) (hv 0 60 rfl (by kernel_rfl))) hK
              · obtain ⟨rfl, jw, hjw, rfl, hjR⟩ := hL.off (by first | decide | nofun)
                exact l_val hd (x_field (op_is rfl ho) (by rw [hv 1 61 rfl (by kernel_rfl)]; unfold pv; go_simp)) hK
              · obtain ⟨rfl, jw, hjw, rfl, hjR⟩ := hL.off (by first | decide | nofun)
                have hj := hjR 0 7 rfl (by first | decide | nofun)
                obtain rfl : jw = 0 := by omega
                exact l_val hd (x_load (op_is rfl ho) (by rw [hv 2 62 rfl (by kernel_rfl)]; exact ld_int q5_0)) hK
              · obtain ⟨rfl, jw, hjw, rfl, hjR⟩ := hL.off (by first | decide | nofun)
                exact l_val hd (x_addc (op_is rfl ho) (hv 3 63 rfl (by kernel_rfl)) rfl (by omega) (by omega)) hK
              · obtain ⟨rfl, jw, hjw, rfl, hjR⟩ := hL.off (by first | decide | nofun)
                exact l_val hd (x_nil (op_is rfl ho) (hv 0 60 rfl (by kernel_rfl))) hK
              · obtain ⟨rfl, jw, hjw, rfl, hjR⟩ := hL.off (by first | decide | nofun)
                exact l_val hd (x_field (op_is rfl ho) (by rw [hv 5 65 rfl (by kernel_rfl)]; unfold pv; go_simp)) hK
              · obtain ⟨rfl, rfl⟩ := hL.at_ (by first | decide | nofun) (j := 0) rfl
                exact l_skip hd (x_store (op_is rfl ho) (by rw [hv 6 66 rfl (by kernel_rfl), hv 4 64 rfl (by kernel_rfl)]; exact st_int q5_0 z5_0)) hK
            · intro a1 g1 g2 g3 g4
              have x0_6 := (ev_same (g3 0 (by first | decide | nofun))).trans x0_5
              have x1_6 := (ev_same (g3 1 (by first | decide | nofun))).trans x1_5
              have x2_6 := (ev_same (g3 2 (by first | decide | nofun))).trans x2_5
              have s_6 := g1.trans s_5
              have d_6 := g2.trans d_5
              clear g1 g2 g3 g4
              refine HK5.out a1 _ ?_
              clear HK5
              show Code.wp _ _ _ a1 (w5.setCell ⟨bb, 39, none⟩ (vi (seen + 1)))
              have hSf6 : Stp (fun _ => False) bb C5 w5 C5 (w5.setCell ⟨bb, 39, none⟩ (vi (seen + 1))) := Stp.of (l := [bb]) ((Turned.refl [bb] w5).set (.inl (by simp)) _ _) (by intro x hx; exact .inl (by simpa using hx))
              have hF6 : Fit C5 (w5.setCell ⟨bb, 39, none⟩ (vi (seen + 1))) bb := hF5.of ((Turned.refl [bb] w5).set (.inl (by simp)) 39 (vi (seen + 1)))
              have hB6 := hB5.put (i := 39) (by omega) (vi (seen + 1))
              have hO6 := hO5.step (f' := upd f5 39 (vi (seen + 1))) hF5 hSf6 (fun _ => .inl (fun h => h)) (fun i hi => upd_other _ _ (by show 31 + i ≠ 39; omega))
              have hR6 := hR5.step hF5 hSf6 (fun h => h) (fun _ h => h)
              have hl6 := hSf6.row hF5 hl5 hln5 (by simp) (fun h => h)
              have hnt6 := hSf6.row hF5 hnt5 hnk5 (by simp) (fun h => h)
              have hT6 := hT5.trans (hSf6.mono (fun _ h => h.elim))
              generalize hw6 : w5.setCell ⟨bb, 39, none⟩ (vi (seen + 1)) = w6 at *
              clear hw6
              have hq3 : upd f5 39 (vi (seen + 1)) 3 = vi (deep + 1) := (upd_other _ _ (by omega)).trans ((hff5 3 (by omega)).trans ((hff4 3 (by omega)).trans ((hff3 3 (by omega)).trans ((hff2 3 (by omega)).trans ((congrFun hf1 3).symm.trans (upd_same _ _ _))))))
              have hqo : ∀ i, i ≠ 3 → i ≠ 33 → i ≠ 34 → i ≠ 36 → i ≠ 37 → i ≠ 39 → upd f5 39 (vi (seen + 1)) i = f i := fun i e3 e2 en em ed e8 => (upd_other _ _ e8).trans ((hff5 i ed).trans ((hff4 i em).trans ((hff3 i en).trans ((hff2 i e2).trans ((congrFun hf1 i).symm.trans (upd_other _ _ e3))))))
              have hdu := dueV_le (turn := turn) (k := seen)
              have hP : PutSlots w bb C f ot wn ⟨(Value.slice la n lc), nt, n, zs, mark, dueV turn seen, id⟩ deep seen w6 := by
                refine ⟨C5, upd f5 39 (vi (seen + 1)), hF6, hB6, ⟨?_, ?_⟩, hC1 ▸ hT6, hq3, upd_same _ _ _, hqo⟩
                · simpa using hO6
                · refine ⟨fun q hq => ?_, fun q hq => ?_, fun q hq => by simp at hq, ?_, fun _ _ x hx => by simp at hx⟩
                  · obtain ⟨p1, p2, p3, p4, p5, p6⟩ := hR6.pO q hq
                    refine ⟨p1, p2, p3, p4, p5, fun x hx => ?_⟩
                    rcases List.mem_append.1 hx with hx | hx
                    · exact p6 x hx
                    · simp at hx
                      subst hx
                      exact fun e => hio q hq e.symm
                  · rcases List.mem_append.1 hq with hq | hq
                    · exact hR6.pW q hq
                    · simp at hq
                      subst hq
                      exact ⟨hl6, hnt6, hn, hln5, hnk5, hmk, ⟨by show -2000000 ≤ dueV turn seen; omega, by show dueV turn seen ≤ 2000000; omega⟩⟩
                  · have := hR6.ids
                    simp at this ⊢
                    rw [List.nodup_append]
                    refine ⟨this, by simp, fun a ha b hb => ?_⟩
                    simp at ha hb
                    obtain ⟨q, hq, rfl⟩ := ha
                    subst hb
                    exact hid q hq
              have HD6 := HD w6 nt hP
              obtain ⟨cc, rfl, hcc⟩ := expand69 s_6 d_6
              have y0 : cc 0 = .pointer (some ⟨bb, 0, none⟩) := (hcc 0).trans x0_6
              clear hcc x0_6 x1_6 x2_6 s_6 d_6
              unfold lit69
              simp only [y0]
              go_wp2_with (go_at_call 94; refine HD6.mono ?_; rintro e w7 ⟨rfl, hRR⟩)
              refine bodyPost_end (results_none rfl _ _ _) rfl hRR
end Go.Proofs.YtjbhnpofdafmbaaGreatDoor
/- A frame, spelled out. -/
namespace Go.Proofs.YtjbhnpofdafmbaaGreatDoor
open Go.RowKit
def lit55 (c : Nat → Value) : Array Value := #[c 0, c 1, c 2, c 3, c 4, c 5, c 6, c 7, c 8, c 9, c 10, c 11, c 12, c 13, c 14, c 15, c 16, c 17, c 18, c 19, c 20, c 21, c 22, c 23, c 24, c 25, c 26, c 27, c 28, c 29, c 30, c 31, c 32, c 33, c 34, c 35, c 36, c 37, c 38, c 39, c 40, c 41, c 42, c 43, c 44, c 45, c 46, c 47, c 48, c 49, c 50, c 51, c 52, c 53, c 54]
set_option maxRecDepth 100000 in
theorem lit55_eq (c : Nat → Value) : lit55 c = ((List.range 55).map c).toArray := by rfl
theorem expand55 {a : Act} (hs : a.tmps.size = 55) (hd : a.defers = []) : ∃ c : Nat → Value, a = ⟨lit55 c, []⟩ ∧ ∀ s, c s = a.eval (.tmp s) := by
  refine ⟨fun s => a.tmps.getD s undef, ?_, fun s => rfl⟩
  obtain ⟨t, d⟩ := a
  simp only at hs hd
  subst hd
  congr 1
  rw [lit55_eq]
  refine Array.ext (by simp [hs]) fun i h1 h2 => ?_
  simp [Array.getD, h1]
end Go.Proofs.YtjbhnpofdafmbaaGreatDoor
/- Lists of slots held against each other: what the world is behind it. -/
namespace Go.Proofs.YtjbhnpofdafmbaaGreatDoor
open Go.RowKit
def slO (zs : List Int) (k : Nat) : Obj := Obj.cells #[.int .i64 (zs.getD (k * 7) 0), .int .i64 (zs.getD (k * 7 + 1) 0), .int .i64 (zs.getD (k * 7 + 2) 0), .int .i64 (zs.getD (k * 7 + 3) 0), .int .i64 (zs.getD (k * 7 + 4) 0), .int .i64 (zs.getD (k * 7 + 5) 0), .int .i64 (zs.getD (k * 7 + 6) 0)] 64
def sameW (w : World) (zs : List Int) : Nat → World
  | 0 => w
  | k + 1 => ((sameW w zs k).alloc (slO zs k)).alloc (slO zs k)
theorem sameW_turned (w : World) (zs : List Int) : ∀ k, Turned [] w (sameW w zs k)
  | 0 => Turned.refl _ _
  | k + 1 => ((sameW_turned w zs k).alloc _).alloc _
theorem cSameSlotsW {w : World} {va vb : Value} {n : Nat} {zs : List Int} (ha : IRow w 64 7 va n zs) (hb : IRow w 64 7 vb n zs) (hn : n ≤ 1000000) : Calls Tryz.prog 98 #[va, vb] w fun e w' => e = .returned (.bool true) ∧ w' = sameW w zs n := by
  obtain ⟨aa, ca, rfl⟩ := Row.shape ha
  obtain ⟨ab, cb, rfl⟩ := Row.shape hb
  have HA : Hid _ := ha
  have HB : Hid _ := hb
  clear ha hb
  go_enter Tryz.func98, Tryz.ntmps98
  go_wp2
  go_loopw [5] (fun i wx => ∃ k : Nat, k ≤ n ∧ i = .int .i64 k ∧ Hid (wx = sameW w zs k)) (fun i _ => n - (intOf i).toNat)
  case atStart => exact ⟨0, Nat.zero_le _, rfl, rfl⟩
  case round =>
    obtain ⟨k, hk, rfl, HW⟩ := hrel
    have HT : Hid (Turned [] w wr) := by
      have := sameW_turned w zs k
      rw [← HW.out] at this
      exact this
    by_cases hkn : k < n
    · obtain ⟨ga, ca', cua, ea, hga, -⟩ := Row.form HA.out (by omega)
      obtain ⟨gb, cb', cub, eb, hgb, -⟩ := Row.form HB.out (by omega)
      simp only [Value.slice.injEq, true_and] at ea eb
      obtain ⟨rfl, rfl⟩ := ea
      obtain ⟨rfl, rfl⟩ := eb
      have ra := Row.keep HA.out HT.out (by simp)
      have rb := Row.keep HB.out HT.out (by simp)
      have hla := lt_of_heap (HT.out.heap hga (by simp))
      have hlb := lt_of_heap (HT.out.heap hgb (by simp))
      have na : ¬ ga = wr.heap.size := by omega
      have nb : ¬ gb = wr.heap.size := by omega
      have na2 : ¬ ga = wr.heap.size + 1 := by omega
      have nb2 : ¬ gb = wr.heap.size + 1 := by omega
      have a0 : wr.cell? ⟨ga, k * 7, none⟩ = some (.int .i64 (zs.getD (k * 7) 0)) := IRow.cell ra (j := k * 7) (by omega)
      have a1 : wr.cell? ⟨ga, k * 7 + 1, none⟩ = some (.int .i64 (zs.getD (k * 7 + 1) 0)) := IRow.cell ra (j := k * 7 + 1) (by omega)
      have a2 : wr.cell? ⟨ga, k * 7 + 2, none⟩ = some (.int .i64 (zs.getD (k * 7 + 2) 0)) := IRow.cell ra (j := k * 7 + 2) (by omega)
      have a3 : wr.cell? ⟨ga, k * 7 + 3, none⟩ = some (.int .i64 (zs.getD (k * 7 + 3) 0)) := IRow.cell ra (j := k * 7 + 3) (by omega)
      have a4 : wr.cell? ⟨ga, k * 7 + 4, none⟩ = some (.int .i64 (zs.getD (k * 7 + 4) 0)) := IRow.cell ra (j := k * 7 + 4) (by omega)
      have a5 : wr.cell? ⟨ga, k * 7 + 5, none⟩ = some (.int .i64 (zs.getD (k * 7 + 5) 0)) := IRow.cell ra (j := k * 7 + 5) (by omega)
      have a6 : wr.cell? ⟨ga, k * 7 + 6, none⟩ = some (.int .i64 (zs.getD (k * 7 + 6) 0)) := IRow.cell ra (j := k * 7 + 6) (by omega)
      have b0 : wr.cell? ⟨gb, k * 7, none⟩ = some (.int .i64 (zs.getD (k * 7) 0)) := IRow.cell rb (j := k * 7) (by omega)
      have b1 : wr.cell? ⟨gb, k * 7 + 1, none⟩ = some (.int .i64 (zs.getD (k * 7 + 1) 0)) := IRow.cell rb (j := k * 7 + 1) (by omega)
      have b2 : wr.cell? ⟨gb, k * 7 + 2, none⟩ = some (.int .i64 (zs.getD (k * 7 + 2) 0)) := IRow.cell rb (j := k * 7 + 2) (by omega)
      have b3 : wr.cell? ⟨gb, k * 7 + 3, none⟩ = some (.int .i64 (zs.getD (k * 7 + 3) 0)) := IRow.cell rb (j := k * 7 + 3) (by omega)
      have b4 : wr.cell? ⟨gb, k * 7 + 4, none⟩ = some (.int .i64 (zs.getD (k * 7 + 4) 0)) := IRow.cell rb (j := k * 7 + 4) (by omega)
      have b5 : wr.cell? ⟨gb, k * 7 + 5, none⟩ = some (.int .i64 (zs.getD (k * 7 + 5) 0)) := IRow.cell rb (j := k * 7 + 5) (by omega)
      have b6 : wr.cell? ⟨gb, k * 7 + 6, none⟩ = some (.int .i64 (zs.getD (k * 7 + 6) 0)) := IRow.cell rb (j := k * 7 + 6) (by omega)
      generalize e0 : zs.getD (k * 7) 0 = z0 at a0 b0
      generalize e1 : zs.getD (k * 7 + 1) 0 = z1 at a1 b1
      generalize e2 : zs.getD (k * 7 + 2) 0 = z2 at a2 b2
      generalize e3 : zs.getD (k * 7 + 3) 0 = z3 at a3 b3
      generalize e4 : zs.getD (k * 7 + 4) 0 = z4 at a4 b4
      generalize e5 : zs.getD (k * 7 + 5) 0 = z5 at a5 b5
      generalize e6 : zs.getD (k * 7 + 6) 0 = z6 at a6 b6
      have HS : Hid (sameW w zs (k + 1) = ((wr.alloc (Obj.cells #[.int .i64 z0, .int .i64 z1, .int .i64 z2, .int .i64 z3, .int .i64 z4, .int .i64 z5, .int .i64 z6] 64)).alloc (Obj.cells #[.int .i64 z0, .int .i64 z1, .int .i64 z2, .int .i64 z3, .int .i64 z4, .int .i64 z5, .int .i64 z6] 64))) := by
        show ((sameW w zs k).alloc (slO zs k)).alloc (slO zs k) = _
        rw [← HW.out]
        unfold slO
        rw [e0, e1, e2, e3, e4, e5, e6]
      have hlt : (k : Int) < (n : Int) := by omega
      clear ra rb hga hgb e0 e1 e2 e3 e4 e5 e6 HW HT
      go_wp2
      exact ⟨⟨k + 1, by omega, by go_num, HS.out.symm⟩, by simp [intOf]; omega⟩
    · have : k = n := by omega
      subst this
      go_wp2
      go_ret
      exact ⟨rfl, HW.out⟩
end Go.Proofs.YtjbhnpofdafmbaaGreatDoor

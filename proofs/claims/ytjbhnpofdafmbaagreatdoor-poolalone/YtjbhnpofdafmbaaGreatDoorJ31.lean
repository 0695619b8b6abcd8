/- The document's pool alone: Give, Back, Read. -/
import Derived.Test.YtjbhnpofdafmbaaGreatDoorJ30
namespace Go.Proofs.YtjbhnpofdafmbaaGreatDoor
open Go.RowKit
section
variable {tb c i : Nat} {w : World} {T : List Nat} {r : RB} {s : PSt}
theorem cRPushP (hT : Th T w tb r.m c) (hR : RP w r s) (hn : s.n ≤ 4096) (hc : c ≤ 750000) (hg : r.g ∉ T) (h0 : 0 ≤ s.h) (h1 : s.h ≤ 1152921504606846975) (hi : i ≤ s.n) : Calls Tryz.prog 81 #[.pointer (some ⟨r.p, 0, none⟩), .pointer (some ⟨tb, 0, none⟩), .int .i64 (i : Nat)] w fun e w' => e = .returned (.tuple #[]) ∧ ∃ T', RGo r T w tb (c + 6) { s with h := nextV s.h i, f := upd s.f i (idxV s.h).toNat } T' w' := by
  refine (cRPush (i := i) hT hR.mem hR.pile (by omega) hg hR.pg (by omega) (by omega) (by omega) (by omega) (by rw [memF_h]; exact h0) (by rw [memF_h]; exact h1)).mono ?_
  rintro e w' ⟨rfl, m, T', d⟩
  have hx := idx_nat h0
  rw [memF_h, show idxV s.h = (((idxV s.h).toNat : Nat) : Int) by omega, ← memF_setF s hi, ← memF_setH] at m
  exact ⟨rfl, T', RGo.words (s' := { s with h := nextV s.h i, f := upd s.f i (idxV s.h).toNat }) hT hR hg m d rfl rfl (fun _ _ _ => rfl)⟩
end
set_option maxRecDepth 100000 in
set_option maxHeartbeats 1600000 in
theorem rgive_r13 {K : Act → World → Prop} {Q : Exit → Act → World → Prop} {a : Act} {w : World} {tb c i xb : Nat} {T : List Nat} {r : RB} {s : PSt} (hs : a.tmps.size = 56) (x0 : a.eval (.tmp 0) = pv r.q 0) (x7 : a.eval (.tmp 7) = vi (i : Nat)) (x10 : a.eval (.tmp 10) = pv xb 0) (hT : Th T w tb r.m c) (hR : RP w r s) (hg : r.g ∉ T) (hi : i ≤ s.n) (hN : w.heap[xb]? = some (nodeObj (-7777777) (-7777777) (-7777777) (-7777777)))
    (hEnd : ∀ a1 w1, a1.tmps.size = a.tmps.size → a1.defers = a.defers → (∀ s : Nat, s < 41 → a1.eval (.tmp s) = a.eval (.tmp s)) → (RGo r T w tb c { s with slot := upd s.slot i ⟨(s.slot i).gen, -7777777, -7777777, -7777777, -7777777, -7777777, -7777777⟩ } T w1) → K a1 w1) :
    (Code.region 13 (opsOf 13 Tryz.f21.body) true).wp Tryz.prog (Exit.then K Q) a w := by
  refine wp_region_chainP (by kernel_rfl) [some 41, some 42, some 43, some 44, some 45, some 46, some 47, some 48, none] (fun kk => match kk with
      | 0 => pv r.q 0
      | 1 => pv r.q 0
      | 2 => pv r.q 4
      | 3 => Value.slice (some ⟨r.b, 0, none⟩) (s.n + 1) (s.n + 1)
      | 4 => vi (i : Nat)
      | 5 => nodeV4 (-7777777) (-7777777) (-7777777) (-7777777)
      | 6 => rowV ⟨0, -7777777, -7777777, -7777777, -7777777, -7777777, -7777777⟩
      | 7 => pv r.b (i * 7)
      | 8 => undef
      | _ => undef) (by rw [hs]; kernel_rfl) [8] (fun jj => match jj with
      | 0 => fun x => x = w.drew
      | _ => fun x => RGo r T w tb c { s with slot := upd s.slot i ⟨(s.slot i).gen, -7777777, -7777777, -7777777, -7777777, -7777777, -7777777⟩ } T x) rfl (by decide) (by decide +kernel) ?_ ?_ ?_
  · intro kk gg bq h
    exact (no_guard (by kernel_rfl) h).elim
  · intro kk hk _ o ac wa M K ho hd _ hoff hv hpre hL hK
    rcases (by simp at hk; omega : kk = 0 ∨ kk = 1 ∨ kk = 2 ∨ kk = 3 ∨ kk = 4 ∨ kk = 5 ∨ kk = 6 ∨ kk = 7 ∨ kk = 8) with rfl | rfl | rfl | rfl | rfl | rfl | rfl | rfl | rfl
    · obtain ⟨hM, jw, hjw, hW, hjR⟩ := hL.off (by decide)
      replace hK := hK _ hM
      exact l_val hd ((x_move (op_is rfl ho)).trans (by rw [(hoff 0 (by decide)).trans x0]; rfl)) hK
    · obtain ⟨hM, jw, hjw, hW, hjR⟩ := hL.off (by decide)
      replace hK := hK _ hM
      exact l_val hd (x_nil (op_is rfl ho) (hv 0 41 rfl (by kernel_rfl))) hK
    · obtain ⟨hM, jw, hjw, hW, hjR⟩ := hL.off (by decide)
      replace hK := hK _ hM
      exact l_val hd (x_field (op_is rfl ho) (by rw [hv 1 42 rfl (by kernel_rfl)]; unfold pv; go_simp)) hK
    · obtain ⟨hM, jw, hjw, hW, hjR⟩ := hL.off (by decide)
      replace hK := hK _ hM
      have hj := hjR 0 8 rfl (by decide +kernel)
      obtain rfl : jw = 0 := by omega
      exact l_val hd (x_load (op_is rfl ho) (by rw [hv 2 43 rfl (by kernel_rfl)]; refine ld_slots ?_; exact (show wa = w.drew from hW) ▸ hR.c4)) hK
    · obtain ⟨hM, jw, hjw, hW, hjR⟩ := hL.off (by decide)
      replace hK := hK _ hM
      exact l_val hd ((x_move (op_is rfl ho)).trans (by rw [(hoff 7 (by decide)).trans x7]; rfl)) hK
    · obtain ⟨hM, jw, hjw, hW, hjR⟩ := hL.off (by decide)
      replace hK := hK _ hM
      have hj := hjR 0 8 rfl (by decide +kernel)
      obtain rfl : jw = 0 := by omega
      have hW : wa = w.drew := hW
      subst hW
      exact l_val hd (x_load (op_is rfl ho) (by rw [(hoff 10 (by decide)).trans x10]; exact run_loadNode (w := w.drew) hN)) hK
    · obtain ⟨hM, jw, hjw, hW, hjR⟩ := hL.off (by decide)
      replace hK := hK _ hM
      exact l_val hd (x_build1 (qs := #[(1, nodeV4 (-7777777) (-7777777) (-7777777) (-7777777)), (2, vi (-7777777)), (3, vi (-7777777))]) (op_is rfl ho) (by simp only [List.map_toArray, List.map_cons, List.map_nil, hv 5 46 rfl (by kernel_rfl)]; rfl) (bld_row2 _ _ _ _ _ _ _)) hK
    · obtain ⟨hM, jw, hjw, hW, hjR⟩ := hL.off (by decide)
      replace hK := hK _ hM
      exact l_val hd (x_index (op_is rfl ho) (by rw [hv 3 44 rfl (by kernel_rfl), hv 4 45 rfl (by kernel_rfl)]; exact ix_slots _ _ _ _ hi)) hK
    · obtain ⟨hW, rfl⟩ := hL.at_ (by decide) (j := 0) rfl
      have hW : wa = w.drew := hW
      subst hW
      exact l_skip hd (x_store (op_is rfl ho) (by rw [hv 7 48 rfl (by kernel_rfl), hv 6 47 rfl (by kernel_rfl)]; exact (st_slot (i := i) hR.drew.slots hi ⟨(s.slot i).gen, -7777777, -7777777, -7777777, -7777777, -7777777, -7777777⟩))) (hK _ (RGo.set hT.drew hR.drew hg (hR.drew.all7 (i := i) ⟨(s.slot i).gen, -7777777, -7777777, -7777777, -7777777, -7777777, -7777777⟩ rfl) (b := r.b) (by simp [RB.all]) (rowW_turned _)).undrew)
  · intro a1 g1 g2 g3 g4 w1 hW
    exact hEnd a1 w1 g1 g2 (fun s hs'  => ev_same (g3 s (fun hm => by simp at hm; omega))) hW
/-- Some of a node's numbers were kept. -/
structure RK (r : RB) (T : List Nat) (w : World) (tb c : Nat) (s : PSt) (xb zb : Nat) (S : Slot) (z0 z1 z2 z3 : Value) (k : Nat) (x : World) : Prop where
  go : ∃ T1, RGo r T w tb (c + k) s T1 x
  nd : x.heap[xb]? = some (nodeObj S.a S.b S.c S.d)
  zd : x.heap[zb]? = some (.cells #[z0, z1, z2, z3] 43 (0, 0))
theorem cRKeptK {r : RB} {T : List Nat} {w : World} {tb c : Nat} {s : PSt} {xb zb : Nat} {S : Slot} {z0 z1 z2 z3 : Value} {k : Nat} {x : World} {v : Int} (h : RK r T w tb c s xb zb S z0 z1 z2 z3 k x) (hc : c + k ≤ 900000) : Calls Tryz.prog 75 #[.pointer (some ⟨tb, 0, none⟩), .int .i64 v] x fun e w' => e = .returned (.int .i64 v) ∧ RK r T w tb c s xb zb S z0 z1 z2 z3 (k + 1) w' := by
  obtain ⟨⟨T1, hg⟩, hn, hz⟩ := h
  refine (cRKept (v := v) hg.did.th hc).mono ?_
  rintro e w' ⟨rfl, T2, d⟩
  have k2 := RGo.read hg.did.th hg.rp hg.out d
  exact ⟨rfl, ⟨T2, hg.trans k2⟩, k2.other hg.did.th hg.rp hn (by decide), k2.other hg.did.th hg.rp hz (by decide)⟩
def set4 (x : World) (b : Nat) (S : Slot) : World := (((x.setCell ⟨b, 0, none⟩ (.int .i64 S.a)).setCell ⟨b, 1, none⟩ (.int .i64 S.b)).setCell ⟨b, 2, none⟩ (.int .i64 S.c)).setCell ⟨b, 3, none⟩ (.int .i64 S.d)
theorem set4_obj {x : World} {b : Nat} {z0 z1 z2 z3 : Value} (h : x.heap[b]? = some (.cells #[z0, z1, z2, z3] 43 (0, 0))) (S : Slot) : (set4 x b S).heap[b]? = some (nodeObj S.a S.b S.c S.d) := by
  have h0 := blk_set h 0 (.int .i64 S.a)
  have h1 := blk_set h0 1 (.int .i64 S.b)
  have h2 := blk_set h1 2 (.int .i64 S.c)
  have h3 := blk_set h2 3 (.int .i64 S.d)
  unfold set4
  simpa using h3
theorem set4_turned (x : World) (b : Nat) (S : Slot) : Turned [b] x (set4 x b S) := by
  have m : b ∈ [b] ∨ x.heap.size ≤ b := .inl (by simp)
  exact ((((Turned.refl [b] x).set m _ _).set m _ _).set m _ _).set m _ _
theorem ld_nodeI {w : World} {b : Nat} {S : Slot} (h : w.heap[b]? = some (nodeObj S.a S.b S.c S.d)) : w.cell? ⟨b, 0, none⟩ = some (.int .i64 S.a) ∧ w.cell? ⟨b, 1, none⟩ = some (.int .i64 S.b) ∧ w.cell? ⟨b, 2, none⟩ = some (.int .i64 S.c) ∧ w.cell? ⟨b, 3, none⟩ = some (.int .i64 S.d) := by
  have n0 := cell_at h 0
  have n1 := cell_at h 1
  have n2 := cell_at h 2
  have n3 := cell_at h 3
  simp at n0 n1 n2 n3
  exact ⟨n0, n1, n2, n3⟩
/-- The answer's own memory is written. -/
theorem RGo.answer {r : RB} {T T1 : List Nat} {w x : World} {tb c zb : Nat} {s s1 : PSt} {z0 z1 z2 z3 : Value} (h : RGo r T w tb c s1 T1 x) (hR : RP w r s) (hz : w.heap.size ≤ zb) (hzd : x.heap[zb]? = some (.cells #[z0, z1, z2, z3] 43 (0, 0))) (S : Slot) : RGo r T w tb c s1 T1 (set4 x zb S) := by
  have ht := set4_turned x zb S
  have hzT : zb ∉ T1 := h.did.th.ty hzd (by decide) (by decide)
  have hzr : zb ∉ r.all := fun hm => by have := hR.lt zb hm; omega
  refine ⟨h.rp.turned ht (by simpa using hzr), h.out, h.did.th.turned ht (by simpa using hzT), h.did.wide, h.did.turned.inner ht (fun y hy => ?_)⟩
  simp at hy
  subst hy
  exact .inr hz
set_option maxRecDepth 100000 in
set_option maxHeartbeats 1600000 in
theorem rread_r5 {K : Act → World → Prop} {Q : Exit → Act → World → Prop} {a : Act} {w : World} {tb c xb zb : Nat} {T : List Nat} {r : RB} {s : PSt} {S : Slot} {z0 z1 z2 z3 : Value} (hs : a.tmps.size = 53) (x1 : a.eval (.tmp 1) = pv tb 0) (x6 : a.eval (.tmp 6) = pv zb 0) (x10 : a.eval (.tmp 10) = pv xb 0) (hc : c ≤ 800000) (h0 : RK r T w tb c s xb zb S z0 z1 z2 z3 0 w.drew)
    (hEnd : ∀ a1 w1, a1.tmps.size = a.tmps.size → a1.defers = a.defers → (∀ s : Nat, s < 7 → a1.eval (.tmp s) = a.eval (.tmp s)) → a1.eval (.tmp 7) = vi 0 → (∃ y, RK r T w tb c s xb zb S z0 z1 z2 z3 4 y ∧ w1 = set4 y zb S) → K a1 w1) :
    (Code.region 5 (opsOf 5 Tryz.f22.body) true).wp Tryz.prog (Exit.then K Q) a w := by
  refine wp_region_chainP (by kernel_rfl) [some 36, some 37, some 38, some 39, some 40, some 41, some 42, some 43, some 44, some 45, some 46, some 47, some 48, some 49, some 50, some 51, some 52, none, some 7] (fun kk => match kk with
      | 0 => pv tb 0
      | 1 => pv xb 0
      | 2 => vi S.a
      | 3 => vi S.a
      | 4 => pv tb 0
      | 5 => pv xb 1
      | 6 => vi S.b
      | 7 => vi S.b
      | 8 => pv tb 0
      | 9 => pv xb 2
      | 10 => vi S.c
      | 11 => vi S.c
      | 12 => pv tb 0
      | 13 => pv xb 3
      | 14 => vi S.d
      | 15 => vi S.d
      | 16 => nodeV4 S.a S.b S.c S.d
      | 17 => undef
      | 18 => Value.int IntKind.i64 (0)
      | _ => undef) (by rw [hs]; kernel_rfl) [3, 7, 11, 15, 17] (fun jj => match jj with
      | 0 => fun x => RK r T w tb c s xb zb S z0 z1 z2 z3 0 x
      | 1 => fun x => RK r T w tb c s xb zb S z0 z1 z2 z3 1 x
      | 2 => fun x => RK r T w tb c s xb zb S z0 z1 z2 z3 2 x
      | 3 => fun x => RK r T w tb c s xb zb S z0 z1 z2 z3 3 x
      | 4 => fun x => RK r T w tb c s xb zb S z0 z1 z2 z3 4 x
      | _ => fun x => ∃ y, RK r T w tb c s xb zb S z0 z1 z2 z3 4 y ∧ x = set4 y zb S) h0 (by decide) (by decide +kernel) ?_ ?_ ?_
  · intro kk gg bq h
    exact (no_guard (by kernel_rfl) h).elim
  · intro kk hk _ o ac wa M K ho hd _ hoff hv hpre hL hK
    rcases (by simp at hk; omega : kk = 0 ∨ kk = 1 ∨ kk = 2 ∨ kk = 3 ∨ kk = 4 ∨ kk = 5 ∨ kk = 6 ∨ kk = 7 ∨ kk = 8 ∨ kk = 9 ∨ kk = 10 ∨ kk = 11 ∨ kk = 12 ∨ kk = 13 ∨ kk = 14 ∨ kk = 15 ∨ kk = 16 ∨ kk = 17 ∨ kk = 18) with rfl | rfl | rfl | rfl | rfl | rfl | rfl | rfl | rfl | rfl | rfl | rfl | rfl | rfl | rfl | rfl | rfl | rfl | rfl
    · obtain ⟨hM, jw, hjw, hW, hjR⟩ := hL.off (by decide)
      replace hK := hK _ hM
      exact l_val hd ((x_move (op_is rfl ho)).trans (by rw [(hoff 1 (by decide)).trans x1]; rfl)) hK
    · obtain ⟨hM, jw, hjw, hW, hjR⟩ := hL.off (by decide)
      replace hK := hK _ hM
      exact l_val hd (x_field (op_is rfl ho) (by rw [(hoff 10 (by decide)).trans x10]; unfold pv; go_simp)) hK
    · obtain ⟨hM, jw, hjw, hW, hjR⟩ := hL.off (by decide)
      replace hK := hK _ hM
      have hj := hjR 0 3 rfl (by decide +kernel)
      obtain rfl : jw = 0 := by omega
      exact l_val hd (x_load (op_is rfl ho) (by rw [hv 1 37 rfl (by kernel_rfl)]; refine ld_int ?_; exact (ld_nodeI hW.nd).1)) hK
    · obtain ⟨hW, rfl⟩ := hL.at_ (by decide) (j := 0) rfl
      exact l_callP hd (op_is rfl ho) (by simp only [List.map_toArray, List.map_cons, List.map_nil, hv 0 36 rfl (by kernel_rfl), hv 2 38 rfl (by kernel_rfl)] <;> rfl) Tryz.func75 (by kernel_rfl) (by rfl) (cRKeptK (v := S.a) hW (by omega)) hK
    · obtain ⟨hM, jw, hjw, hW, hjR⟩ := hL.off (by decide)
      replace hK := hK _ hM
      exact l_val hd ((x_move (op_is rfl ho)).trans (by rw [(hoff 1 (by decide)).trans x1]; rfl)) hK
    · obtain ⟨hM, jw, hjw, hW, hjR⟩ := hL.off (by decide)
      replace hK := hK _ hM
      exact l_val hd (x_field (op_is rfl ho) (by rw [(hoff 10 (by decide)).trans x10]; unfold pv; go_simp)) hK
    · obtain ⟨hM, jw, hjw, hW, hjR⟩ := hL.off (by decide)
      replace hK := hK _ hM
      have hj := hjR 1 7 rfl (by decide +kernel)
      rcases (by omega : jw = 0 ∨ jw = 1) with rfl | rfl
      · exact l_val hd (x_load (op_is rfl ho) (by rw [hv 5 41 rfl (by kernel_rfl)]; refine ld_int ?_; exact (ld_nodeI hW.nd).2.1)) hK
      · exact l_val hd (x_load (op_is rfl ho) (by rw [hv 5 41 rfl (by kernel_rfl)]; refine ld_int ?_; exact (ld_nodeI hW.nd).2.1)) hK
    · obtain ⟨hW, rfl⟩ := hL.at_ (by decide) (j := 1) rfl
      exact l_callP hd (op_is rfl ho) (by simp only [List.map_toArray, List.map_cons, List.map_nil, hv 4 40 rfl (by kernel_rfl), hv 6 42 rfl (by kernel_rfl)] <;> rfl) Tryz.func75 (by kernel_rfl) (by rfl) (cRKeptK (v := S.b) hW (by omega)) hK
    · obtain ⟨hM, jw, hjw, hW, hjR⟩ := hL.off (by decide)
      replace hK := hK _ hM
      exact l_val hd ((x_move (op_is rfl ho)).trans (by rw [(hoff 1 (by decide)).trans x1]; rfl)) hK
    · obtain ⟨hM, jw, hjw, hW, hjR⟩ := hL.off (by decide)
      replace hK := hK _ hM
      exact l_val hd (x_field (op_is rfl ho) (by rw [(hoff 10 (by decide)).trans x10]; unfold pv; go_simp)) hK
    · obtain ⟨hM, jw, hjw, hW, hjR⟩ := hL.off (by decide)
      replace hK := hK _ hM
      have hj := hjR 2 11 rfl (by decide +kernel)
      rcases (by omega : jw = 0 ∨ jw = 1 ∨ jw = 2) with rfl | rfl | rfl
      · exact l_val hd (x_load (op_is rfl ho) (by rw [hv 9 45 rfl (by kernel_rfl)]; refine ld_int ?_; exact (ld_nodeI hW.nd).2.2.1)) hK
      · exact l_val hd (x_load (op_is rfl ho) (by rw [hv 9 45 rfl (by kernel_rfl)]; refine ld_int ?_; exact (ld_nodeI hW.nd).2.2.1)) hK
      · exact l_val hd (x_load (op_is rfl ho) (by rw [hv 9 45 rfl (by kernel_rfl)]; refine ld_int ?_; exact (ld_nodeI hW.nd).2.2.1)) hK
    · obtain ⟨hW, rfl⟩ := hL.at_ (by decide) (j := 2) rfl
      exact l_callP hd (op_is rfl ho) (by simp only [List.map_toArray, List.map_cons, List.map_nil, hv 8 44 rfl (by kernel_rfl), hv 10 46 rfl (by kernel_rfl)] <;> rfl) Tryz.func75 (by kernel_rfl) (by rfl) (cRKeptK (v := S.c) hW (by omega)) hK
    · obtain ⟨hM, jw, hjw, hW, hjR⟩ := hL.off (by decide)
      replace hK := hK _ hM
      exact l_val hd ((x_move (op_is rfl ho)).trans (by rw [(hoff 1 (by decide)).trans x1]; rfl)) hK
    · obtain ⟨hM, jw, hjw, hW, hjR⟩ := hL.off (by decide)
      replace hK := hK _ hM
      exact l_val hd (x_field (op_is rfl ho) (by rw [(hoff 10 (by decide)).trans x10]; unfold pv; go_simp)) hK
    · obtain ⟨hM, jw, hjw, hW, hjR⟩ := hL.off (by decide)
      replace hK := hK _ hM
      have hj := hjR 3 15 rfl (by decide +kernel)
      rcases (by omega : jw = 0 ∨ jw = 1 ∨ jw = 2 ∨ jw = 3) with rfl | rfl | rfl | rfl
      · exact l_val hd (x_load (op_is rfl ho) (by rw [hv 13 49 rfl (by kernel_rfl)]; refine ld_int ?_; exact (ld_nodeI hW.nd).2.2.2)) hK
      · exact l_val hd (x_load (op_is rfl ho) (by rw [hv 13 49 rfl (by kernel_rfl)]; refine ld_int ?_; exact (ld_nodeI hW.nd).2.2.2)) hK
      · exact l_val hd (x_load (op_is rfl ho) (by rw [hv 13 49 rfl (by kernel_rfl)]; refine ld_int ?_; exact (ld_nodeI hW.nd).2.2.2)) hK
      · exact l_val hd (x_load (op_is rfl ho) (by rw [hv 13 49 rfl (by kernel_rfl)]; refine ld_int ?_; exact (ld_nodeI hW.nd).2.2.2)) hK
    · obtain ⟨hW, rfl⟩ := hL.at_ (by decide) (j := 3) rfl
      exact l_callP hd (op_is rfl ho) (by simp only [List.map_toArray, List.map_cons, List.map_nil, hv 12 48 rfl (by kernel_rfl), hv 14 50 rfl (by kernel_rfl)] <;> rfl) Tryz.func75 (by kernel_rfl) (by rfl) (cRKeptK (v := S.d) hW (by omega)) hK
    · obtain ⟨hM, jw, hjw, hW, hjR⟩ := hL.off (by decide)
      replace hK := hK _ hM
      exact l_val hd (x_build1 (op_is rfl ho) (by simp only [List.map_toArray, List.map_cons, List.map_nil, hv 3 39 rfl (by kernel_rfl), hv 7 43 rfl (by kernel_rfl), hv 11 47 rfl (by kernel_rfl), hv 15 51 rfl (by kernel_rfl)]) (bld_node _ _ _ _ _)) hK
    · obtain ⟨hW, rfl⟩ := hL.at_ (by decide) (j := 4) rfl
      exact l_skip hd (x_store (op_is rfl ho) (by rw [(hoff 6 (by decide)).trans x6, hv 16 52 rfl (by kernel_rfl)]; exact st_node hW.zd S.a S.b S.c S.d)) (hK _ ⟨wa, hW, rfl⟩)
    · obtain ⟨hM, jw, hjw, hW, hjR⟩ := hL.off (by decide)
      replace hK := hK _ hM
      exact l_val (v := Value.int IntKind.i64 (0)) hd ((x_assign (op_is (p := .assign (.const (Value.int IntKind.i64 (0)))) rfl ho)).trans rfl) hK
  · intro a1 g1 g2 g3 g4 w1 hW
    exact hEnd a1 w1 g1 g2 (fun s hs'  => ev_same (g3 s (fun hm => by simp at hm; omega))) (g4 18 7 rfl) hW
section
variable {tb c i : Nat} {w : World} {T : List Nat} {r : RB} {s : PSt} {x g : Int}
set_option maxRecDepth 100000 in
set_option maxHeartbeats 1600000 in
theorem cRGiveBad (hT : Th T w tb r.m c) (hR : RP w r s) (hc : c ≤ 700000) (hg : r.g ∉ T) (hx : NoHandle s.n x) : Calls Tryz.prog 21 #[.pointer (some ⟨r.q, 0, none⟩), .pointer (some ⟨tb, 0, none⟩), .int .i64 x] w fun e w' => e = .returned (.int .i64 103) ∧ ∃ T', RGo r T w tb (c + 20) s T' w' := by
  have HH := cRIsHandleNo hR hx
  have HL := cRLine hT (by omega)
  have HD : Hid (∀ T1 w1, Did [] T w tb r.m (c + 2) T1 w1 → RGo r T w tb (c + 20) s T1 w1) := fun T1 w1 d => RGo.read hT hR hg (d.up (by omega))
  clear hT hR hx
  go_enter Tryz.func21, Tryz.ntmps21
  go_wp2_with (first
    | (go_at_call 76; refine HH.mono ?_; rintro e w' ⟨rfl, hw⟩; obtain rfl := hw.symm)
    | (go_at_call 77; refine HL.mono ?_; rintro e w1 ⟨rfl, T1, d1⟩; have HD1 : Hid _ := HD.out T1 w1 d1; clear d1 HL HD HH))
  go_ret
  exact ⟨rfl, _, HD1.out⟩
set_option maxRecDepth 100000 in
set_option maxHeartbeats 1600000 in
theorem cRGiveGone (hT : Th T w tb r.m c) (hR : RP w r s) (hn : s.n ≤ 4096) (hc : c ≤ 700000) (hg : r.g ∉ T) (hx : IsHandle s.n x i g) (hgen : (s.slot i).gen ≠ g) : Calls Tryz.prog 21 #[.pointer (some ⟨r.q, 0, none⟩), .pointer (some ⟨tb, 0, none⟩), .int .i64 x] w fun e w' => e = .returned (.int .i64 104) ∧ ∃ T', RGo r T w tb (c + 20) s T' w' := by
  have h1 := hx.i1
  have h2 := hx.i2
  have h3 := hx.g0
  have h4 := hx.g1
  have HI := cRIndex x
  have HG := rTag x
  rw [hx.eq, hnd_idx (by omega) h3 (by omega), ← hx.eq] at HI
  rw [hx.eq, hnd_tag (by omega) h3 (by omega), ← hx.eq] at HG
  have HH := cRIsHandle hR hn hx
  have p2 := hR.c2
  have HC := fun v => cRCasNot (a := s.n + 2 + i) (old := g) (v := v) (by rw [memF_g]; exact hgen) hT hR.mem (by omega) hg (by omega)
  rw [show ((s.n + 2 + i : Nat) : Int) = (s.n : Int) + 2 + (i : Int) by omega] at HC
  have HD : Hid (∀ T1 w1, Did [] T w tb r.m (c + 2) T1 w1 → RGo r T w tb (c + 20) s T1 w1) := fun T1 w1 d => RGo.read hT hR hg (d.up (by omega))
  clear hT hR hx
  go_enter Tryz.func21, Tryz.ntmps21
  go_wp2_with (first
    | (go_at_call 76; refine HH.mono ?_; rintro e w' ⟨rfl, hw⟩; obtain rfl := hw.symm)
    | (go_at_call 78; refine (HI _).mono ?_; rintro e w' ⟨rfl, hw⟩; obtain rfl := hw.symm)
    | (go_at_call 79; refine (HG _).mono ?_; rintro e w' ⟨rfl, hw⟩; obtain rfl := hw.symm)
    | (go_at_call 80; refine (HC _).mono ?_; rintro e w1 ⟨rfl, T1, d1⟩; have HD1 : Hid _ := HD.out T1 w1 d1; have o1 := d1.th.m2; clear d1 HC HD HH))
  go_ret
  exact ⟨rfl, _, HD1.out⟩
set_option maxRecDepth 100000 in
set_option maxHeartbeats 1600000 in
theorem cRGive (hT : Th T w tb r.m c) (hR : RP w r s) (hn : s.n ≤ 4096) (hc : c ≤ 700000) (hg : r.g ∉ T) (ho : s.Ok) (hx : IsHandle s.n x i g) (hgen : (s.slot i).gen = g) (g3 : g ≤ 100000) : Calls Tryz.prog 21 #[.pointer (some ⟨r.q, 0, none⟩), .pointer (some ⟨tb, 0, none⟩), .int .i64 x] w fun e w' => e = .returned (.int .i64 0) ∧ ∃ T', RGo r T w tb (c + 20) (s.give i (-7777777)) T' w' := by
  have h1 := hx.i1
  have h2 := hx.i2
  have h3 := hx.g0
  have h4 := hx.g1
  have HI := cRIndex x
  have HG := rTag x
  rw [hx.eq, hnd_idx (by omega) h3 (by omega), ← hx.eq] at HI
  rw [hx.eq, hnd_tag (by omega) h3 (by omega), ← hx.eq] at HG
  have HH := cRIsHandle hR hn hx
  have p2 := hR.c2
  have HC := cRCas (a := s.n + 2 + i) (old := g) (v := g + 1) (by rw [memF_g]; exact hgen) hT hR.mem (by omega) hg (by omega)
  rw [show updI (memF s) (s.n + 2 + i) (g + 1) = memF { s with slot := upd s.slot i { s.slot i with gen := g + 1 } } from (memF_setG s i { s.slot i with gen := g + 1 }).symm, show ((s.n + 2 + i : Nat) : Int) = (s.n : Int) + 2 + (i : Int) by omega] at HC
  have HD : Hid (∀ T1 w1, MemAt w1 r.m r.g (2 * s.n + 3) (memF { s with slot := upd s.slot i { s.slot i with gen := g + 1 } }) → Did [r.g] T w tb r.m (c + 2) T1 w1 → RGo r T w tb (c + 2) { s with slot := upd s.slot i { s.slot i with gen := g + 1 } } T1 w1) := fun T1 w1 m d => RGo.words (s' := { s with slot := upd s.slot i { s.slot i with gen := g + 1 } }) hT hR hg m d rfl rfl (fun j k _ => by
    show rfld (upd s.slot i _ j) k = _
    by_cases e : j = i
    · subst e
      rw [upd_same]
      match k with
      | 0 => rfl
      | 1 => rfl
      | 2 => rfl
      | 3 => rfl
      | 4 => rfl
      | 5 => rfl
      | k + 6 => rfl
    · rw [upd_other _ _ e])
  clear hT hR hx
  go_enter Tryz.func21, Tryz.ntmps21
  go_wp2_with (first
    | (go_at_call 76; refine HH.mono ?_; rintro e w' ⟨rfl, hw⟩; obtain rfl := hw.symm)
    | (go_at_call 78; refine (HI _).mono ?_; rintro e w' ⟨rfl, hw⟩; obtain rfl := hw.symm)
    | (go_at_call 79; refine (HG _).mono ?_; rintro e w' ⟨rfl, hw⟩; obtain rfl := hw.symm)
    | (go_at_call 80; refine HC.mono ?_; rintro e w1 ⟨rfl, m1, T1, d1⟩; have k1 := HD.out T1 w1 m1 d1; have o1 := d1.th.m2; have HF := cRFresh k1.did.th (by omega); have HK1 : Hid _ := k1; clear d1 HC HD HH m1 k1)
    | (go_at_call 71; refine HF.mono ?_; rintro e w2 ⟨rfl, T2, d2⟩; have k2 := RGo.read HK1.out.did.th HK1.out.rp HK1.out.out d2; have HK2 : Hid _ := k2; clear d2 HF k2))
  rename_i K0 hK0
  have k2 := HK2.out
  have hN : (w2.alloc (nodeObj (-7777777) (-7777777) (-7777777) (-7777777))).heap[w2.heap.size]? = some (nodeObj (-7777777) (-7777777) (-7777777) (-7777777)) := blk_new w2 _
  refine wp_fall ?_
  refine rgive_r13 (i := i) (xb := w2.heap.size) (T := T2) rfl rfl rfl rfl (k2.did.th.alloc _) (k2.rp.alloc _) k2.out h2 hN ?_
  intro a1 w3 s1 d1 e1 k3
  have eg : ∀ S : Slot, (upd (upd s.slot i { s.slot i with gen := g + 1 }) i S) = upd s.slot i S := fun S => by
    funext j
    by_cases e : j = i
    · subst e; rw [upd_same, upd_same]
    · rw [upd_other _ _ e, upd_other _ _ e, upd_other _ _ e]
  simp only [eg, upd_same] at k3
  have HPu := cRPushP (i := i) k3.did.th k3.rp hn (by omega) k3.out ho.h0 ho.h1 h2
  have q1 := k3.rp.c1
  obtain ⟨cc, rfl, hcc⟩ := expand56 s1 d1
  have y0 : cc 0 = .pointer (some ⟨r.q, 0, none⟩) := (hcc 0).trans (e1 0 (by omega))
  have y1 : cc 1 = .pointer (some ⟨tb, 0, none⟩) := (hcc 1).trans (e1 1 (by omega))
  have y7 : cc 7 = .int .i64 (i : Nat) := (hcc 7).trans (e1 7 (by omega))
  have HK3 : Hid _ := k3.unalloc
  clear hcc e1 s1 d1 k3 k2 hN
  refine hK0 _ _ ?_
  unfold lit56
  simp only [y0, y1, y7]
  clear y0 y1 y7
  go_wp2_with (go_at_call 81; refine HPu.mono ?_; rintro e w4 ⟨rfl, T4, k4⟩; have HK4 : Hid _ := k4; clear k4 HPu)
  go_ret
  have hge : s.give i (-7777777) = { s with slot := upd s.slot i ⟨g + 1, -7777777, -7777777, -7777777, -7777777, -7777777, -7777777⟩, h := nextV s.h i, f := upd s.f i (idxV s.h).toNat } := by unfold PSt.give; rw [hgen]
  rw [hge]
  exact ⟨rfl, _, (HK1.out.trans (HK2.out.trans (HK3.out.trans HK4.out))).up (by omega)⟩
set_option maxRecDepth 100000 in
set_option maxHeartbeats 1600000 in
theorem cRBackBad {y : Int} (hT : Th T w tb r.m c) (hR : RP w r s) (hc : c ≤ 700000) (hg : r.g ∉ T) (hb : x < 1 ∨ s.n < x ∨ y < 0 ∨ y % 2 = 1) : Calls Tryz.prog 33 #[.pointer (some ⟨r.q, 0, none⟩), .pointer (some ⟨tb, 0, none⟩), .int .i64 x, .int .i64 y] w fun e w' => e = .returned (.int .i64 103) ∧ ∃ T', RGo r T w tb (c + 20) s T' w' := by
  have HL := cRLine hT (by omega)
  have p3 := hR.c3
  have HD : Hid (∀ T1 w1, Did [] T w tb r.m (c + 2) T1 w1 → RGo r T w tb (c + 20) s T1 w1) := fun T1 w1 d => RGo.read hT hR hg (d.up (by omega))
  clear hT hR
  rcases (by omega : x < 1 ∨ (1 ≤ x ∧ s.n < x) ∨ (1 ≤ x ∧ x ≤ s.n ∧ y < 0) ∨ (1 ≤ x ∧ x ≤ s.n ∧ 0 ≤ y ∧ y % 2 = 1)) with h1 | ⟨h1, h2⟩ | ⟨h1, h2, h3⟩ | ⟨h1, h2, h3, h4⟩
  · have d1 : decide (x < 1) = true := decide_eq_true (by omega)
    clear hb
    go_enter Tryz.func33, Tryz.ntmps33
    go_wp2_with (go_at_call 77; refine HL.mono ?_; rintro e w1 ⟨rfl, T1, d1⟩; have HD1 : Hid _ := HD.out T1 w1 d1; clear d1 HL HD)
    go_ret
    exact ⟨rfl, _, HD1.out⟩
  · have d1 : decide (x < 1) = false := decide_eq_false (by omega)
    have d2 : decide ((s.n : Int) < x) = true := decide_eq_true (by omega)
    clear hb
    go_enter Tryz.func33, Tryz.ntmps33
    go_wp2_with (go_at_call 77; refine HL.mono ?_; rintro e w1 ⟨rfl, T1, d1⟩; have HD1 : Hid _ := HD.out T1 w1 d1; clear d1 HL HD)
    go_ret
    exact ⟨rfl, _, HD1.out⟩
  · have d1 : decide (x < 1) = false := decide_eq_false (by omega)
    have d2 : decide ((s.n : Int) < x) = false := decide_eq_false (by omega)
    have d3 : decide (y < 0) = true := decide_eq_true (by omega)
    clear hb
    go_enter Tryz.func33, Tryz.ntmps33
    go_wp2_with (go_at_call 77; refine HL.mono ?_; rintro e w1 ⟨rfl, T1, d1⟩; have HD1 : Hid _ := HD.out T1 w1 d1; clear d1 HL HD)
    go_ret
    exact ⟨rfl, _, HD1.out⟩
  · have d1 : decide (x < 1) = false := decide_eq_false (by omega)
    have d2 : decide ((s.n : Int) < x) = false := decide_eq_false (by omega)
    have d3 : decide (y < 0) = false := decide_eq_false (by omega)
    have d4 : (y % 2 == 1) = true := by simp [h4]
    clear hb
    go_enter Tryz.func33, Tryz.ntmps33
    go_wp2_with (go_at_call 77; refine HL.mono ?_; rintro e w1 ⟨rfl, T1, d1⟩; have HD1 : Hid _ := HD.out T1 w1 d1; clear d1 HL HD)
    go_ret
    exact ⟨rfl, _, HD1.out⟩
set_option maxRecDepth 100000 in
set_option maxHeartbeats 1600000 in
theorem cRBackGone {y : Int} (hT : Th T w tb r.m c) (hR : RP w r s) (hn : s.n ≤ 4096) (hc : c ≤ 700000) (hg : r.g ∉ T) (h1 : 1 ≤ i) (h2 : i ≤ s.n) (y0 : 0 ≤ y) (y1 : y % 2 = 0) (hgen : (s.slot i).gen ≠ y) : Calls Tryz.prog 33 #[.pointer (some ⟨r.q, 0, none⟩), .pointer (some ⟨tb, 0, none⟩), .int .i64 (i : Nat), .int .i64 y] w fun e w' => e = .returned (.int .i64 104) ∧ ∃ T', RGo r T w tb (c + 20) s T' w' := by
  have p2 := hR.c2
  have p3 := hR.c3
  have d1 : decide ((i : Int) < 1) = false := decide_eq_false (by omega)
  have d2 : decide ((s.n : Int) < (i : Int)) = false := decide_eq_false (by omega)
  have d3 : decide (y < 0) = false := decide_eq_false (by omega)
  have d4 : (y % 2 == 1) = false := by simp; omega
  have HC := fun v => cRCasNot (a := s.n + 2 + i) (old := y) (v := v) (by rw [memF_g]; exact hgen) hT hR.mem (by omega) hg (by omega)
  rw [show ((s.n + 2 + i : Nat) : Int) = (s.n : Int) + 2 + (i : Int) by omega] at HC
  have HD : Hid (∀ T1 w1, Did [] T w tb r.m (c + 2) T1 w1 → RGo r T w tb (c + 20) s T1 w1) := fun T1 w1 d => RGo.read hT hR hg (d.up (by omega))
  clear hT hR
  go_enter Tryz.func33, Tryz.ntmps33
  go_wp2_with (go_at_call 80; refine (HC _).mono ?_; rintro e w1 ⟨rfl, T1, d1⟩; have HD1 : Hid _ := HD.out T1 w1 d1; have o1 := d1.th.m2; clear d1 HC HD)
  go_ret
  exact ⟨rfl, _, HD1.out⟩
set_option maxRecDepth 100000 in
set_option maxHeartbeats 1600000 in
theorem cRBack {y : Int} (hT : Th T w tb r.m c) (hR : RP w r s) (hn : s.n ≤ 4096) (hc : c ≤ 700000) (hg : r.g ∉ T) (ho : s.Ok) (h1 : 1 ≤ i) (h2 : i ≤ s.n) (y0 : 0 ≤ y) (y1 : y % 2 = 0) (y2 : y ≤ 100000) (hgen : (s.slot i).gen = y) : Calls Tryz.prog 33 #[.pointer (some ⟨r.q, 0, none⟩), .pointer (some ⟨tb, 0, none⟩), .int .i64 (i : Nat), .int .i64 y] w fun e w' => e = .returned (.int .i64 0) ∧ ∃ T', RGo r T w tb (c + 20) (s.back i) T' w' := by
  have p2 := hR.c2
  have p3 := hR.c3
  have d1 : decide ((i : Int) < 1) = false := decide_eq_false (by omega)
  have d2 : decide ((s.n : Int) < (i : Int)) = false := decide_eq_false (by omega)
  have d3 : decide (y < 0) = false := decide_eq_false (by omega)
  have d4 : (y % 2 == 1) = false := by simp; omega
  have HC := cRCas (a := s.n + 2 + i) (old := y) (v := y + 2) (by rw [memF_g]; exact hgen) hT hR.mem (by omega) hg (by omega)
  rw [show updI (memF s) (s.n + 2 + i) (y + 2) = memF { s with slot := upd s.slot i { s.slot i with gen := y + 2 } } from (memF_setG s i { s.slot i with gen := y + 2 }).symm, show ((s.n + 2 + i : Nat) : Int) = (s.n : Int) + 2 + (i : Int) by omega] at HC
  have HD : Hid (∀ T1 w1, MemAt w1 r.m r.g (2 * s.n + 3) (memF { s with slot := upd s.slot i { s.slot i with gen := y + 2 } }) → Did [r.g] T w tb r.m (c + 2) T1 w1 → RGo r T w tb (c + 2) { s with slot := upd s.slot i { s.slot i with gen := y + 2 } } T1 w1) := fun T1 w1 m d => RGo.words (s' := { s with slot := upd s.slot i { s.slot i with gen := y + 2 } }) hT hR hg m d rfl rfl (fun j k _ => by
    show rfld (upd s.slot i _ j) k = _
    by_cases e : j = i
    · subst e
      rw [upd_same]
      match k with
      | 0 => rfl
      | 1 => rfl
      | 2 => rfl
      | 3 => rfl
      | 4 => rfl
      | 5 => rfl
      | k + 6 => rfl
    · rw [upd_other _ _ e])
  have hge : s.back i = { s with slot := upd s.slot i { s.slot i with gen := y + 2 }, h := nextV s.h i, f := upd s.f i (idxV s.h).toNat } := by unfold PSt.back; rw [hgen]
  rw [hge]
  clear hT hR hge
  go_enter Tryz.func33, Tryz.ntmps33
  go_wp2_with (first
    | (go_at_call 80; refine HC.mono ?_; rintro e w1 ⟨rfl, m1, T1, d1⟩; have k1 := HD.out T1 w1 m1 d1; have o1 := d1.th.m2; have q1 := k1.rp.c1; have HPu := cRPushP (i := i) k1.did.th k1.rp hn (by omega) k1.out ho.h0 ho.h1 h2; have HK1 : Hid _ := k1; clear d1 HC HD m1 k1)
    | (go_at_call 81; refine HPu.mono ?_; rintro e w4 ⟨rfl, T4, k4⟩; have HK4 : Hid _ := k4; clear k4 HPu))
  go_ret
  exact ⟨rfl, _, (HK1.out.trans HK4.out).up (by omega)⟩
set_option maxRecDepth 100000 in
set_option maxHeartbeats 1600000 in
theorem cRReadBad (hT : Th T w tb r.m c) (hR : RP w r s) (hn : s.n ≤ 4096) (hc : c ≤ 700000) (hg : r.g ∉ T) (hx : NoHandle s.n x) : Calls Tryz.prog 22 #[.pointer (some ⟨r.q, 0, none⟩), .pointer (some ⟨tb, 0, none⟩), .int .i64 x] w fun e w' => e = .returned (.tuple #[.agg #[.int .i64 0, .int .i64 0, .int .i64 0, .int .i64 0], .int .i64 103]) ∧ ∃ T', RGo r T w tb (c + 20) s T' w' := by
  have HM := cRMeetBad (hT.alloc (nodeObj 0 0 0 0)) (hR.alloc (nodeObj 0 0 0 0)) hn hc hg hx
  have HD : Hid (∀ T1 w1, RGo r T (w.alloc (nodeObj 0 0 0 0)) tb (c + 6) s T1 w1 → w1.heap[w.heap.size]? = some (nodeObj 0 0 0 0) ∧ RGo r T w tb (c + 20) s T1 (set4 w1 w.heap.size ⟨0, 0, 0, 0, 0, 0, 0⟩)) := fun T1 w1 k => by
    have hz := k.other (hT.alloc (nodeObj 0 0 0 0)) (hR.alloc (nodeObj 0 0 0 0)) (blk_new w (nodeObj 0 0 0 0)) (by decide)
    exact ⟨hz, (k.unalloc.answer hR (Nat.le_refl _) hz _).up (by omega)⟩
  clear hT hR hx
  go_enter Tryz.func22, Tryz.ntmps22
  go_wp2_with (go_at_call 82; refine HM.mono ?_; rintro e w1 ⟨rfl, T1, k1⟩; have o1 := k1.did.th.m2; obtain ⟨hz, k2⟩ := HD.out T1 w1 k1; have n0 := cell_at hz 0; have n1 := cell_at hz 1; have n2 := cell_at hz 2; have n3 := cell_at hz 3; have z := froz_at hz; simp at n0 n1 n2 n3; have HK2 : Hid _ := k2; have HZ : Hid _ := hz; clear k1 HM hz HD k2)
  have M := ld_nodeI (set4_obj HZ.out ⟨0, 0, 0, 0, 0, 0, 0⟩)
  have HK3 := HK2.out
  unfold set4 at M HK3
  generalize ((((w1.setCell ⟨w.heap.size, 0, none⟩ (.int .i64 0)).setCell ⟨w.heap.size, 1, none⟩ (.int .i64 0)).setCell ⟨w.heap.size, 2, none⟩ (.int .i64 0)).setCell ⟨w.heap.size, 3, none⟩ (.int .i64 0)) = wz at M HK3 ⊢
  obtain ⟨m0, m1, m2, m3⟩ := M
  refine bodyPost_ret (v := .tuple #[.agg #[.int .i64 0, .int .i64 0, .int .i64 0, .int .i64 0], .int .i64 103]) (by simp [results, Tryz.results22, go_sem, m0, m1, m2, m3]) rfl ⟨rfl, _, HK3⟩
set_option maxRecDepth 100000 in
set_option maxHeartbeats 1600000 in
theorem cRReadGone (hT : Th T w tb r.m c) (hR : RP w r s) (hn : s.n ≤ 4096) (hc : c ≤ 700000) (hg : r.g ∉ T) (hx : IsHandle s.n x i g) (hgen : (s.slot i).gen ≠ g) (hf0 : 0 ≤ s.faults) (hf1 : s.faults ≤ 1000000) : Calls Tryz.prog 22 #[.pointer (some ⟨r.q, 0, none⟩), .pointer (some ⟨tb, 0, none⟩), .int .i64 x] w fun e w' => e = .returned (.tuple #[.agg #[.int .i64 0, .int .i64 0, .int .i64 0, .int .i64 0], .int .i64 104]) ∧ ∃ T', RGo r T w tb (c + 20) s.fault T' w' := by
  have HM := cRMeetGone (hT.alloc (nodeObj 0 0 0 0)) (hR.alloc (nodeObj 0 0 0 0)) hn hc hg hx hgen hf0 hf1
  have HD : Hid (∀ T1 w1, RGo r T (w.alloc (nodeObj 0 0 0 0)) tb (c + 6) s.fault T1 w1 → w1.heap[w.heap.size]? = some (nodeObj 0 0 0 0) ∧ RGo r T w tb (c + 20) s.fault T1 (set4 w1 w.heap.size ⟨0, 0, 0, 0, 0, 0, 0⟩)) := fun T1 w1 k => by
    have hz := k.other (hT.alloc (nodeObj 0 0 0 0)) (hR.alloc (nodeObj 0 0 0 0)) (blk_new w (nodeObj 0 0 0 0)) (by decide)
    exact ⟨hz, (k.unalloc.answer hR (Nat.le_refl _) hz _).up (by omega)⟩
  clear hT hR hx
  go_enter Tryz.func22, Tryz.ntmps22
  go_wp2_with (go_at_call 82; refine HM.mono ?_; rintro e w1 ⟨rfl, T1, k1⟩; have o1 := k1.did.th.m2; obtain ⟨hz, k2⟩ := HD.out T1 w1 k1; have n0 := cell_at hz 0; have n1 := cell_at hz 1; have n2 := cell_at hz 2; have n3 := cell_at hz 3; have z := froz_at hz; simp at n0 n1 n2 n3; have HK2 : Hid _ := k2; have HZ : Hid _ := hz; clear k1 HM hz HD k2)
  have M := ld_nodeI (set4_obj HZ.out ⟨0, 0, 0, 0, 0, 0, 0⟩)
  have HK3 := HK2.out
  unfold set4 at M HK3
  generalize ((((w1.setCell ⟨w.heap.size, 0, none⟩ (.int .i64 0)).setCell ⟨w.heap.size, 1, none⟩ (.int .i64 0)).setCell ⟨w.heap.size, 2, none⟩ (.int .i64 0)).setCell ⟨w.heap.size, 3, none⟩ (.int .i64 0)) = wz at M HK3 ⊢
  obtain ⟨m0, m1, m2, m3⟩ := M
  refine bodyPost_ret (v := .tuple #[.agg #[.int .i64 0, .int .i64 0, .int .i64 0, .int .i64 0], .int .i64 104]) (by simp [results, Tryz.results22, go_sem, m0, m1, m2, m3]) rfl ⟨rfl, _, HK3⟩
set_option maxRecDepth 100000 in
set_option maxHeartbeats 1600000 in
theorem cRRead (hT : Th T w tb r.m c) (hR : RP w r s) (hn : s.n ≤ 4096) (hc : c ≤ 700000) (hg : r.g ∉ T) (hx : IsHandle s.n x i g) (hgen : (s.slot i).gen = g) : Calls Tryz.prog 22 #[.pointer (some ⟨r.q, 0, none⟩), .pointer (some ⟨tb, 0, none⟩), .int .i64 x] w fun e w' => e = .returned (.tuple #[.agg #[.int .i64 (s.slot i).a, .int .i64 (s.slot i).b, .int .i64 (s.slot i).c, .int .i64 (s.slot i).d], .int .i64 0]) ∧ ∃ T', RGo r T w tb (c + 20) s T' w' := by
  have HM := cRMeet (hT.alloc (nodeObj 0 0 0 0)) (hR.alloc (nodeObj 0 0 0 0)) hn hc hg hx hgen
  have h2 := hx.i2
  have hlt : (i : Int) < (s.n : Int) + 1 := by omega
  have HD : Hid (∀ T1 w1, RGo r T (w.alloc (nodeObj 0 0 0 0)) tb (c + 6) s T1 w1 → w1.heap[w.heap.size]? = some (nodeObj 0 0 0 0)) := fun T1 w1 k => k.other (hT.alloc (nodeObj 0 0 0 0)) (hR.alloc (nodeObj 0 0 0 0)) (blk_new w (nodeObj 0 0 0 0)) (by decide)
  have HR : Hid _ := hR
  clear hT hR hx
  go_enter Tryz.func22, Tryz.ntmps22
  go_wp2_with (go_at_call 82; refine HM.mono ?_; rintro e w1 ⟨rfl, T1, k1⟩; have o1 := k1.did.th.m2; have p4 := k1.rp.c4; have q1 : w1.cell? ⟨r.b, i * 7 + 1, none⟩ = some (.int .i64 (s.slot i).a) := k1.rp.sl h2 (k := 1) (by decide); have q2 : w1.cell? ⟨r.b, i * 7 + 2, none⟩ = some (.int .i64 (s.slot i).b) := k1.rp.sl h2 (k := 2) (by decide); have q3 : w1.cell? ⟨r.b, i * 7 + 3, none⟩ = some (.int .i64 (s.slot i).c) := k1.rp.sl h2 (k := 3) (by decide); have q4 : w1.cell? ⟨r.b, i * 7 + 4, none⟩ = some (.int .i64 (s.slot i).d) := k1.rp.sl h2 (k := 4) (by decide); have HZ : Hid _ := HD.out T1 w1 k1; have HK1 : Hid _ := k1; clear k1 HM HD)
  rename_i K hK
  have k1 := HK1.out
  have hz := HZ.out
  have hN : (w1.alloc (nodeObj (s.slot i).a (s.slot i).b (s.slot i).c (s.slot i).d)).heap[w1.heap.size]? = some (nodeObj (s.slot i).a (s.slot i).b (s.slot i).c (s.slot i).d) := blk_new w1 _
  have hz2 : (w1.alloc (nodeObj (s.slot i).a (s.slot i).b (s.slot i).c (s.slot i).d)).heap[w.heap.size]? = some (nodeObj 0 0 0 0) := blk_old hz _
  have hk0 : RK r T1 (w1.alloc (nodeObj (s.slot i).a (s.slot i).b (s.slot i).c (s.slot i).d)) tb (c + 6) s w1.heap.size w.heap.size (s.slot i) (.int .i64 0) (.int .i64 0) (.int .i64 0) (.int .i64 0) 0 (w1.alloc (nodeObj (s.slot i).a (s.slot i).b (s.slot i).c (s.slot i).d)).drew :=
    ⟨⟨T1, (k1.rp.alloc _).drew, k1.out, (k1.did.th.alloc _).drew, fun _ hx => .inl hx, (Turned.refl _ _).drew⟩, hN, hz2⟩
  refine rread_r5 rfl rfl rfl rfl (by omega) hk0 ?_
  rintro a1 w2 s1 d1 e1 x7 ⟨y, hy, rfl⟩
  obtain ⟨T2, g2⟩ := hy.go
  have HF : Hid (RGo r T w tb (c + 20) s T2 (set4 y w.heap.size (s.slot i))) := ((k1.trans g2.unalloc).unalloc.answer HR.out (Nat.le_refl _) hy.zd _).up (by omega)
  obtain ⟨m0, m1, m2, m3⟩ := ld_nodeI (set4_obj hy.zd (s.slot i))
  obtain ⟨cc, rfl, hcc⟩ := expand53 s1 d1
  have y6 : cc 6 = .pointer (some ⟨w.heap.size, 0, none⟩) := (hcc 6).trans (e1 6 (by omega))
  have y7 : cc 7 = .int .i64 0 := (hcc 7).trans x7
  generalize set4 y w.heap.size (s.slot i) = wz at *
  clear hcc e1 x7 s1 d1 hy g2 hk0 hN hz2 hz k1 o1 p4 q1 q2 q3 q4
  refine hK _ _ ?_
  unfold lit53
  simp only [y6, y7]
  go_wp2
  refine bodyPost_ret (v := .tuple #[.agg #[.int .i64 (s.slot i).a, .int .i64 (s.slot i).b, .int .i64 (s.slot i).c, .int .i64 (s.slot i).d], .int .i64 0]) (by simp [results, Tryz.results22, go_sem, m0, m1, m2, m3]) rfl ⟨rfl, _, HF.out⟩
end
end Go.Proofs.YtjbhnpofdafmbaaGreatDoor

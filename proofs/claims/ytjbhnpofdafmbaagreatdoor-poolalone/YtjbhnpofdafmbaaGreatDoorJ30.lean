/- A frame, spelled out. -/
import Derived.Test.YtjbhnpofdafmbaaGreatDoorJ13
import Derived.Test.YtjbhnpofdafmbaaGreatDoorJ29
import Derived.Test.YtjbhnpofdafmbaaGreatDoorJ26
namespace Go.Proofs.YtjbhnpofdafmbaaGreatDoor
open Go.RowKit
def lit56 (c : Nat → Value) : Array Value := #[c 0, c 1, c 2, c 3, c 4, c 5, c 6, c 7, c 8, c 9, c 10, c 11, c 12, c 13, c 14, c 15, c 16, c 17, c 18, c 19, c 20, c 21, c 22, c 23, c 24, c 25, c 26, c 27, c 28, c 29, c 30, c 31, c 32, c 33, c 34, c 35, c 36, c 37, c 38, c 39, c 40, c 41, c 42, c 43, c 44, c 45, c 46, c 47, c 48, c 49, c 50, c 51, c 52, c 53, c 54, c 55]
set_option maxRecDepth 100000 in
theorem lit56_eq (c : Nat → Value) : lit56 c = ((List.range 56).map c).toArray := by rfl
theorem expand56 {a : Act} (hs : a.tmps.size = 56) (hd : a.defers = []) : ∃ c : Nat → Value, a = ⟨lit56 c, []⟩ ∧ ∀ s, c s = a.eval (.tmp s) := by
  refine ⟨fun s => a.tmps.getD s undef, ?_, fun s => rfl⟩
  obtain ⟨t, d⟩ := a
  simp only at hs hd
  subst hd
  congr 1
  rw [lit56_eq]
  refine Array.ext (by simp [hs]) fun i h1 h2 => ?_
  simp [Array.getD, h1]
end Go.Proofs.YtjbhnpofdafmbaaGreatDoor
/- A frame, spelled out. -/
namespace Go.Proofs.YtjbhnpofdafmbaaGreatDoor
open Go.RowKit
def lit53 (c : Nat → Value) : Array Value := #[c 0, c 1, c 2, c 3, c 4, c 5, c 6, c 7, c 8, c 9, c 10, c 11, c 12, c 13, c 14, c 15, c 16, c 17, c 18, c 19, c 20, c 21, c 22, c 23, c 24, c 25, c 26, c 27, c 28, c 29, c 30, c 31, c 32, c 33, c 34, c 35, c 36, c 37, c 38, c 39, c 40, c 41, c 42, c 43, c 44, c 45, c 46, c 47, c 48, c 49, c 50, c 51, c 52]
set_option maxRecDepth 100000 in
theorem lit53_eq (c : Nat → Value) : lit53 c = ((List.range 53).map c).toArray := by rfl
theorem expand53 {a : Act} (hs : a.tmps.size = 53) (hd : a.defers = []) : ∃ c : Nat → Value, a = ⟨lit53 c, []⟩ ∧ ∀ s, c s = a.eval (.tmp s) := by
  refine ⟨fun s => a.tmps.getD s undef, ?_, fun s => rfl⟩
  obtain ⟨t, d⟩ := a
  simp only at hs hd
  subst hd
  congr 1
  rw [lit53_eq]
  refine Array.ext (by simp [hs]) fun i h1 h2 => ?_
  simp [Array.getD, h1]
end Go.Proofs.YtjbhnpofdafmbaaGreatDoor
/- The document's pool alone: Take, Give, Read, Back. -/
namespace Go.Proofs.YtjbhnpofdafmbaaGreatDoor
open Go.RowKit
theorem ix_slots (w : World) (b n i : Nat) (h : i ≤ n) : (Instr.indexAt 58 (.slice (some ⟨b, 0, none⟩) (n + 1) (n + 1)) (vi (i : Nat))).run Tryz.prog w = .ok (pv b (i * 7)) w := by
  have hlt : (i : Int) < (n : Int) + 1 := by omega
  unfold pv
  go_simp
abbrev rowV (S : Slot) : Value := .agg #[.int .i64 0, .int .i64 S.a, .int .i64 S.b, .int .i64 S.c, .int .i64 S.d, .int .i64 S.mark, .int .i64 S.link]
theorem st_slot {w : World} {b n i : Nat} {f : Nat → Slot} (h : w.heap[b]? = some (recObj 64 7 (fun i k => rfld (f i) k) (n + 1))) (hi : i ≤ n) (S : Slot) : (Instr.storeAt 64 (pv b (i * 7)) (rowV S)).run Tryz.prog w = .ok () (rowW w b i S) := by
  have q0 : w.cell? ⟨b, i * 7, none⟩ = some (.int .i64 0) := rec_cell h (by omega) (j := 0) (by decide)
  have q1 : w.cell? ⟨b, i * 7 + 1, none⟩ = some (.int .i64 (f i).a) := rec_cell h (by omega) (j := 1) (by decide)
  have q2 : w.cell? ⟨b, i * 7 + 2, none⟩ = some (.int .i64 (f i).b) := rec_cell h (by omega) (j := 2) (by decide)
  have q3 : w.cell? ⟨b, i * 7 + 3, none⟩ = some (.int .i64 (f i).c) := rec_cell h (by omega) (j := 3) (by decide)
  have q4 : w.cell? ⟨b, i * 7 + 4, none⟩ = some (.int .i64 (f i).d) := rec_cell h (by omega) (j := 4) (by decide)
  have q5 : w.cell? ⟨b, i * 7 + 5, none⟩ = some (.int .i64 (f i).mark) := rec_cell h (by omega) (j := 5) (by decide)
  have q6 : w.cell? ⟨b, i * 7 + 6, none⟩ = some (.int .i64 (f i).link) := rec_cell h (by omega) (j := 6) (by decide)
  have z := froz_at h
  clear h
  unfold pv
  go_simp
  rfl
abbrev nodeV4 (a b c d : Int) : Value := .agg #[.int .i64 a, .int .i64 b, .int .i64 c, .int .i64 d]
theorem bld_row (w : World) (a b c d link : Int) : (Instr.build 64 #[(1, nodeV4 a b c d), (3, vi link)]).run Tryz.prog w = .ok (rowV ⟨0, 0, link, a, b, c, d⟩) w := by
  go_simp
theorem bld_row2 (w : World) (a b c d mark link : Int) : (Instr.build 64 #[(1, nodeV4 a b c d), (2, vi mark), (3, vi link)]).run Tryz.prog w = .ok (rowV ⟨0, mark, link, a, b, c, d⟩) w := by
  go_simp
theorem bld_node (w : World) (a b c d : Int) : (Instr.build 43 #[(0, vi a), (1, vi b), (2, vi c), (3, vi d)]).run Tryz.prog w = .ok (nodeV4 a b c d) w := by
  go_simp
theorem st_node {w : World} {b : Nat} {x0 x1 x2 x3 : Value} (h : w.heap[b]? = some (.cells #[x0, x1, x2, x3] 43 (0, 0))) (a e c d : Int) : (Instr.storeAt 43 (pv b 0) (nodeV4 a e c d)).run Tryz.prog w = .ok () ((((w.setCell ⟨b, 0, none⟩ (.int .i64 a)).setCell ⟨b, 1, none⟩ (.int .i64 e)).setCell ⟨b, 2, none⟩ (.int .i64 c)).setCell ⟨b, 3, none⟩ (.int .i64 d)) := by
  have n0 := cell_at h 0
  have n1 := cell_at h 1
  have n2 := cell_at h 2
  have n3 := cell_at h 3
  simp at n0 n1 n2 n3
  have z := froz_at h
  clear h
  unfold pv
  go_simp
theorem rPackH {i : Nat} {g : Int} (hi : i ≤ 4096) (h0 : 0 ≤ g) (h1 : g ≤ 1099511627775) (w : World) : Calls Tryz.prog 74 #[.int .i64 (i : Nat), .int .i64 g] w fun e w' => e = .returned (.tuple #[.int .i64 (hnd i g), .int .i64 0]) ∧ w' = w := by
  have := rPack (i : Nat) g w
  rw [(pack_ok (i : Nat) g (by omega) (by omega) h0 h1).1, (pack_ok (i : Nat) g (by omega) (by omega) h0 h1).2] at this
  exact this
section
variable {tb c c1 i : Nat} {w w1 : World} {T T1 : List Nat} {r : RB} {s s1 : PSt}
/-- What is neither the thread's nor the pool's stays. -/
theorem RGo.other (h : RGo r T w tb c1 s1 T1 w1) (hT : Th T w tb r.m c) (hR : RP w r s) {x : Nat} {cs : Array Value} {t : TypeId} (hx : w.heap[x]? = some (.cells cs t (0, 0))) (ht : t ≠ 3 ∧ t ≠ 134 ∧ t ≠ 132 ∧ t ≠ 181 ∧ t ≠ 128 ∧ t ≠ 64) : w1.heap[x]? = some (.cells cs t (0, 0)) := by
  refine h.did.turned.heap hx fun hm => ?_
  obtain ⟨t1, t2, t3, t4, t5, t6⟩ := ht
  obtain ⟨cap, e1⟩ := hR.mObj
  obtain ⟨cur, e2⟩ := hR.gObj
  rcases List.mem_append.1 hm with h1 | h1
  · simp only [RB.all, List.mem_cons, List.not_mem_nil, or_false] at h1
    rcases h1 with e | e | e | e | e
    · exact other_type hx hR.pool t3 e
    · exact other_type hx hR.pile t4 e
    · exact other_type hx e1 t5 e
    · exact other_type hx e2 t1 e
    · exact other_type hx hR.slots t6 e
  · exact hT.ty hx t1 t2 h1
/-- The words turned: what the pool is then. -/
theorem RGo.words {s' : PSt} (hT : Th T w tb r.m c) (hR : RP w r s) (hg : r.g ∉ T) (hm : MemAt w1 r.m r.g (2 * s.n + 3) (memF s')) (hd : Did [r.g] T w tb r.m c1 T1 w1) (hn : s'.n = s.n) (hf : s'.faults = s.faults) (hs : ∀ i k, k < 7 → rfld (s'.slot i) k = rfld (s.slot i) k) : RGo r T w tb c1 s' T1 w1 :=
  ⟨(hR.didG hT hg hd hm hn hf hs).1, (hR.didG hT hg hd hm hn hf hs).2, hd.mono (by simp [RB.all])⟩
theorem RP.putGen (h : RP w r s) (hi : i ≤ s.n) (v : Int) : RP (w.setCell ⟨r.g, s.n + 2 + i, none⟩ (.int .i64 v)) r { s with slot := upd s.slot i { s.slot i with gen := v } } := by
  refine h.words (fun x _ hne => blk_other hne _ _) ?_ rfl rfl (fun j k _ => ?_)
  · rw [memF_setG]
    exact h.mem.put (by omega) v
  · by_cases e : j = i
    · subst e
      show rfld (upd s.slot j _ j) k = _
      rw [upd_same]
      match k with
      | 0 => rfl
      | 1 => rfl
      | 2 => rfl
      | 3 => rfl
      | 4 => rfl
      | 5 => rfl
      | k + 6 => rfl
    · show rfld (upd s.slot i _ j) k = _
      rw [upd_other _ _ e]
end
set_option maxRecDepth 100000 in
set_option maxHeartbeats 1600000 in
theorem rtake_r7 {K : Act → World → Prop} {Q : Exit → Act → World → Prop} {a : Act} {w : World} {tb c i : Nat} {T : List Nat} {r : RB} {s : PSt} (hs : a.tmps.size = 78) (x0 : a.eval (.tmp 0) = pv r.q 0) (x10 : a.eval (.tmp 10) = vi (i : Nat)) (hT : Th T w tb r.m c) (hR : RP w r s) (hg : r.g ∉ T) (hn : s.n ≤ 4096) (hi : i ≤ s.n) (g0 : 0 ≤ (s.slot i).gen) (g1 : (s.slot i).gen ≤ 1000000)
    (hEnd : ∀ a1 w1, a1.tmps.size = a.tmps.size → a1.defers = a.defers → (∀ s : Nat, s < 27 → a1.eval (.tmp s) = a.eval (.tmp s)) → (RGo r T w tb c { s with slot := upd s.slot i { s.slot i with gen := (s.slot i).gen + 1 } } T w1) → K a1 w1) :
    (Code.region 7 (opsOf 7 Tryz.f20.body) true).wp Tryz.prog (Exit.then K Q) a w := by
  refine wp_region_chainP (by kernel_rfl) [some 27, some 28, some 29, some 30, some 31, some 32, some 33, some 34, some 35, some 36, some 37, some 38, some 39, some 40, some 41, some 42, some 43, some 44, some 45, some 46, some 47, some 48, some 49] (fun kk => match kk with
      | 0 => pv r.q 0
      | 1 => pv r.q 0
      | 2 => pv r.q 0
      | 3 => pv r.m 0
      | 4 => pv r.q 0
      | 5 => pv r.q 0
      | 6 => pv r.q 2
      | 7 => vi ((s.n : Int) + 2)
      | 8 => vi (i : Nat)
      | 9 => vi ((s.n + 2 + i : Nat) : Int)
      | 10 => pv r.q 0
      | 11 => pv r.q 0
      | 12 => pv r.q 0
      | 13 => pv r.m 0
      | 14 => pv r.q 0
      | 15 => pv r.q 0
      | 16 => pv r.q 2
      | 17 => vi ((s.n : Int) + 2)
      | 18 => vi (i : Nat)
      | 19 => vi ((s.n + 2 + i : Nat) : Int)
      | 20 => vi (s.slot i).gen
      | 21 => vi ((s.slot i).gen + 1)
      | 22 => Value.tuple #[]
      | _ => undef) (by rw [hs]; kernel_rfl) [22] (fun jj => match jj with
      | 0 => fun x => x = w.drew
      | _ => fun x => RGo r T w tb c { s with slot := upd s.slot i { s.slot i with gen := (s.slot i).gen + 1 } } T x) rfl (by decide) (by decide +kernel) ?_ ?_ ?_
  · intro kk gg bq h
    exact (no_guard (by kernel_rfl) h).elim
  · intro kk hk _ o ac wa M K ho hd _ hoff hv hpre hL hK
    rcases (by simp at hk; omega : kk = 0 ∨ kk = 1 ∨ kk = 2 ∨ kk = 3 ∨ kk = 4 ∨ kk = 5 ∨ kk = 6 ∨ kk = 7 ∨ kk = 8 ∨ kk = 9 ∨ kk = 10 ∨ kk = 11 ∨ kk = 12 ∨ kk = 13 ∨ kk = 14 ∨ kk = 15 ∨ kk = 16 ∨ kk = 17 ∨ kk = 18 ∨ kk = 19 ∨ kk = 20 ∨ kk = 21 ∨ kk = 22) with rfl | rfl | rfl | rfl | rfl | rfl | rfl | rfl | rfl | rfl | rfl | rfl | rfl | rfl | rfl | rfl | rfl | rfl | rfl | rfl | rfl | rfl | rfl
    · obtain ⟨hM, jw, hjw, hW, hjR⟩ := hL.off (by decide)
      replace hK := hK _ hM
      exact l_val hd ((x_move (op_is rfl ho)).trans (by rw [(hoff 0 (by decide)).trans x0]; rfl)) hK
    · obtain ⟨hM, jw, hjw, hW, hjR⟩ := hL.off (by decide)
      replace hK := hK _ hM
      exact l_val hd (x_nil (op_is rfl ho) (hv 0 27 rfl (by kernel_rfl))) hK
    · obtain ⟨hM, jw, hjw, hW, hjR⟩ := hL.off (by decide)
      replace hK := hK _ hM
      exact l_val hd (x_field (op_is rfl ho) (by rw [hv 1 28 rfl (by kernel_rfl)]; unfold pv; go_simp)) hK
    · obtain ⟨hM, jw, hjw, hW, hjR⟩ := hL.off (by decide)
      replace hK := hK _ hM
      have hj := hjR 0 22 rfl (by decide +kernel)
      obtain rfl : jw = 0 := by omega
      exact l_val hd (x_load (op_is rfl ho) (by rw [hv 2 29 rfl (by kernel_rfl)]; refine ld_mem ?_; exact (show wa = w.drew from hW) ▸ hR.c0)) hK
    · obtain ⟨hM, jw, hjw, hW, hjR⟩ := hL.off (by decide)
      replace hK := hK _ hM
      exact l_val hd ((x_move (op_is rfl ho)).trans (by rw [(hoff 0 (by decide)).trans x0]; rfl)) hK
    · obtain ⟨hM, jw, hjw, hW, hjR⟩ := hL.off (by decide)
      replace hK := hK _ hM
      exact l_val hd (x_nil (op_is rfl ho) (hv 4 31 rfl (by kernel_rfl))) hK
    · obtain ⟨hM, jw, hjw, hW, hjR⟩ := hL.off (by decide)
      replace hK := hK _ hM
      exact l_val hd (x_field (op_is rfl ho) (by rw [hv 5 32 rfl (by kernel_rfl)]; unfold pv; go_simp)) hK
    · obtain ⟨hM, jw, hjw, hW, hjR⟩ := hL.off (by decide)
      replace hK := hK _ hM
      have hj := hjR 0 22 rfl (by decide +kernel)
      obtain rfl : jw = 0 := by omega
      exact l_val hd (x_load (op_is rfl ho) (by rw [hv 6 33 rfl (by kernel_rfl)]; refine ld_int ?_; exact (show wa = w.drew from hW) ▸ hR.c2)) hK
    · obtain ⟨hM, jw, hjw, hW, hjR⟩ := hL.off (by decide)
      replace hK := hK _ hM
      exact l_val hd ((x_move (op_is rfl ho)).trans (by rw [(hoff 10 (by decide)).trans x10]; rfl)) hK
    · obtain ⟨hM, jw, hjw, hW, hjR⟩ := hL.off (by decide)
      replace hK := hK _ hM
      exact l_val (v := vi ((s.n + 2 + i : Nat) : Int)) hd ((x_addc (op_is rfl ho) (hv 7 34 rfl (by kernel_rfl)) (hv 8 35 rfl (by kernel_rfl)) (by omega) (by omega)).trans (by rw [show ((s.n : Int) + 2 + (i : Int)) = ((s.n + 2 + i : Nat) : Int) by omega])) hK
    · obtain ⟨hM, jw, hjw, hW, hjR⟩ := hL.off (by decide)
      replace hK := hK _ hM
      exact l_val hd ((x_move (op_is rfl ho)).trans (by rw [(hoff 0 (by decide)).trans x0]; rfl)) hK
    · obtain ⟨hM, jw, hjw, hW, hjR⟩ := hL.off (by decide)
      replace hK := hK _ hM
      exact l_val hd (x_nil (op_is rfl ho) (hv 10 37 rfl (by kernel_rfl))) hK
    · obtain ⟨hM, jw, hjw, hW, hjR⟩ := hL.off (by decide)
      replace hK := hK _ hM
      exact l_val hd (x_field (op_is rfl ho) (by rw [hv 11 38 rfl (by kernel_rfl)]; unfold pv; go_simp)) hK
    · obtain ⟨hM, jw, hjw, hW, hjR⟩ := hL.off (by decide)
      replace hK := hK _ hM
      have hj := hjR 0 22 rfl (by decide +kernel)
      obtain rfl : jw = 0 := by omega
      exact l_val hd (x_load (op_is rfl ho) (by rw [hv 12 39 rfl (by kernel_rfl)]; refine ld_mem ?_; exact (show wa = w.drew from hW) ▸ hR.c0)) hK
    · obtain ⟨hM, jw, hjw, hW, hjR⟩ := hL.off (by decide)
      replace hK := hK _ hM
      exact l_val hd ((x_move (op_is rfl ho)).trans (by rw [(hoff 0 (by decide)).trans x0]; rfl)) hK
    · obtain ⟨hM, jw, hjw, hW, hjR⟩ := hL.off (by decide)
      replace hK := hK _ hM
      exact l_val hd (x_nil (op_is rfl ho) (hv 14 41 rfl (by kernel_rfl))) hK
    · obtain ⟨hM, jw, hjw, hW, hjR⟩ := hL.off (by decide)
      replace hK := hK _ hM
      exact l_val hd (x_field (op_is rfl ho) (by rw [hv 15 42 rfl (by kernel_rfl)]; unfold pv; go_simp)) hK
    · obtain ⟨hM, jw, hjw, hW, hjR⟩ := hL.off (by decide)
      replace hK := hK _ hM
      have hj := hjR 0 22 rfl (by decide +kernel)
      obtain rfl : jw = 0 := by omega
      exact l_val hd (x_load (op_is rfl ho) (by rw [hv 16 43 rfl (by kernel_rfl)]; refine ld_int ?_; exact (show wa = w.drew from hW) ▸ hR.c2)) hK
    · obtain ⟨hM, jw, hjw, hW, hjR⟩ := hL.off (by decide)
      replace hK := hK _ hM
      exact l_val hd ((x_move (op_is rfl ho)).trans (by rw [(hoff 10 (by decide)).trans x10]; rfl)) hK
    · obtain ⟨hM, jw, hjw, hW, hjR⟩ := hL.off (by decide)
      replace hK := hK _ hM
      exact l_val (v := vi ((s.n + 2 + i : Nat) : Int)) hd ((x_addc (op_is rfl ho) (hv 17 44 rfl (by kernel_rfl)) (hv 18 45 rfl (by kernel_rfl)) (by omega) (by omega)).trans (by rw [show ((s.n : Int) + 2 + (i : Int)) = ((s.n + 2 + i : Nat) : Int) by omega])) hK
    · obtain ⟨hM, jw, hjw, hW, hjR⟩ := hL.off (by decide)
      replace hK := hK _ hM
      have hj := hjR 0 22 rfl (by decide +kernel)
      obtain rfl : jw = 0 := by omega
      have hW : wa = w.drew := hW
      subst hW
      exact l_call hd (op_is rfl ho) (by simp only [List.map_toArray, List.map_cons, List.map_nil, hv 13 40 rfl (by kernel_rfl), hv 19 46 rfl (by kernel_rfl)] <;> rfl) Tryz.func73 (by kernel_rfl) (by rfl) ((by have h := cRGet (a := s.n + 2 + i) hR.drew.mem (by omega); rwa [memF_g] at h)) hK
    · obtain ⟨hM, jw, hjw, hW, hjR⟩ := hL.off (by decide)
      replace hK := hK _ hM
      exact l_val (v := vi ((s.slot i).gen + 1)) hd ((x_addc (op_is rfl ho) (hv 20 47 rfl (by kernel_rfl)) rfl (by omega) (by omega)).trans (by first | rfl | (congr 3; omega))) hK
    · obtain ⟨hW, rfl⟩ := hL.at_ (by decide) (j := 0) rfl
      have hW : wa = w.drew := hW
      subst hW
      exact l_callP hd (op_is rfl ho) (by simp only [List.map_toArray, List.map_cons, List.map_nil, hv 3 30 rfl (by kernel_rfl), hv 9 36 rfl (by kernel_rfl), hv 21 48 rfl (by kernel_rfl)] <;> rfl) Tryz.func72 (by kernel_rfl) (by rfl) ((cRPut (a := s.n + 2 + i) (v := (s.slot i).gen + 1) hR.drew.mem (by omega)).mono (fun e x h => ⟨h.1, by rw [h.2.1]; exact (RGo.set hT.drew hR.drew hg (hR.drew.putGen hi _) (b := r.g) (by simp [RB.all]) ((Turned.refl [r.g] _).set (.inl (by simp)) _ _)).undrew⟩)) hK
  · intro a1 g1 g2 g3 g4 w1 hW
    exact hEnd a1 w1 g1 g2 (fun s hs'  => ev_same (g3 s (fun hm => by simp at hm; omega))) hW
set_option maxRecDepth 100000 in
set_option maxHeartbeats 1600000 in
theorem rtake_r8 {K : Act → World → Prop} {Q : Exit → Act → World → Prop} {a : Act} {w : World} {tb c i xb : Nat} {T : List Nat} {r : RB} {s : PSt} {na nb nc nd link : Int} (hs : a.tmps.size = 78) (x0 : a.eval (.tmp 0) = pv r.q 0) (x3 : a.eval (.tmp 3) = vi link) (x6 : a.eval (.tmp 6) = pv xb 0) (x10 : a.eval (.tmp 10) = vi (i : Nat)) (hT : Th T w tb r.m c) (hR : RP w r s) (hg : r.g ∉ T) (hi : i ≤ s.n) (hN : w.heap[xb]? = some (nodeObj na nb nc nd))
    (hEnd : ∀ a1 w1, a1.tmps.size = a.tmps.size → a1.defers = a.defers → (∀ s : Nat, s < 27 → a1.eval (.tmp s) = a.eval (.tmp s)) → (RGo r T w tb c { s with slot := upd s.slot i ⟨(s.slot i).gen, 0, link, na, nb, nc, nd⟩ } T w1) → K a1 w1) :
    (Code.region 8 (opsOf 8 Tryz.f20.body) true).wp Tryz.prog (Exit.then K Q) a w := by
  refine wp_region_chainP (by kernel_rfl) [some 50, some 51, some 52, some 53, some 54, some 55, some 56, some 57, some 58, none] (fun kk => match kk with
      | 0 => pv r.q 0
      | 1 => pv r.q 0
      | 2 => pv r.q 4
      | 3 => Value.slice (some ⟨r.b, 0, none⟩) (s.n + 1) (s.n + 1)
      | 4 => vi (i : Nat)
      | 5 => nodeV4 na nb nc nd
      | 6 => vi link
      | 7 => rowV ⟨0, 0, link, na, nb, nc, nd⟩
      | 8 => pv r.b (i * 7)
      | 9 => undef
      | _ => undef) (by rw [hs]; kernel_rfl) [9] (fun jj => match jj with
      | 0 => fun x => x = w.drew
      | _ => fun x => RGo r T w tb c { s with slot := upd s.slot i ⟨(s.slot i).gen, 0, link, na, nb, nc, nd⟩ } T x) rfl (by decide) (by decide +kernel) ?_ ?_ ?_
  · intro kk gg bq h
    exact (no_guard (by kernel_rfl) h).elim
  · intro kk hk _ o ac wa M K ho hd _ hoff hv hpre hL hK
    rcases (by simp at hk; omega : kk = 0 ∨ kk = 1 ∨ kk = 2 ∨ kk = 3 ∨ kk = 4 ∨ kk = 5 ∨ kk = 6 ∨ kk = 7 ∨ kk = 8 ∨ kk = 9) with rfl | rfl | rfl | rfl | rfl | rfl | rfl | rfl | rfl | rfl
    · obtain ⟨hM, jw, hjw, hW, hjR⟩ := hL.off (by decide)
      replace hK := hK _ hM
      exact l_val hd ((x_move (op_is rfl ho)).trans (by rw [(hoff 0 (by decide)).trans x0]; rfl)) hK
    · obtain ⟨hM, jw, hjw, hW, hjR⟩ := hL.off (by decide)
      replace hK := hK _ hM
      exact l_val hd (x_nil (op_is rfl ho) (hv 0 50 rfl (by kernel_rfl))) hK
    · obtain ⟨hM, jw, hjw, hW, hjR⟩ := hL.off (by decide)
      replace hK := hK _ hM
      exact l_val hd (x_field (op_is rfl ho) (by rw [hv 1 51 rfl (by kernel_rfl)]; unfold pv; go_simp)) hK
    · obtain ⟨hM, jw, hjw, hW, hjR⟩ := hL.off (by decide)
      replace hK := hK _ hM
      have hj := hjR 0 9 rfl (by decide +kernel)
      obtain rfl : jw = 0 := by omega
      exact l_val hd (x_load (op_is rfl ho) (by rw [hv 2 52 rfl (by kernel_rfl)]; refine ld_slots ?_; exact (show wa = w.drew from hW) ▸ hR.c4)) hK
    · obtain ⟨hM, jw, hjw, hW, hjR⟩ := hL.off (by decide)
      replace hK := hK _ hM
      exact l_val hd ((x_move (op_is rfl ho)).trans (by rw [(hoff 10 (by decide)).trans x10]; rfl)) hK
    · obtain ⟨hM, jw, hjw, hW, hjR⟩ := hL.off (by decide)
      replace hK := hK _ hM
      have hj := hjR 0 9 rfl (by decide +kernel)
      obtain rfl : jw = 0 := by omega
      have hW : wa = w.drew := hW
      subst hW
      exact l_val hd (x_load (op_is rfl ho) (by rw [(hoff 6 (by decide)).trans x6]; exact run_loadNode (w := w.drew) hN)) hK
    · obtain ⟨hM, jw, hjw, hW, hjR⟩ := hL.off (by decide)
      replace hK := hK _ hM
      exact l_val hd ((x_move (op_is rfl ho)).trans (by rw [(hoff 3 (by decide)).trans x3]; rfl)) hK
    · obtain ⟨hM, jw, hjw, hW, hjR⟩ := hL.off (by decide)
      replace hK := hK _ hM
      exact l_val hd (x_build1 (op_is rfl ho) (by simp only [List.map_toArray, List.map_cons, List.map_nil, hv 5 55 rfl (by kernel_rfl), hv 6 56 rfl (by kernel_rfl)]) (bld_row _ _ _ _ _ _)) hK
    · obtain ⟨hM, jw, hjw, hW, hjR⟩ := hL.off (by decide)
      replace hK := hK _ hM
      exact l_val hd (x_index (op_is rfl ho) (by rw [hv 3 53 rfl (by kernel_rfl), hv 4 54 rfl (by kernel_rfl)]; exact ix_slots _ _ _ _ hi)) hK
    · obtain ⟨hW, rfl⟩ := hL.at_ (by decide) (j := 0) rfl
      have hW : wa = w.drew := hW
      subst hW
      exact l_skip hd (x_store (op_is rfl ho) (by rw [hv 8 58 rfl (by kernel_rfl), hv 7 57 rfl (by kernel_rfl)]; exact (st_slot (i := i) hR.drew.slots hi ⟨(s.slot i).gen, 0, link, na, nb, nc, nd⟩))) (hK _ (RGo.set hT.drew hR.drew hg (hR.drew.all7 (i := i) ⟨(s.slot i).gen, 0, link, na, nb, nc, nd⟩ rfl) (b := r.b) (by simp [RB.all]) (rowW_turned _)).undrew)
  · intro a1 g1 g2 g3 g4 w1 hW
    exact hEnd a1 w1 g1 g2 (fun s hs'  => ev_same (g3 s (fun hm => by simp at hm; omega))) hW
set_option maxRecDepth 100000 in
set_option maxHeartbeats 1600000 in
theorem rtake_r9 {K : Act → World → Prop} {Q : Exit → Act → World → Prop} {a : Act} {w : World} {tb c i : Nat} {T : List Nat} {r : RB} {s : PSt} (hs : a.tmps.size = 78) (x0 : a.eval (.tmp 0) = pv r.q 0) (x1 : a.eval (.tmp 1) = pv tb 0) (x10 : a.eval (.tmp 10) = vi (i : Nat)) (hT : Th T w tb r.m c) (hR : RP w r s) (hg : r.g ∉ T) (hn : s.n ≤ 4096) (hi : i ≤ s.n) (g0 : 0 ≤ (s.slot i).gen) (g1 : (s.slot i).gen ≤ 1000000) (hc : c ≤ 900000)
    (hEnd : ∀ a1 w1, a1.tmps.size = a.tmps.size → a1.defers = a.defers → (∀ s : Nat, s < 11 → a1.eval (.tmp s) = a.eval (.tmp s)) → a1.eval (.tmp 11) = vi (hnd i (s.slot i).gen) → (∃ T1, RGo r T w tb (c + 1) s T1 w1) → K a1 w1) :
    (Code.region 9 (opsOf 9 Tryz.f20.body) true).wp Tryz.prog (Exit.then K Q) a w := by
  refine wp_region_chainP (by kernel_rfl) [some 60, some 61, some 62, some 63, some 64, some 65, some 66, some 67, some 68, some 69, some 70, some 71, some 72, some 73, some 74, some 59, some 75, some 76, some 11, some 12] (fun kk => match kk with
      | 0 => vi (i : Nat)
      | 1 => pv tb 0
      | 2 => pv r.q 0
      | 3 => pv r.q 0
      | 4 => pv r.q 0
      | 5 => pv r.m 0
      | 6 => pv r.q 0
      | 7 => pv r.q 0
      | 8 => pv r.q 2
      | 9 => vi ((s.n : Int) + 2)
      | 10 => vi (i : Nat)
      | 11 => vi ((s.n + 2 + i : Nat) : Int)
      | 12 => vi (s.slot i).gen
      | 13 => vi (s.slot i).gen
      | 14 => Value.tuple #[.int .i64 (hnd i (s.slot i).gen), .int .i64 0]
      | 15 => Value.tuple #[.int .i64 (hnd i (s.slot i).gen), .int .i64 0]
      | 16 => vi (hnd i (s.slot i).gen)
      | 17 => vi 0
      | 18 => vi (hnd i (s.slot i).gen)
      | 19 => vi 0
      | _ => undef) (by rw [hs]; kernel_rfl) [13] (fun jj => match jj with
      | 0 => fun x => x = w.drew
      | _ => fun x => ∃ T1, RGo r T w tb (c + 1) s T1 x) rfl (by decide) (by decide +kernel) ?_ ?_ ?_
  · intro kk gg bq h
    exact (no_guard (by kernel_rfl) h).elim
  · intro kk hk _ o ac wa M K ho hd _ hoff hv hpre hL hK
    rcases (by simp at hk; omega : kk = 0 ∨ kk = 1 ∨ kk = 2 ∨ kk = 3 ∨ kk = 4 ∨ kk = 5 ∨ kk = 6 ∨ kk = 7 ∨ kk = 8 ∨ kk = 9 ∨ kk = 10 ∨ kk = 11 ∨ kk = 12 ∨ kk = 13 ∨ kk = 14 ∨ kk = 15 ∨ kk = 16 ∨ kk = 17 ∨ kk = 18 ∨ kk = 19) with rfl | rfl | rfl | rfl | rfl | rfl | rfl | rfl | rfl | rfl | rfl | rfl | rfl | rfl | rfl | rfl | rfl | rfl | rfl | rfl
    · obtain ⟨hM, jw, hjw, hW, hjR⟩ := hL.off (by decide)
      replace hK := hK _ hM
      exact l_val hd ((x_move (op_is rfl ho)).trans (by rw [(hoff 10 (by decide)).trans x10]; rfl)) hK
    · obtain ⟨hM, jw, hjw, hW, hjR⟩ := hL.off (by decide)
      replace hK := hK _ hM
      exact l_val hd ((x_move (op_is rfl ho)).trans (by rw [(hoff 1 (by decide)).trans x1]; rfl)) hK
    · obtain ⟨hM, jw, hjw, hW, hjR⟩ := hL.off (by decide)
      replace hK := hK _ hM
      exact l_val hd ((x_move (op_is rfl ho)).trans (by rw [(hoff 0 (by decide)).trans x0]; rfl)) hK
    · obtain ⟨hM, jw, hjw, hW, hjR⟩ := hL.off (by decide)
      replace hK := hK _ hM
      exact l_val hd (x_nil (op_is rfl ho) (hv 2 62 rfl (by kernel_rfl))) hK
    · obtain ⟨hM, jw, hjw, hW, hjR⟩ := hL.off (by decide)
      replace hK := hK _ hM
      exact l_val hd (x_field (op_is rfl ho) (by rw [hv 3 63 rfl (by kernel_rfl)]; unfold pv; go_simp)) hK
    · obtain ⟨hM, jw, hjw, hW, hjR⟩ := hL.off (by decide)
      replace hK := hK _ hM
      have hj := hjR 0 13 rfl (by decide +kernel)
      obtain rfl : jw = 0 := by omega
      exact l_val hd (x_load (op_is rfl ho) (by rw [hv 4 64 rfl (by kernel_rfl)]; refine ld_mem ?_; exact (show wa = w.drew from hW) ▸ hR.c0)) hK
    · obtain ⟨hM, jw, hjw, hW, hjR⟩ := hL.off (by decide)
      replace hK := hK _ hM
      exact l_val hd ((x_move (op_is rfl ho)).trans (by rw [(hoff 0 (by decide)).trans x0]; rfl)) hK
    · obtain ⟨hM, jw, hjw, hW, hjR⟩ := hL.off (by decide)
      replace hK := hK _ hM
      exact l_val hd (x_nil (op_is rfl ho) (hv 6 66 rfl (by kernel_rfl))) hK
    · obtain ⟨hM, jw, hjw, hW, hjR⟩ := hL.off (by decide)
      replace hK := hK _ hM
      exact l_val hd (x_field (op_is rfl ho) (by rw [hv 7 67 rfl (by kernel_rfl)]; unfold pv; go_simp)) hK
    · obtain ⟨hM, jw, hjw, hW, hjR⟩ := hL.off (by decide)
      replace hK := hK _ hM
      have hj := hjR 0 13 rfl (by decide +kernel)
      obtain rfl : jw = 0 := by omega
      exact l_val hd (x_load (op_is rfl ho) (by rw [hv 8 68 rfl (by kernel_rfl)]; refine ld_int ?_; exact (show wa = w.drew from hW) ▸ hR.c2)) hK
    · obtain ⟨hM, jw, hjw, hW, hjR⟩ := hL.off (by decide)
      replace hK := hK _ hM
      exact l_val hd ((x_move (op_is rfl ho)).trans (by rw [(hoff 10 (by decide)).trans x10]; rfl)) hK
    · obtain ⟨hM, jw, hjw, hW, hjR⟩ := hL.off (by decide)
      replace hK := hK _ hM
      exact l_val (v := vi ((s.n + 2 + i : Nat) : Int)) hd ((x_addc (op_is rfl ho) (hv 9 69 rfl (by kernel_rfl)) (hv 10 70 rfl (by kernel_rfl)) (by omega) (by omega)).trans (by rw [show ((s.n : Int) + 2 + (i : Int)) = ((s.n + 2 + i : Nat) : Int) by omega])) hK
    · obtain ⟨hM, jw, hjw, hW, hjR⟩ := hL.off (by decide)
      replace hK := hK _ hM
      have hj := hjR 0 13 rfl (by decide +kernel)
      obtain rfl : jw = 0 := by omega
      have hW : wa = w.drew := hW
      subst hW
      exact l_call hd (op_is rfl ho) (by simp only [List.map_toArray, List.map_cons, List.map_nil, hv 5 65 rfl (by kernel_rfl), hv 11 71 rfl (by kernel_rfl)] <;> rfl) Tryz.func73 (by kernel_rfl) (by rfl) ((by have h := cRGet (a := s.n + 2 + i) hR.drew.mem (by omega); rwa [memF_g] at h)) hK
    · obtain ⟨hW, rfl⟩ := hL.at_ (by decide) (j := 0) rfl
      have hW : wa = w.drew := hW
      subst hW
      exact l_callP hd (op_is rfl ho) (by simp only [List.map_toArray, List.map_cons, List.map_nil, hv 1 61 rfl (by kernel_rfl), hv 12 72 rfl (by kernel_rfl)] <;> rfl) Tryz.func75 (by kernel_rfl) (by rfl) ((cRKept (v := (s.slot i).gen) hT.drew hc).mono (fun e x h => ⟨h.1, h.2.imp fun T1 d => (RGo.read hT.drew hR.drew hg d).undrew⟩)) hK
    · obtain ⟨hM, jw, hjw, hW, hjR⟩ := hL.off (by decide)
      replace hK := hK _ hM
      exact l_call hd (op_is rfl ho) (by simp only [List.map_toArray, List.map_cons, List.map_nil, hv 0 60 rfl (by kernel_rfl), hv 13 73 rfl (by kernel_rfl)] <;> rfl) Tryz.func74 (by kernel_rfl) (by rfl) (rPackH (by omega) g0 (by omega) _) hK
    · obtain ⟨hM, jw, hjw, hW, hjR⟩ := hL.off (by decide)
      replace hK := hK _ hM
      exact l_val hd ((x_move (op_is rfl ho)).trans (by rw [hv 14 74 rfl (by kernel_rfl)]; rfl)) hK
    · obtain ⟨hM, jw, hjw, hW, hjR⟩ := hL.off (by decide)
      replace hK := hK _ hM
      exact l_val (v := vi (hnd i (s.slot i).gen)) hd (x_extract (op_is rfl ho) (hv 15 59 rfl (by kernel_rfl)) rfl) hK
    · obtain ⟨hM, jw, hjw, hW, hjR⟩ := hL.off (by decide)
      replace hK := hK _ hM
      exact l_val (v := vi 0) hd (x_extract (op_is rfl ho) (hv 15 59 rfl (by kernel_rfl)) rfl) hK
    · obtain ⟨hM, jw, hjw, hW, hjR⟩ := hL.off (by decide)
      replace hK := hK _ hM
      exact l_val hd ((x_assign (op_is rfl ho)).trans (by rw [hv 16 75 rfl (by kernel_rfl)]; rfl)) hK
    · obtain ⟨hM, jw, hjw, hW, hjR⟩ := hL.off (by decide)
      replace hK := hK _ hM
      exact l_val hd ((x_assign (op_is rfl ho)).trans (by rw [hv 17 76 rfl (by kernel_rfl)]; rfl)) hK
  · intro a1 g1 g2 g3 g4 w1 hW
    exact hEnd a1 w1 g1 g2 (fun s hs'  => ev_same (g3 s (fun hm => by simp at hm; omega))) (g4 18 11 rfl) hW
section
variable {tb c i : Nat} {w : World} {T : List Nat} {r : RB} {s : PSt} {x g : Int}
theorem Th.alloc (h : Th T w tb r.m c) (ob : Obj) : Th T (w.alloc ob) tb r.m c := h.turned ((Turned.refl [] w).alloc ob) (by simp)
theorem RP.alloc (h : RP w r s) (ob : Obj) : RP (w.alloc ob) r s := h.turned ((Turned.refl [] w).alloc ob) (by simp)
theorem RGo.unalloc {ob : Obj} {s1 : PSt} {T1 : List Nat} {w1 : World} (h : RGo r T (w.alloc ob) tb c s1 T1 w1) : RGo r T w tb c s1 T1 w1 :=
  ⟨h.rp, h.out, h.did.th, fun x hx => (h.did.wide x hx).imp id (fun h => by simp at h; omega), ((Turned.refl _ w).alloc ob).trans h.did.turned⟩
set_option maxRecDepth 100000 in
set_option maxHeartbeats 1600000 in
theorem cRTakeFull (hT : Th T w tb r.m c) (hR : RP w r s) (hc : c ≤ 700000) (hg : r.g ∉ T) (hi : idxV s.h = 0) (na nb nc nd link : Int) : Calls Tryz.prog 20 #[.pointer (some ⟨r.q, 0, none⟩), .pointer (some ⟨tb, 0, none⟩), .agg #[.int .i64 na, .int .i64 nb, .int .i64 nc, .int .i64 nd], .int .i64 link] w fun e w' => e = .returned (.tuple #[.int .i64 0, .int .i64 102]) ∧ ∃ T', RGo r T w tb (c + 20) s T' w' := by
  have hT1 := hT.alloc (nodeObj na nb nc nd)
  have hR1 := hR.alloc (nodeObj na nb nc nd)
  have HP := cRPop0 hT1 hR1.mem hR1.pile (by omega) hg (by omega) (by rw [memF_h]; exact hi)
  have p1 := hR1.c1
  have HD : Hid (∀ T1 w1, Did [] T (w.alloc (nodeObj na nb nc nd)) tb r.m (c + 2) T1 w1 → RGo r T w tb (c + 20) s T1 w1) := fun T1 w1 d => ((RGo.read hT1 hR1 hg d).unalloc).up (by omega)
  clear hT hR hT1 hR1
  go_enter Tryz.func20, Tryz.ntmps20
  go_wp2_with (go_at_call 70; refine HP.mono ?_; rintro e w1 ⟨rfl, T1, d1⟩; have o1 := d1.th.m2; have HD1 : Hid _ := HD.out T1 w1 d1; clear d1 HP)
  go_ret2
  exact ⟨rfl, _, HD1.out⟩
set_option maxRecDepth 100000 in
set_option maxHeartbeats 1600000 in
theorem cRTake (hT : Th T w tb r.m c) (hR : RP w r s) (hn : s.n ≤ 4096) (hc : c ≤ 700000) (hg : r.g ∉ T) (ho : s.Ok) (hi : idxV s.h = (i : Nat)) (hi0 : i ≠ 0) (g0 : 0 ≤ (s.slot i).gen) (g1 : (s.slot i).gen ≤ 100000) (na nb nc nd link : Int) : Calls Tryz.prog 20 #[.pointer (some ⟨r.q, 0, none⟩), .pointer (some ⟨tb, 0, none⟩), .agg #[.int .i64 na, .int .i64 nb, .int .i64 nc, .int .i64 nd], .int .i64 link] w fun e w' => e = .returned (.tuple #[.int .i64 (hnd i ((s.slot i).gen + 1)), .int .i64 0]) ∧ ∃ T', RGo r T w tb (c + 20) (s.take i na nb nc nd link) T' w' := by
  have hin : i ≤ s.n := by have := ho.top; omega
  have hT1 := hT.alloc (nodeObj na nb nc nd)
  have hR1 := hR.alloc (nodeObj na nb nc nd)
  have hlow := ho.low i hin
  have HP := cRPop (i := i) (k := (s.f i : Int)) hT1 hR1.mem hR1.pile (by omega) hg (by omega) (by rw [memF_h]; exact hi) hi0 (by omega) (by omega) (memF_f s hin) (by omega) (by omega) (by rw [memF_h]; exact ho.h0) (by rw [memF_h]; exact ho.h1)
  rw [memF_h, ← memF_setH] at HP
  have p1 := hR1.c1
  have hz : ((i : Int) == 0) = false := by simp; omega
  have hN : (w.alloc (nodeObj na nb nc nd)).heap[w.heap.size]? = some (nodeObj na nb nc nd) := blk_new w _
  have HD : Hid (∀ T1 w1, MemAt w1 r.m r.g (2 * s.n + 3) (memF { s with h := nextV s.h (s.f i) }) → Did [r.g] T (w.alloc (nodeObj na nb nc nd)) tb r.m (c + 6) T1 w1 → RGo r T (w.alloc (nodeObj na nb nc nd)) tb (c + 6) { s with h := nextV s.h (s.f i) } T1 w1 ∧ w1.heap[w.heap.size]? = some (nodeObj na nb nc nd)) := fun T1 w1 m d => by
    have k := RGo.words (s' := { s with h := nextV s.h (s.f i) }) hT1 hR1 hg m d rfl rfl (fun _ _ _ => rfl)
    exact ⟨k, k.other hT1 hR1 hN (by decide)⟩
  clear hT hR hT1 hR1 hN
  go_enter Tryz.func20, Tryz.ntmps20
  go_wp2_with (first
    | (go_at_call 70; refine HP.mono ?_; rintro e w1 ⟨rfl, m1, T1, d1⟩; obtain ⟨k1, hN1⟩ := HD.out T1 w1 m1 d1; have o1 := d1.th.m2; have HF := cRFresh k1.did.th (by omega); have HK1 : Hid _ := k1; have HN1 : Hid _ := hN1; clear d1 HP k1 hN1 m1 HD)
    | (go_at_call 71; refine HF.mono ?_; rintro e w2 ⟨rfl, T2, d2⟩; have k2 := RGo.read HK1.out.did.th HK1.out.rp HK1.out.out d2; have HN2 : Hid _ := k2.other HK1.out.did.th HK1.out.rp HN1.out (by decide); have HK2 : Hid _ := k2; clear d2 HF k2))
  rename_i K0 hK0 K hK
  have k2 := HK2.out
  refine rtake_r7 (i := i) rfl rfl rfl k2.did.th k2.rp k2.out hn hin g0 (by show (s.slot i).gen ≤ 1000000; omega) ?_
  intro a1 w3 s1 d1 e1 k3
  have hN3 := k3.other k2.did.th k2.rp HN2.out (by decide)
  refine hK _ _ ?_
  refine wp_fall ?_
  refine rtake_r8 (i := i) (xb := w.heap.size) (link := link) (na := na) (nb := nb) (nc := nc) (nd := nd) (s1.trans rfl) ((e1 0 (by omega)).trans rfl) ((e1 3 (by omega)).trans rfl) ((e1 6 (by omega)).trans rfl) ((e1 10 (by omega)).trans rfl) k3.did.th k3.rp k3.out hin hN3 ?_
  intro a2 w4 s2 d2 e2 k4
  refine hK0 _ _ ?_
  refine wp_seq_k fun K3 hK3 => ?_
  have eg : ∀ S : Slot, (upd (upd s.slot i { s.slot i with gen := (s.slot i).gen + 1 }) i S) = upd s.slot i S := fun S => by
    funext j
    by_cases e : j = i
    · subst e; rw [upd_same, upd_same]
    · rw [upd_other _ _ e, upd_other _ _ e, upd_other _ _ e]
  have k4' : RGo r T2 w3 tb (c + 6 + 1) (s.take i na nb nc nd link) T2 w4 := by
    have := k4
    simp only [eg, upd_same] at this
    exact this
  have gen4 : ((s.take i na nb nc nd link).slot i).gen = (s.slot i).gen + 1 := by
    show (upd s.slot i _ i).gen = _
    rw [upd_same]
  refine rtake_r9 (i := i) (s := s.take i na nb nc nd link) (s2.trans (s1.trans rfl)) ((e2 0 (by omega)).trans ((e1 0 (by omega)).trans rfl)) ((e2 1 (by omega)).trans ((e1 1 (by omega)).trans rfl)) ((e2 10 (by omega)).trans ((e1 10 (by omega)).trans rfl)) k4'.did.th k4'.rp k4'.out hn hin (by rw [gen4]; omega) (by rw [gen4]; omega) (by omega) ?_
  rintro a3 w5 s3 d3 e3 x11 ⟨T5, k5⟩
  rw [gen4] at x11
  have HK5 : Hid (RGo r T w tb (c + 20) (s.take i na nb nc nd link) T5 w5) := (((HK1.out.trans (HK2.out.trans (k3.trans (k4'.trans k5)))).unalloc).up (by omega))
  obtain ⟨cc, rfl, hcc⟩ := expand78 (s3.trans (s2.trans s1)) (d3.trans (d2.trans d1))
  have y11 : cc 11 = .int .i64 (hnd i ((s.slot i).gen + 1)) := (hcc 11).trans x11
  clear hcc x11 e3 k5 k4' k4 k3 e1 e2 s1 s2 s3 d1 d2 d3 hK hK0
  refine hK3 _ _ ?_
  unfold lit78
  simp only [y11]
  go_wp2
  go_ret2
  exact ⟨rfl, _, HK5.out⟩
end
end Go.Proofs.YtjbhnpofdafmbaaGreatDoor

/- The book's hold (kind Ints): all lists hold what they must. -/
import Derived.Test.YtjbhnpofdafmbaaGreatDoorJ14
import Derived.Test.YtjbhnpofdafmbaaGreatDoorJ21
import Derived.Test.YtjbhnpofdafmbaaGreatDoorJ13
import Derived.Test.YtjbhnpofdafmbaaGreatDoorJ15
namespace Go.Proofs.YtjbhnpofdafmbaaGreatDoor
open Go.RowKit
theorem sameInts {w : World} {va vb : Value} {n : Nat} {zs : List Int} (h1 : IRow w 3 1 va n zs) (h2 : IRow w 3 1 vb n zs) (hn : n ≤ 5000) : ∃ w1, Calls Tryz.prog 95 #[va, vb] w (fun e w'' => e = .returned (.bool true) ∧ w'' = w1) ∧ Turned [] w w1 :=
  ⟨w, cSameInts h1 h2 (by omega), Turned.refl _ _⟩
set_option maxRecDepth 100000 in
set_option maxHeartbeats 1600000 in
theorem holdInts_r0 {K : Act → World → Prop} {Q : Exit → Act → World → Prop} {a : Act} {w : World}  (hs : a.tmps.size = 55) (hd : a.defers = [])  
    (hEnd : ∀ a', a'.tmps.size = a.tmps.size → a'.defers = a.defers → (∀ s : Nat, s < 5 → s ≠ 2 → a'.eval (.tmp s) = a.eval (.tmp s)) → a'.eval (.tmp 2) = .bool false → K a' w) :
    (Code.region 0 (opsOf 0 Tryz.f42.body) false).wp Tryz.prog (Exit.then K Q) a w := by
  obtain ⟨cc, rfl, hcc⟩ := expand55 hs hd
  have HE : Hid _ := hEnd
  clear hEnd hcc hs hd 
  conv => arg 2; whnf
  unfold lit55 at *
  skip
  go_wp2
  show K _ _
  refine HE.out _ rfl rfl (fun s hs hc => ?_) (by first | (rfl) | simp [Act.eval, Array.getD])
  match s, hs, hc with
  | 0, _, _ => rfl
  | 1, _, _ => rfl
  | 2, _, h => exact absurd rfl h
  | 3, _, _ => rfl
  | 4, _, _ => rfl
  | n + 5, hs, _ => exact absurd hs (by simp)
set_option maxRecDepth 100000 in
set_option maxHeartbeats 1600000 in
theorem holdInts_r1 {K : Act → World → Prop} {Q : Exit → Act → World → Prop} {a : Act} {w : World}  (hs : a.tmps.size = 55) (hd : a.defers = [])  
    (hEnd : ∀ a', a'.tmps.size = a.tmps.size → a'.defers = a.defers → (∀ s : Nat, s < 5 → s ≠ 3 → a'.eval (.tmp s) = a.eval (.tmp s)) → a'.eval (.tmp 3) = .int .i64 ((0 : Nat) : Int) → K a' w) :
    (Code.region 1 (opsOf 1 Tryz.f42.body) false).wp Tryz.prog (Exit.then K Q) a w := by
  obtain ⟨cc, rfl, hcc⟩ := expand55 hs hd
  have HE : Hid _ := hEnd
  clear hEnd hcc hs hd 
  conv => arg 2; whnf
  unfold lit55 at *
  skip
  go_wp2
  show K _ _
  refine HE.out _ rfl rfl (fun s hs hc => ?_) (by first | (rfl) | simp [Act.eval, Array.getD])
  match s, hs, hc with
  | 0, _, _ => rfl
  | 1, _, _ => rfl
  | 2, _, _ => rfl
  | 3, _, h => exact absurd rfl h
  | 4, _, _ => rfl
  | n + 5, hs, _ => exact absurd hs (by simp)
set_option maxRecDepth 100000 in
set_option maxHeartbeats 1600000 in
theorem holdInts_r2 {K : Act → World → Prop} {Q : Exit → Act → World → Prop} {a : Act} {w : World} {bb k m c : Nat} {ra : Option Addr} (hs : a.tmps.size = 55) (hd : a.defers = []) (x0 : a.eval (.tmp 0) = .pointer (some ⟨bb, 0, none⟩)) (x3 : a.eval (.tmp 3) = .int .i64 (k : Nat)) (hc : w.cell? ⟨bb, 4, none⟩ = some (.slice ra m c))
    (hEnd : ∀ a', a'.tmps.size = a.tmps.size → a'.defers = a.defers → (∀ s : Nat, s < 5 → a'.eval (.tmp s) = a.eval (.tmp s)) → a'.eval (.tmp 11) = .bool (decide ((k : Int) < (m : Int))) → K a' w) :
    (Code.region 2 (opsOf 2 Tryz.f42.body) false).wp Tryz.prog (Exit.then K Q) a w := by
  obtain ⟨cc, rfl, hcc⟩ := expand55 hs hd
  have y0 : cc 0 = .pointer (some ⟨bb, 0, none⟩) := (hcc 0).trans x0
  have y3 : cc 3 = .int .i64 (k : Nat) := (hcc 3).trans x3
  have HE : Hid _ := hEnd
  clear hEnd hcc hs hd x0 x3
  conv => arg 2; whnf
  unfold lit55 at *
  simp only [y0, y3] at *
  go_wp2
  show K _ _
  refine HE.out _ rfl rfl (fun s hs => ?_) (by first | (rfl) | simp [Act.eval, Array.getD])
  match s, hs with
  | 0, _ => rfl
  | 1, _ => rfl
  | 2, _ => rfl
  | 3, _ => rfl
  | 4, _ => rfl
  | n + 5, hs => exact absurd hs (by simp)
set_option maxRecDepth 100000 in
set_option maxHeartbeats 1600000 in
theorem holdInts_r3 {K : Act → World → Prop} {Q : Exit → Act → World → Prop} {a : Act} {w : World} {k : Nat} (hs : a.tmps.size = 55) (hd : a.defers = []) (x3 : a.eval (.tmp 3) = .int .i64 (k : Nat)) (hk : k ≤ 1000000)
    (hEnd : ∀ a', a'.tmps.size = a.tmps.size → a'.defers = a.defers → (∀ s : Nat, s < 5 → s ≠ 3 → a'.eval (.tmp s) = a.eval (.tmp s)) → a'.eval (.tmp 3) = .int .i64 ((k + 1 : Nat) : Int) → K a' w) :
    (Code.region 3 (opsOf 3 Tryz.f42.body) false).wp Tryz.prog (Exit.then K Q) a w := by
  obtain ⟨cc, rfl, hcc⟩ := expand55 hs hd
  have y3 : cc 3 = .int .i64 (k : Nat) := (hcc 3).trans x3
  have HE : Hid _ := hEnd
  clear hEnd hcc hs hd x3
  conv => arg 2; whnf
  unfold lit55 at *
  simp only [y3] at *
  go_wp2
  show K _ _
  refine HE.out _ rfl rfl (fun s hs hc => ?_) (by first | (show Value.int .i64 ((k : Int) + 1) = .int .i64 ((k + 1 : Nat) : Int); simp) | simp [Act.eval, Array.getD])
  match s, hs, hc with
  | 0, _, _ => rfl
  | 1, _, _ => rfl
  | 2, _, _ => rfl
  | 3, _, h => exact absurd rfl h
  | 4, _, _ => rfl
  | n + 5, hs, _ => exact absurd hs (by simp)
set_option maxRecDepth 100000 in
set_option maxHeartbeats 1600000 in
theorem holdInts_r4 {K : Act → World → Prop} {Q : Exit → Act → World → Prop} {a : Act} {w : World} {w1 : World} {bb : Nat} {l nt : Value} {k m g rc g2 rc2 : Nat} (hs : a.tmps.size = 55) (x0 : a.eval (.tmp 0) = pv bb 0) (xk : a.eval (.tmp 3) = vi (k : Nat)) (hlt : (k : Int) < (m : Int)) (hA : w.cell? ⟨bb, 4, none⟩ = some (Value.slice (some ⟨g, 0, none⟩) m rc)) (hB : w.cell? ⟨bb, 5, none⟩ = some (Value.slice (some ⟨g2, 0, none⟩) m rc2)) (hl : w.cell? ⟨g, k, none⟩ = some l) (hn : w.cell? ⟨g2, k, none⟩ = some nt) (hyl : ∃ sa sn sc, l = .slice sa sn sc) (hyn : ∃ sa sn sc, nt = .slice sa sn sc) (HC : Calls Tryz.prog 95 #[l, nt] w.drew fun e w'' => e = .returned (.bool true) ∧ w'' = w1)
    (hEnd : ∀ a', a'.tmps.size = a.tmps.size → a'.defers = a.defers → (∀ s : Nat, s < 5 → a'.eval (.tmp s) = a.eval (.tmp s)) → a'.eval (.tmp 29) = .bool false → K a' w1) :
    (Code.region 4 (opsOf 4 Tryz.f42.body) true).wp Tryz.prog (Exit.then K Q) a w := by
  refine wp_region_chain (by kernel_rfl) [some 14, some 15, some 16, some 17, some 18, some 19, some 20, some 21, some 22, some 23, some 24, some 25, some 26, some 27, some 28, some 29] (fun kk => match kk with
      | 0 => pv bb 0
      | 1 => pv bb 0
      | 2 => pv bb 4
      | 3 => Value.slice (some ⟨g, 0, none⟩) m rc
      | 4 => vi (k : Nat)
      | 5 => pv g k
      | 6 => l
      | 7 => pv bb 0
      | 8 => pv bb 0
      | 9 => pv bb 5
      | 10 => Value.slice (some ⟨g2, 0, none⟩) m rc2
      | 11 => vi (k : Nat)
      | 12 => pv g2 k
      | 13 => nt
      | 14 => Value.bool true
      | 15 => Value.bool false
      | _ => undef) (by rw [hs]; kernel_rfl) [14] (fun jj => match jj with
      | 0 => w.drew
      | _ => w1) rfl (by first | decide | nofun) (by decide +kernel) ?_ ?_ ?_
  · intro kk gg bq h
    exact (no_guard (by kernel_rfl) h).elim
  · intro kk hk _ o ac wa wb K ho hd _ hoff hv hL hK
    rcases (by simp at hk; omega : kk = 0 ∨ kk = 1 ∨ kk = 2 ∨ kk = 3 ∨ kk = 4 ∨ kk = 5 ∨ kk = 6 ∨ kk = 7 ∨ kk = 8 ∨ kk = 9 ∨ kk = 10 ∨ kk = 11 ∨ kk = 12 ∨ kk = 13 ∨ kk = 14 ∨ kk = 15) with rfl | rfl | rfl | rfl | rfl | rfl | rfl | rfl | rfl | rfl | rfl | rfl | rfl | rfl | rfl | rfl
    · obtain ⟨rfl, jw, hjw, rfl, hjR⟩ := hL.off (by first | decide | nofun)
      exact l_val hd ((x_move (op_is rfl ho)).trans (by rw [(hoff 0 (by first | decide | nofun)).trans x0]; rfl)) hK
    · obtain ⟨rfl, jw, hjw, rfl, hjR⟩ := hL.off (by first | decide | nofun)
      exact l_val hd (x_nil (op_is rfl ho) (hv 0 14 rfl (by kernel_rfl))) hK
    · obtain ⟨rfl, jw, hjw, rfl, hjR⟩ := hL.off (by first | decide | nofun)
      exact l_val hd (x_field (op_is rfl ho) (by rw [hv 1 15 rfl (by kernel_rfl)]; unfold pv; go_simp)) hK
    · obtain ⟨rfl, jw, hjw, rfl, hjR⟩ := hL.off (by first | decide | nofun)
      have hj := hjR 0 14 rfl (by decide +kernel)
      obtain rfl : jw = 0 := by omega
      exact l_val hd (x_load (op_is rfl ho) (by rw [hv 2 16 rfl (by kernel_rfl)]; exact Ints_ld hA)) hK
    · obtain ⟨rfl, jw, hjw, rfl, hjR⟩ := hL.off (by first | decide | nofun)
      exact l_val hd ((x_move (op_is rfl ho)).trans (by rw [(hoff 3 (by first | decide | nofun)).trans xk]; rfl)) hK
    · obtain ⟨rfl, jw, hjw, rfl, hjR⟩ := hL.off (by first | decide | nofun)
      exact l_val hd (x_index (op_is rfl ho) (by rw [hv 3 17 rfl (by kernel_rfl), hv 4 18 rfl (by kernel_rfl)]; exact idx_lists_Ints hlt)) hK
    · obtain ⟨rfl, jw, hjw, rfl, hjR⟩ := hL.off (by first | decide | nofun)
      have hj := hjR 0 14 rfl (by decide +kernel)
      obtain rfl : jw = 0 := by omega
      exact l_val hd (x_load (op_is rfl ho) (by rw [hv 5 19 rfl (by kernel_rfl)]; exact Ints_ldi hyl hl)) hK
    · obtain ⟨rfl, jw, hjw, rfl, hjR⟩ := hL.off (by first | decide | nofun)
      exact l_val hd ((x_move (op_is rfl ho)).trans (by rw [(hoff 0 (by first | decide | nofun)).trans x0]; rfl)) hK
    · obtain ⟨rfl, jw, hjw, rfl, hjR⟩ := hL.off (by first | decide | nofun)
      exact l_val hd (x_nil (op_is rfl ho) (hv 7 21 rfl (by kernel_rfl))) hK
    · obtain ⟨rfl, jw, hjw, rfl, hjR⟩ := hL.off (by first | decide | nofun)
      exact l_val hd (x_field (op_is rfl ho) (by rw [hv 8 22 rfl (by kernel_rfl)]; unfold pv; go_simp)) hK
    · obtain ⟨rfl, jw, hjw, rfl, hjR⟩ := hL.off (by first | decide | nofun)
      have hj := hjR 0 14 rfl (by decide +kernel)
      obtain rfl : jw = 0 := by omega
      exact l_val hd (x_load (op_is rfl ho) (by rw [hv 9 23 rfl (by kernel_rfl)]; exact Ints_ld hB)) hK
    · obtain ⟨rfl, jw, hjw, rfl, hjR⟩ := hL.off (by first | decide | nofun)
      exact l_val hd ((x_move (op_is rfl ho)).trans (by rw [(hoff 3 (by first | decide | nofun)).trans xk]; rfl)) hK
    · obtain ⟨rfl, jw, hjw, rfl, hjR⟩ := hL.off (by first | decide | nofun)
      exact l_val hd (x_index (op_is rfl ho) (by rw [hv 10 24 rfl (by kernel_rfl), hv 11 25 rfl (by kernel_rfl)]; exact idx_lists_Ints hlt)) hK
    · obtain ⟨rfl, jw, hjw, rfl, hjR⟩ := hL.off (by first | decide | nofun)
      have hj := hjR 0 14 rfl (by decide +kernel)
      obtain rfl : jw = 0 := by omega
      exact l_val hd (x_load (op_is rfl ho) (by rw [hv 12 26 rfl (by kernel_rfl)]; exact Ints_ldi hyn hn)) hK
    · obtain ⟨rfl, rfl⟩ := hL.at_ (by first | decide | nofun) (j := 0) rfl
      exact l_call hd (op_is rfl ho) (by simp only [List.map_toArray, List.map_cons, List.map_nil, hv 6 20 rfl (by kernel_rfl), hv 13 27 rfl (by kernel_rfl)] <;> rfl) Tryz.func95 (by kernel_rfl) (by rfl) HC hK
    · obtain ⟨rfl, jw, hjw, rfl, hjR⟩ := hL.off (by first | decide | nofun)
      exact l_val hd ((x_not (op_is rfl ho) (hv 14 28 rfl (by kernel_rfl))).trans rfl) hK
  · intro a1 g1 g2 g3 g4
    exact hEnd a1 g1 g2 (fun s hs' => ev_same (g3 s (not_low hs' (by first | decide | nofun)))) (g4 15 29 rfl)
set_option maxRecDepth 100000 in
set_option maxHeartbeats 1600000 in
theorem holdInts_h1 {K : Act → World → Prop} {Q : Exit → Act → World → Prop} {a : Act} {w : World} {bb : Nat} {f : Nat → Value} {ps : List Ot} (hs : a.tmps.size = 55) (hd : a.defers = []) (x0 : a.eval (.tmp 0) = pv bb 0) (hB : BK w bb f) (hx : w.ownsRow 0 29 1 (f 4) ps.length (ps.map (·.o))) (hy : w.ownsRow 0 29 1 (f 5) ps.length (ps.map (·.c)))
    (hp : ∀ q ∈ ps, IRow w 3 1 q.o q.n q.zs ∧ IRow w 3 1 q.c q.n q.zs ∧ q.n ≤ 5000) (hl : ps.length ≤ 300000)
    (hEnd : ∀ a' w', a'.tmps.size = a.tmps.size → a'.defers = a.defers → a'.eval (.tmp 0) = pv bb 0 → Turned [] w w' → K a' w') :
    ((Code.region 1 (opsOf 1 Tryz.f42.body) false).seq (Code.block 0 (Code.loop (((Code.region 2 (opsOf 2 Tryz.f42.body) false).seq (Code.cond (.tmp 11) .skip (.exit 0))).seq ((Code.block 1 ((Code.region 4 (opsOf 4 Tryz.f42.body) true).seq (Code.cond (.tmp 29) ((Code.region 5 (opsOf 5 Tryz.f42.body) false).seq .ret) .skip))).seq (Code.region 3 (opsOf 3 Tryz.f42.body) false)))))).wp Tryz.prog (Exit.then K Q) a w := by
  refine wp_seq ?_
  refine holdInts_r1 hs hd ?_
  intro a1 s1 d1 k1 e1
  refine wp_block ?_
  refine wp_loop (fun a' w' => ∃ k : Nat, k ≤ ps.length ∧ a'.tmps.size = 55 ∧ a'.defers = [] ∧ a'.eval (.tmp 0) = pv bb 0 ∧ a'.eval (.tmp 3) = .int .i64 (k : Nat) ∧ Turned [] w w') (fun a' _ => ps.length - (intOf (a'.eval (.tmp 3))).toNat) ?_ ?_
  · exact ⟨0, Nat.zero_le _, s1.trans hs, d1.trans hd, (k1 0 (by omega) (by omega)).trans x0, e1, Turned.refl _ _⟩
  · rintro a2 w2 ⟨k, hk, hs2, hd2, x02, xk2, hT⟩
    have hx2 := Row.keep hx hT (by simp)
    have hy2 := Row.keep hy hT (by simp)
    have hB2 := hB.keep hT (by simp)
    obtain ⟨sa, sc, es⟩ := Row.shape hx2
    have q0 := hB2.cell (i := 4) (by omega)
    rw [es] at q0
    refine wp_seq ?_
    refine wp_seq ?_
    refine holdInts_r2 hs2 hd2 x02 xk2 q0 ?_
    intro a3 s3 d3 k3 e3
    by_cases hlt : k < ps.length
    · refine wp_cond_true (e3.trans (by simp; omega)) ?_
      refine wp_skip ?_
      obtain ⟨q, hq⟩ : ∃ q, ps[k]? = some q := ⟨ps[k], List.getElem?_eq_getElem hlt⟩
      obtain ⟨hkl, hqe⟩ := List.getElem?_eq_some_iff.1 hq
      obtain ⟨p1, p2, p3⟩ := hp q (by rw [← hqe]; exact List.getElem_mem hkl)
      have p1' := Row.keep p1 hT (by simp)
      have p2' := Row.keep p2 hT (by simp)
      obtain ⟨gA, cA, cuA, eA, -, -⟩ := Row.form hx2 (by omega)
      obtain ⟨gN, cN, cuN, eN, -, -⟩ := Row.form hy2 (by omega)
      have cellA : w2.cell? ⟨gA, k, none⟩ = some q.o := by
        have h1 := hx2
        rw [eA] at h1
        rw [World.ownsRow.cellAt h1 k (by omega)]
        simp [hq]
      have cellN : w2.cell? ⟨gN, k, none⟩ = some q.c := by
        have h1 := hy2
        rw [eN] at h1
        rw [World.ownsRow.cellAt h1 k (by omega)]
        simp [hq]
      have qA := hB2.cell (i := 4) (by omega)
      have qN := hB2.cell (i := 5) (by omega)
      rw [eA] at qA
      rw [eN] at qN
      obtain ⟨w3, hc, ht3⟩ := sameInts (w := w2.drew) (Row.keep p1' (Turned.refl [] w2).drew (by simp)) (Row.keep p2' (Turned.refl [] w2).drew (by simp)) p3
      have hT3 : Turned [] w w3 := hT.drew.trans ht3
      refine wp_seq ?_
      refine wp_block ?_
      refine wp_seq ?_
      refine holdInts_r4 (s3.trans hs2) ((k3 0 (by omega)).trans x02) ((k3 3 (by omega)).trans xk2) (by omega) qA qN cellA cellN (Row.slice p1') (Row.slice p2') hc ?_
      intro a4 s4 d4 k4 e4
      refine wp_cond_false (e4.trans rfl) ?_
      refine wp_skip ?_
      show (Code.region 3 (opsOf 3 Tryz.f42.body) false).wp _ _ _ _
      refine holdInts_r3 (k := k) (s4.trans (s3.trans hs2)) (d4.trans (d3.trans hd2)) ((k4 3 (by omega)).trans ((k3 3 (by omega)).trans xk2)) (by omega) ?_
      intro a5 s5 d5 k5 e5
      refine ⟨⟨k + 1, by omega, s5.trans (s4.trans (s3.trans hs2)), d5.trans (d4.trans (d3.trans hd2)), (k5 0 (by omega) (by omega)).trans ((k4 0 (by omega)).trans ((k3 0 (by omega)).trans x02)), e5, hT3⟩, ?_⟩
      rw [e5, xk2]
      simp [intOf]
      omega
    · refine wp_cond_false (e3.trans (by simp; omega)) ?_
      refine wp_exit ?_
      exact hEnd a3 w2 (s3.trans (hs2.trans hs.symm)) (d3.trans (hd2.trans hd.symm)) ((k3 0 (by omega)).trans x02) hT
set_option maxRecDepth 100000 in
set_option maxHeartbeats 1600000 in
theorem holdInts_r6 {K : Act → World → Prop} {Q : Exit → Act → World → Prop} {a : Act} {w : World}  (hs : a.tmps.size = 55) (hd : a.defers = [])  
    (hEnd : ∀ a', a'.tmps.size = a.tmps.size → a'.defers = a.defers → (∀ s : Nat, s < 5 → s ≠ 4 → a'.eval (.tmp s) = a.eval (.tmp s)) → a'.eval (.tmp 4) = .int .i64 ((0 : Nat) : Int) → K a' w) :
    (Code.region 6 (opsOf 6 Tryz.f42.body) false).wp Tryz.prog (Exit.then K Q) a w := by
  obtain ⟨cc, rfl, hcc⟩ := expand55 hs hd
  have HE : Hid _ := hEnd
  clear hEnd hcc hs hd 
  conv => arg 2; whnf
  unfold lit55 at *
  skip
  go_wp2
  show K _ _
  refine HE.out _ rfl rfl (fun s hs hc => ?_) (by first | (rfl) | simp [Act.eval, Array.getD])
  match s, hs, hc with
  | 0, _, _ => rfl
  | 1, _, _ => rfl
  | 2, _, _ => rfl
  | 3, _, _ => rfl
  | 4, _, h => exact absurd rfl h
  | n + 5, hs, _ => exact absurd hs (by simp)
set_option maxRecDepth 100000 in
set_option maxHeartbeats 1600000 in
theorem holdInts_r7 {K : Act → World → Prop} {Q : Exit → Act → World → Prop} {a : Act} {w : World} {bb k m c : Nat} {ra : Option Addr} (hs : a.tmps.size = 55) (hd : a.defers = []) (x0 : a.eval (.tmp 0) = .pointer (some ⟨bb, 0, none⟩)) (x4 : a.eval (.tmp 4) = .int .i64 (k : Nat)) (hc : w.cell? ⟨bb, 6, none⟩ = some (.slice ra m c))
    (hEnd : ∀ a', a'.tmps.size = a.tmps.size → a'.defers = a.defers → (∀ s : Nat, s < 5 → a'.eval (.tmp s) = a.eval (.tmp s)) → a'.eval (.tmp 36) = .bool (decide ((k : Int) < (m : Int))) → K a' w) :
    (Code.region 7 (opsOf 7 Tryz.f42.body) false).wp Tryz.prog (Exit.then K Q) a w := by
  obtain ⟨cc, rfl, hcc⟩ := expand55 hs hd
  have y0 : cc 0 = .pointer (some ⟨bb, 0, none⟩) := (hcc 0).trans x0
  have y4 : cc 4 = .int .i64 (k : Nat) := (hcc 4).trans x4
  have HE : Hid _ := hEnd
  clear hEnd hcc hs hd x0 x4
  conv => arg 2; whnf
  unfold lit55 at *
  simp only [y0, y4] at *
  go_wp2
  show K _ _
  refine HE.out _ rfl rfl (fun s hs => ?_) (by first | (rfl) | simp [Act.eval, Array.getD])
  match s, hs with
  | 0, _ => rfl
  | 1, _ => rfl
  | 2, _ => rfl
  | 3, _ => rfl
  | 4, _ => rfl
  | n + 5, hs => exact absurd hs (by simp)
set_option maxRecDepth 100000 in
set_option maxHeartbeats 1600000 in
theorem holdInts_r8 {K : Act → World → Prop} {Q : Exit → Act → World → Prop} {a : Act} {w : World} {k : Nat} (hs : a.tmps.size = 55) (hd : a.defers = []) (x4 : a.eval (.tmp 4) = .int .i64 (k : Nat)) (hk : k ≤ 1000000)
    (hEnd : ∀ a', a'.tmps.size = a.tmps.size → a'.defers = a.defers → (∀ s : Nat, s < 5 → s ≠ 4 → a'.eval (.tmp s) = a.eval (.tmp s)) → a'.eval (.tmp 4) = .int .i64 ((k + 1 : Nat) : Int) → K a' w) :
    (Code.region 8 (opsOf 8 Tryz.f42.body) false).wp Tryz.prog (Exit.then K Q) a w := by
  obtain ⟨cc, rfl, hcc⟩ := expand55 hs hd
  have y4 : cc 4 = .int .i64 (k : Nat) := (hcc 4).trans x4
  have HE : Hid _ := hEnd
  clear hEnd hcc hs hd x4
  conv => arg 2; whnf
  unfold lit55 at *
  simp only [y4] at *
  go_wp2
  show K _ _
  refine HE.out _ rfl rfl (fun s hs hc => ?_) (by first | (show Value.int .i64 ((k : Int) + 1) = .int .i64 ((k + 1 : Nat) : Int); simp) | simp [Act.eval, Array.getD])
  match s, hs, hc with
  | 0, _, _ => rfl
  | 1, _, _ => rfl
  | 2, _, _ => rfl
  | 3, _, _ => rfl
  | 4, _, h => exact absurd rfl h
  | n + 5, hs, _ => exact absurd hs (by simp)
set_option maxRecDepth 100000 in
set_option maxHeartbeats 1600000 in
theorem holdInts_r9 {K : Act → World → Prop} {Q : Exit → Act → World → Prop} {a : Act} {w : World} {w1 : World} {bb : Nat} {l nt : Value} {k m g rc g2 rc2 : Nat} (hs : a.tmps.size = 55) (x0 : a.eval (.tmp 0) = pv bb 0) (xk : a.eval (.tmp 4) = vi (k : Nat)) (hlt : (k : Int) < (m : Int)) (hA : w.cell? ⟨bb, 6, none⟩ = some (Value.slice (some ⟨g, 0, none⟩) m rc)) (hB : w.cell? ⟨bb, 7, none⟩ = some (Value.slice (some ⟨g2, 0, none⟩) m rc2)) (hl : w.cell? ⟨g, k, none⟩ = some l) (hn : w.cell? ⟨g2, k, none⟩ = some nt) (hyl : ∃ sa sn sc, l = .slice sa sn sc) (hyn : ∃ sa sn sc, nt = .slice sa sn sc) (HC : Calls Tryz.prog 95 #[l, nt] w.drew fun e w'' => e = .returned (.bool true) ∧ w'' = w1)
    (hEnd : ∀ a', a'.tmps.size = a.tmps.size → a'.defers = a.defers → (∀ s : Nat, s < 5 → a'.eval (.tmp s) = a.eval (.tmp s)) → a'.eval (.tmp 54) = .bool false → K a' w1) :
    (Code.region 9 (opsOf 9 Tryz.f42.body) true).wp Tryz.prog (Exit.then K Q) a w := by
  refine wp_region_chain (by kernel_rfl) [some 39, some 40, some 41, some 42, some 43, some 44, some 45, some 46, some 47, some 48, some 49, some 50, some 51, some 52, some 53, some 54] (fun kk => match kk with
      | 0 => pv bb 0
      | 1 => pv bb 0
      | 2 => pv bb 6
      | 3 => Value.slice (some ⟨g, 0, none⟩) m rc
      | 4 => vi (k : Nat)
      | 5 => pv g k
      | 6 => l
      | 7 => pv bb 0
      | 8 => pv bb 0
      | 9 => pv bb 7
      | 10 => Value.slice (some ⟨g2, 0, none⟩) m rc2
      | 11 => vi (k : Nat)
      | 12 => pv g2 k
      | 13 => nt
      | 14 => Value.bool true
      | 15 => Value.bool false
      | _ => undef) (by rw [hs]; kernel_rfl) [14] (fun jj => match jj with
      | 0 => w.drew
      | _ => w1) rfl (by first | decide | nofun) (by decide +kernel) ?_ ?_ ?_
  · intro kk gg bq h
    exact (no_guard (by kernel_rfl) h).elim
  · intro kk hk _ o ac wa wb K ho hd _ hoff hv hL hK
    rcases (by simp at hk; omega : kk = 0 ∨ kk = 1 ∨ kk = 2 ∨ kk = 3 ∨ kk = 4 ∨ kk = 5 ∨ kk = 6 ∨ kk = 7 ∨ kk = 8 ∨ kk = 9 ∨ kk = 10 ∨ kk = 11 ∨ kk = 12 ∨ kk = 13 ∨ kk = 14 ∨ kk = 15) with rfl | rfl | rfl | rfl | rfl | rfl | rfl | rfl | rfl | rfl | rfl | rfl | rfl | rfl | rfl | rfl
    · obtain ⟨rfl, jw, hjw, rfl, hjR⟩ := hL.off (by first | decide | nofun)
      exact l_val hd ((x_move (op_is rfl ho)).trans (by rw [(hoff 0 (by first | decide | nofun)).trans x0]; rfl)) hK
    · obtain ⟨rfl, jw, hjw, rfl, hjR⟩ := hL.off (by first | decide | nofun)
      exact l_val hd (x_nil (op_is rfl ho) (hv 0 39 rfl (by kernel_rfl))) hK
    · obtain ⟨rfl, jw, hjw, rfl, hjR⟩ := hL.off (by first | decide | nofun)
      exact l_val hd (x_field (op_is rfl ho) (by rw [hv 1 40 rfl (by kernel_rfl)]; unfold pv; go_simp)) hK
    · obtain ⟨rfl, jw, hjw, rfl, hjR⟩ := hL.off (by first | decide | nofun)
      have hj := hjR 0 14 rfl (by decide +kernel)
      obtain rfl : jw = 0 := by omega
      exact l_val hd (x_load (op_is rfl ho) (by rw [hv 2 41 rfl (by kernel_rfl)]; exact Ints_ld hA)) hK
    · obtain ⟨rfl, jw, hjw, rfl, hjR⟩ := hL.off (by first | decide | nofun)
      exact l_val hd ((x_move (op_is rfl ho)).trans (by rw [(hoff 4 (by first | decide | nofun)).trans xk]; rfl)) hK
    · obtain ⟨rfl, jw, hjw, rfl, hjR⟩ := hL.off (by first | decide | nofun)
      exact l_val hd (x_index (op_is rfl ho) (by rw [hv 3 42 rfl (by kernel_rfl), hv 4 43 rfl (by kernel_rfl)]; exact idx_lists_Ints hlt)) hK
    · obtain ⟨rfl, jw, hjw, rfl, hjR⟩ := hL.off (by first | decide | nofun)
      have hj := hjR 0 14 rfl (by decide +kernel)
      obtain rfl : jw = 0 := by omega
      exact l_val hd (x_load (op_is rfl ho) (by rw [hv 5 44 rfl (by kernel_rfl)]; exact Ints_ldi hyl hl)) hK
    · obtain ⟨rfl, jw, hjw, rfl, hjR⟩ := hL.off (by first | decide | nofun)
      exact l_val hd ((x_move (op_is rfl ho)).trans (by rw [(hoff 0 (by first | decide | nofun)).trans x0]; rfl)) hK
    · obtain ⟨rfl, jw, hjw, rfl, hjR⟩ := hL.off (by first | decide | nofun)
      exact l_val hd (x_nil (op_is rfl ho) (hv 7 46 rfl (by kernel_rfl))) hK
    · obtain ⟨rfl, jw, hjw, rfl, hjR⟩ := hL.off (by first | decide | nofun)
      exact l_val hd (x_field (op_is rfl ho) (by rw [hv 8 47 rfl (by kernel_rfl)]; unfold pv; go_simp)) hK
    · obtain ⟨rfl, jw, hjw, rfl, hjR⟩ := hL.off (by first | decide | nofun)
      have hj := hjR 0 14 rfl (by decide +kernel)
      obtain rfl : jw = 0 := by omega
      exact l_val hd (x_load (op_is rfl ho) (by rw [hv 9 48 rfl (by kernel_rfl)]; exact Ints_ld hB)) hK
    · obtain ⟨rfl, jw, hjw, rfl, hjR⟩ := hL.off (by first | decide | nofun)
      exact l_val hd ((x_move (op_is rfl ho)).trans (by rw [(hoff 4 (by first | decide | nofun)).trans xk]; rfl)) hK
    · obtain ⟨rfl, jw, hjw, rfl, hjR⟩ := hL.off (by first | decide | nofun)
      exact l_val hd (x_index (op_is rfl ho) (by rw [hv 10 49 rfl (by kernel_rfl), hv 11 50 rfl (by kernel_rfl)]; exact idx_lists_Ints hlt)) hK
    · obtain ⟨rfl, jw, hjw, rfl, hjR⟩ := hL.off (by first | decide | nofun)
      have hj := hjR 0 14 rfl (by decide +kernel)
      obtain rfl : jw = 0 := by omega
      exact l_val hd (x_load (op_is rfl ho) (by rw [hv 12 51 rfl (by kernel_rfl)]; exact Ints_ldi hyn hn)) hK
    · obtain ⟨rfl, rfl⟩ := hL.at_ (by first | decide | nofun) (j := 0) rfl
      exact l_call hd (op_is rfl ho) (by simp only [List.map_toArray, List.map_cons, List.map_nil, hv 6 45 rfl (by kernel_rfl), hv 13 52 rfl (by kernel_rfl)] <;> rfl) Tryz.func95 (by kernel_rfl) (by rfl) HC hK
    · obtain ⟨rfl, jw, hjw, rfl, hjR⟩ := hL.off (by first | decide | nofun)
      exact l_val hd ((x_not (op_is rfl ho) (hv 14 53 rfl (by kernel_rfl))).trans rfl) hK
  · intro a1 g1 g2 g3 g4
    exact hEnd a1 g1 g2 (fun s hs' => ev_same (g3 s (not_low hs' (by first | decide | nofun)))) (g4 15 54 rfl)
set_option maxRecDepth 100000 in
set_option maxHeartbeats 1600000 in
theorem holdInts_h6 {K : Act → World → Prop} {Q : Exit → Act → World → Prop} {a : Act} {w : World} {bb : Nat} {f : Nat → Value} {ps : List Ot} (hs : a.tmps.size = 55) (hd : a.defers = []) (x0 : a.eval (.tmp 0) = pv bb 0) (hB : BK w bb f) (hx : w.ownsRow 0 29 1 (f 6) ps.length (ps.map (·.o))) (hy : w.ownsRow 0 29 1 (f 7) ps.length (ps.map (·.c)))
    (hp : ∀ q ∈ ps, IRow w 3 1 q.o q.n q.zs ∧ IRow w 3 1 q.c q.n q.zs ∧ q.n ≤ 5000) (hl : ps.length ≤ 300000)
    (hEnd : ∀ a' w', a'.tmps.size = a.tmps.size → a'.defers = a.defers → a'.eval (.tmp 0) = pv bb 0 → Turned [] w w' → K a' w') :
    ((Code.region 6 (opsOf 6 Tryz.f42.body) false).seq (Code.block 2 (Code.loop (((Code.region 7 (opsOf 7 Tryz.f42.body) false).seq (Code.cond (.tmp 36) .skip (.exit 2))).seq ((Code.block 3 ((Code.region 9 (opsOf 9 Tryz.f42.body) true).seq (Code.cond (.tmp 54) ((Code.region 10 (opsOf 10 Tryz.f42.body) false).seq .ret) .skip))).seq (Code.region 8 (opsOf 8 Tryz.f42.body) false)))))).wp Tryz.prog (Exit.then K Q) a w := by
  refine wp_seq ?_
  refine holdInts_r6 hs hd ?_
  intro a1 s1 d1 k1 e1
  refine wp_block ?_
  refine wp_loop (fun a' w' => ∃ k : Nat, k ≤ ps.length ∧ a'.tmps.size = 55 ∧ a'.defers = [] ∧ a'.eval (.tmp 0) = pv bb 0 ∧ a'.eval (.tmp 4) = .int .i64 (k : Nat) ∧ Turned [] w w') (fun a' _ => ps.length - (intOf (a'.eval (.tmp 4))).toNat) ?_ ?_
  · exact ⟨0, Nat.zero_le _, s1.trans hs, d1.trans hd, (k1 0 (by omega) (by omega)).trans x0, e1, Turned.refl _ _⟩
  · rintro a2 w2 ⟨k, hk, hs2, hd2, x02, xk2, hT⟩
    have hx2 := Row.keep hx hT (by simp)
    have hy2 := Row.keep hy hT (by simp)
    have hB2 := hB.keep hT (by simp)
    obtain ⟨sa, sc, es⟩ := Row.shape hx2
    have q0 := hB2.cell (i := 6) (by omega)
    rw [es] at q0
    refine wp_seq ?_
    refine wp_seq ?_
    refine holdInts_r7 hs2 hd2 x02 xk2 q0 ?_
    intro a3 s3 d3 k3 e3
    by_cases hlt : k < ps.length
    · refine wp_cond_true (e3.trans (by simp; omega)) ?_
      refine wp_skip ?_
      obtain ⟨q, hq⟩ : ∃ q, ps[k]? = some q := ⟨ps[k], List.getElem?_eq_getElem hlt⟩
      obtain ⟨hkl, hqe⟩ := List.getElem?_eq_some_iff.1 hq
      obtain ⟨p1, p2, p3⟩ := hp q (by rw [← hqe]; exact List.getElem_mem hkl)
      have p1' := Row.keep p1 hT (by simp)
      have p2' := Row.keep p2 hT (by simp)
      obtain ⟨gA, cA, cuA, eA, -, -⟩ := Row.form hx2 (by omega)
      obtain ⟨gN, cN, cuN, eN, -, -⟩ := Row.form hy2 (by omega)
      have cellA : w2.cell? ⟨gA, k, none⟩ = some q.o := by
        have h1 := hx2
        rw [eA] at h1
        rw [World.ownsRow.cellAt h1 k (by omega)]
        simp [hq]
      have cellN : w2.cell? ⟨gN, k, none⟩ = some q.c := by
        have h1 := hy2
        rw [eN] at h1
        rw [World.ownsRow.cellAt h1 k (by omega)]
        simp [hq]
      have qA := hB2.cell (i := 6) (by omega)
      have qN := hB2.cell (i := 7) (by omega)
      rw [eA] at qA
      rw [eN] at qN
      obtain ⟨w3, hc, ht3⟩ := sameInts (w := w2.drew) (Row.keep p1' (Turned.refl [] w2).drew (by simp)) (Row.keep p2' (Turned.refl [] w2).drew (by simp)) p3
      have hT3 : Turned [] w w3 := hT.drew.trans ht3
      refine wp_seq ?_
      refine wp_block ?_
      refine wp_seq ?_
      refine holdInts_r9 (s3.trans hs2) ((k3 0 (by omega)).trans x02) ((k3 4 (by omega)).trans xk2) (by omega) qA qN cellA cellN (Row.slice p1') (Row.slice p2') hc ?_
      intro a4 s4 d4 k4 e4
      refine wp_cond_false (e4.trans rfl) ?_
      refine wp_skip ?_
      show (Code.region 8 (opsOf 8 Tryz.f42.body) false).wp _ _ _ _
      refine holdInts_r8 (k := k) (s4.trans (s3.trans hs2)) (d4.trans (d3.trans hd2)) ((k4 4 (by omega)).trans ((k3 4 (by omega)).trans xk2)) (by omega) ?_
      intro a5 s5 d5 k5 e5
      refine ⟨⟨k + 1, by omega, s5.trans (s4.trans (s3.trans hs2)), d5.trans (d4.trans (d3.trans hd2)), (k5 0 (by omega) (by omega)).trans ((k4 0 (by omega)).trans ((k3 0 (by omega)).trans x02)), e5, hT3⟩, ?_⟩
      rw [e5, xk2]
      simp [intOf]
      omega
    · refine wp_cond_false (e3.trans (by simp; omega)) ?_
      refine wp_exit ?_
      exact hEnd a3 w2 (s3.trans (hs2.trans hs.symm)) (d3.trans (hd2.trans hd.symm)) ((k3 0 (by omega)).trans x02) hT
set_option maxRecDepth 100000 in
set_option maxHeartbeats 1600000 in
theorem cHoldInts {w : World} {bb : Nat} {f : Nat → Value} {ps qs : List Ot} (hB : BK w bb f) (hx : w.ownsRow 0 29 1 (f 4) ps.length (ps.map (·.o))) (hy : w.ownsRow 0 29 1 (f 5) ps.length (ps.map (·.c)))
    (hp : ∀ q ∈ ps, IRow w 3 1 q.o q.n q.zs ∧ IRow w 3 1 q.c q.n q.zs ∧ q.n ≤ 5000) (hl : ps.length ≤ 300000)
    (hx2 : w.ownsRow 0 29 1 (f 6) qs.length (qs.map (·.o))) (hy2 : w.ownsRow 0 29 1 (f 7) qs.length (qs.map (·.c)))
    (hq : ∀ q ∈ qs, IRow w 3 1 q.o q.n q.zs ∧ IRow w 3 1 q.c q.n q.zs ∧ q.n ≤ 5000) (hl2 : qs.length ≤ 300000) :
    Calls Tryz.prog 42 #[.pointer (some ⟨bb, 0, none⟩)] w fun e w' => e = .returned (.bool true) ∧ Turned [] w w' := by
  go_enter Tryz.func42, Tryz.ntmps42
  generalize hact : (Act.mk _ _) = a0
  have s0 : a0.tmps.size = 55 := by rw [← hact]; rfl
  have d0 : a0.defers = [] := by rw [← hact]
  have y0 : a0.eval (.tmp 0) = pv bb 0 := by rw [← hact]; rfl
  clear hact
  refine wp_seq ?_
  refine (show (Code.region 0 (opsOf 0 Tryz.f42.body) false).wp Tryz.prog _ a0 w from ?_)
  refine holdInts_r0 s0 d0 ?_
  intro a1 s1 d1 k1 _
  refine wp_seq ?_
  refine holdInts_h1 (s1.trans s0) (d1.trans d0) ((k1 0 (by omega) (by omega)).trans y0) hB hx hy hp hl ?_
  intro a2 w2 s2 d2 x2 hT2
  refine wp_seq ?_
  refine holdInts_h6 (s2.trans (s1.trans s0)) (d2.trans (d1.trans d0)) x2 (hB.keep hT2 (by simp)) (Row.keep hx2 hT2 (by simp)) (Row.keep hy2 hT2 (by simp)) (fun q h => ⟨Row.keep (hq q h).1 hT2 (by simp), Row.keep (hq q h).2.1 hT2 (by simp), (hq q h).2.2⟩) hl2 ?_
  intro a3 w3 s3 d3 x3 hT3
  have HT : Hid (Turned [] w w3) := hT2.trans hT3
  obtain ⟨cc, rfl, hcc⟩ := expand55 (s3.trans (s2.trans (s1.trans s0))) (d3.trans (d2.trans (d1.trans d0)))
  clear hcc x3 s3 d3 hT2 hT3 hB hx hy hp hl hx2 hy2 hq hl2
  unfold lit55
  go_wp2
  go_ret
  exact ⟨rfl, HT.out⟩
end Go.Proofs.YtjbhnpofdafmbaaGreatDoor

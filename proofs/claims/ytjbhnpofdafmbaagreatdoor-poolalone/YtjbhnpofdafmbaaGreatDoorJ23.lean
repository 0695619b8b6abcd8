/- The book's hold (kind Slots): all lists hold what they must. -/
import Derived.Test.YtjbhnpofdafmbaaGreatDoorJ16
import Derived.Test.YtjbhnpofdafmbaaGreatDoorJ21
import Derived.Test.YtjbhnpofdafmbaaGreatDoorJ13
import Derived.Test.YtjbhnpofdafmbaaGreatDoorJ15
namespace Go.Proofs.YtjbhnpofdafmbaaGreatDoor
open Go.RowKit
theorem sameSlots {w : World} {va vb : Value} {n : Nat} {zs : List Int} (h1 : IRow w 64 7 va n zs) (h2 : IRow w 64 7 vb n zs) (hn : n ≤ 5000) : ∃ w1, Calls Tryz.prog 98 #[va, vb] w (fun e w'' => e = .returned (.bool true) ∧ w'' = w1) ∧ Turned [] w w1 :=
  ⟨sameW w zs n, cSameSlotsW h1 h2 (by omega), sameW_turned _ _ _⟩
set_option maxRecDepth 100000 in
set_option maxHeartbeats 1600000 in
theorem holdSlots_r0 {K : Act → World → Prop} {Q : Exit → Act → World → Prop} {a : Act} {w : World}  (hs : a.tmps.size = 55) (hd : a.defers = [])  
    (hEnd : ∀ a', a'.tmps.size = a.tmps.size → a'.defers = a.defers → (∀ s : Nat, s < 5 → s ≠ 2 → a'.eval (.tmp s) = a.eval (.tmp s)) → a'.eval (.tmp 2) = .bool false → K a' w) :
    (Code.region 0 (opsOf 0 Tryz.f45.body) false).wp Tryz.prog (Exit.then K Q) a w := by
  obtain ⟨cc, rfl, hcc⟩ := expand55 hs hd
  have HE : Hid _ := hEnd
  clear hEnd hcc hs hd 
  conv => arg 2; whnf
  unfold lit55 at *
  skip
  go_wp2
  show K _ _
  refine HE.out _ rfl rfl (fun s hs hc => ?_) (by first | (rfl) | simp [Act.eval, Array.getD])
  match s, hs, hc with
  | 0, _, _ => rfl
  | 1, _, _ => rfl
  | 2, _, h => exact absurd rfl h
  | 3, _, _ => rfl
  | 4, _, _ => rfl
  | n + 5, hs, _ => exact absurd hs (by simp)
set_option maxRecDepth 100000 in
set_option maxHeartbeats 1600000 in
theorem holdSlots_r1 {K : Act → World → Prop} {Q : Exit → Act → World → Prop} {a : Act} {w : World}  (hs : a.tmps.size = 55) (hd : a.defers = [])  
    (hEnd : ∀ a', a'.tmps.size = a.tmps.size → a'.defers = a.defers → (∀ s : Nat, s < 5 → s ≠ 3 → a'.eval (.tmp s) = a.eval (.tmp s)) → a'.eval (.tmp 3) = .int .i64 ((0 : Nat) : Int) → K a' w) :
    (Code.region 1 (opsOf 1 Tryz.f45.body) false).wp Tryz.prog (Exit.then K Q) a w := by
  obtain ⟨cc, rfl, hcc⟩ := expand55 hs hd
  have HE : Hid _ := hEnd
  clear hEnd hcc hs hd 
  conv => arg 2; whnf
  unfold lit55 at *
  skip
  go_wp2
  show K _ _
  refine HE.out _ rfl rfl (fun s hs hc => ?_) (by first | (rfl) | simp [Act.eval, Array.getD])
  match s, hs, hc with
  | 0, _, _ => rfl
  | 1, _, _ => rfl
  | 2, _, _ => rfl
  | 3, _, h => exact absurd rfl h
  | 4, _, _ => rfl
  | n + 5, hs, _ => exact absurd hs (by simp)
set_option maxRecDepth 100000 in
set_option maxHeartbeats 1600000 in
theorem holdSlots_r2 {K : Act → World → Prop} {Q : Exit → Act → World → Prop} {a : Act} {w : World} {bb k m c : Nat} {ra : Option Addr} (hs : a.tmps.size = 55) (hd : a.defers = []) (x0 : a.eval (.tmp 0) = .pointer (some ⟨bb, 0, none⟩)) (x3 : a.eval (.tmp 3) = .int .i64 (k : Nat)) (hc : w.cell? ⟨bb, 31, none⟩ = some (.slice ra m c))
    (hEnd : ∀ a', a'.tmps.size = a.tmps.size → a'.defers = a.defers → (∀ s : Nat, s < 5 → a'.eval (.tmp s) = a.eval (.tmp s)) → a'.eval (.tmp 11) = .bool (decide ((k : Int) < (m : Int))) → K a' w) :
    (Code.region 2 (opsOf 2 Tryz.f45.body) false).wp Tryz.prog (Exit.then K Q) a w := by
  obtain ⟨cc, rfl, hcc⟩ := expand55 hs hd
  have y0 : cc 0 = .pointer (some ⟨bb, 0, none⟩) := (hcc 0).trans x0
  have y3 : cc 3 = .int .i64 (k : Nat) := (hcc 3).trans x3
  have HE : Hid _ := hEnd
  clear hEnd hcc hs hd x0 x3
  conv => arg 2; whnf
  unfold lit55 at *
  simp only [y0, y3] at *
  go_wp2
  show K _ _
  refine HE.out _ rfl rfl (fun s hs => ?_) (by first | (rfl) | simp [Act.eval, Array.getD])
  match s, hs with
  | 0, _ => rfl
  | 1, _ => rfl
  | 2, _ => rfl
  | 3, _ => rfl
  | 4, _ => rfl
  | n + 5, hs => exact absurd hs (by simp)
set_option maxRecDepth 100000 in
set_option maxHeartbeats 1600000 in
theorem holdSlots_r3 {K : Act → World → Prop} {Q : Exit → Act → World → Prop} {a : Act} {w : World} {k : Nat} (hs : a.tmps.size = 55) (hd : a.defers = []) (x3 : a.eval (.tmp 3) = .int .i64 (k : Nat)) (hk : k ≤ 1000000)
    (hEnd : ∀ a', a'.tmps.size = a.tmps.size → a'.defers = a.defers → (∀ s : Nat, s < 5 → s ≠ 3 → a'.eval (.tmp s) = a.eval (.tmp s)) → a'.eval (.tmp 3) = .int .i64 ((k + 1 : Nat) : Int) → K a' w) :
    (Code.region 3 (opsOf 3 Tryz.f45.body) false).wp Tryz.prog (Exit.then K Q) a w := by
  obtain ⟨cc, rfl, hcc⟩ := expand55 hs hd
  have y3 : cc 3 = .int .i64 (k : Nat) := (hcc 3).trans x3
  have HE : Hid _ := hEnd
  clear hEnd hcc hs hd x3
  conv => arg 2; whnf
  unfold lit55 at *
  simp only [y3] at *
  go_wp2
  show K _ _
  refine HE.out _ rfl rfl (fun s hs hc => ?_) (by first | (show Value.int .i64 ((k : Int) + 1) = .int .i64 ((k + 1 : Nat) : Int); simp) | simp [Act.eval, Array.getD])
  match s, hs, hc with
  | 0, _, _ => rfl
  | 1, _, _ => rfl
  | 2, _, _ => rfl
  | 3, _, h => exact absurd rfl h
  | 4, _, _ => rfl
  | n + 5, hs, _ => exact absurd hs (by simp)
set_option maxRecDepth 100000 in
set_option maxHeartbeats 1600000 in
theorem holdSlots_r4 {K : Act → World → Prop} {Q : Exit → Act → World → Prop} {a : Act} {w : World} {w1 : World} {bb : Nat} {l nt : Value} {k m g rc g2 rc2 : Nat} (hs : a.tmps.size = 55) (x0 : a.eval (.tmp 0) = pv bb 0) (xk : a.eval (.tmp 3) = vi (k : Nat)) (hlt : (k : Int) < (m : Int)) (hA : w.cell? ⟨bb, 31, none⟩ = some (Value.slice (some ⟨g, 0, none⟩) m rc)) (hB : w.cell? ⟨bb, 32, none⟩ = some (Value.slice (some ⟨g2, 0, none⟩) m rc2)) (hl : w.cell? ⟨g, k, none⟩ = some l) (hn : w.cell? ⟨g2, k, none⟩ = some nt) (hyl : ∃ sa sn sc, l = .slice sa sn sc) (hyn : ∃ sa sn sc, nt = .slice sa sn sc) (HC : Calls Tryz.prog 98 #[l, nt] w.drew fun e w'' => e = .returned (.bool true) ∧ w'' = w1)
    (hEnd : ∀ a', a'.tmps.size = a.tmps.size → a'.defers = a.defers → (∀ s : Nat, s < 5 → a'.eval (.tmp s) = a.eval (.tmp s)) → a'.eval (.tmp 29) = .bool false → K a' w1) :
    (Code.region 4 (opsOf 4 Tryz.f45.body) true).wp Tryz.prog (Exit.then K Q) a w := by
  refine wp_region_chain (by kernel_rfl) [some 14, some 15, some 16, some 17, some 18, some 19, some 20, some 21, some 22, some 23, some 24, some 25, some 26, some 27, some 28, some 29] (fun kk => match kk with
      | 0 => pv bb 0
      | 1 => pv bb 0
      | 2 => pv bb 31
      | 3 => Value.slice (some ⟨g, 0, none⟩) m rc
      | 4 => vi (k : Nat)
      | 5 => pv g k
      | 6 => l
      | 7 => pv bb 0
      | 8 => pv bb 0
      | 9 => pv bb 32
      | 10 => Value.slice (some ⟨g2, 0, none⟩) m rc2
      | 11 => vi (k : Nat)
      | 12 => pv g2 k
      | 13 => nt
      | 14 => Value.bool true
      | 15 => Value.bool false
      | _ => undef) (by rw [hs]; kernel_rfl) [14] (fun jj => match jj with
      | 0 => w.drew
      | _ => w1) rfl (by first | decide | nofun) (by decide +kernel) ?_ ?_ ?_
  · intro kk gg bq h
    exact (no_guard (by kernel_rfl) h).elim
  · intro kk hk _ o ac wa wb K ho hd _ hoff hv hL hK
    rcases (by simp at hk; omega : kk = 0 ∨ kk = 1 ∨ kk = 2 ∨ kk = 3 ∨ kk = 4 ∨ kk = 5 ∨ kk = 6 ∨ kk = 7 ∨ kk = 8 ∨ kk = 9 ∨ kk = 10 ∨ kk = 11 ∨ kk = 12 ∨ kk = 13 ∨ kk = 14 ∨ kk = 15) with rfl | rfl | rfl | rfl | rfl | rfl | rfl | rfl | rfl | rfl | rfl | rfl | rfl | rfl | rfl | rfl
    · obtain ⟨rfl, jw, hjw, rfl, hjR⟩ := hL.off (by first | decide | nofun)
      exact l_val hd ((x_move (op_is rfl ho)).trans (by rw [(hoff 0 (by first | decide | nofun)).trans x0]; rfl)) hK
    · obtain ⟨rfl, jw, hjw, rfl, hjR⟩ := hL.off (by first | decide | nofun)
      exact l_val hd (x_nil (op_is rfl ho) (hv 0 14 rfl (by kernel_rfl))) hK
    · obtain ⟨rfl, jw, hjw, rfl, hjR⟩ := hL.off (by first | decide | nofun)
      exact l_val hd (x_field (op_is rfl ho) (by rw [hv 1 15 rfl (by kernel_rfl)]; unfold pv; go_simp)) hK
    · obtain ⟨rfl, jw, hjw, rfl, hjR⟩ := hL.off (by first | decide | nofun)
      have hj := hjR 0 14 rfl (by decide +kernel)
      obtain rfl : jw = 0 := by omega
      exact l_val hd (x_load (op_is rfl ho) (by rw [hv 2 16 rfl (by kernel_rfl)]; exact Slots_ld hA)) hK
    · obtain ⟨rfl, jw, hjw, rfl, hjR⟩ := hL.off (by first | decide | nofun)
      exact l_val hd ((x_move (op_is rfl ho)).trans (by rw [(hoff 3 (by first | decide | nofun)).trans xk]; rfl)) hK
    · obtain ⟨rfl, jw, hjw, rfl, hjR⟩ := hL.off (by first | decide | nofun)
      exact l_val hd (x_index (op_is rfl ho) (by rw [hv 3 17 rfl (by kernel_rfl), hv 4 18 rfl (by kernel_rfl)]; exact idx_lists_Slots hlt)) hK
    · obtain ⟨rfl, jw, hjw, rfl, hjR⟩ := hL.off (by first | decide | nofun)
      have hj := hjR 0 14 rfl (by decide +kernel)
      obtain rfl : jw = 0 := by omega
      exact l_val hd (x_load (op_is rfl ho) (by rw [hv 5 19 rfl (by kernel_rfl)]; exact Slots_ldi hyl hl)) hK
    · obtain ⟨rfl, jw, hjw, rfl, hjR⟩ := hL.off (by first | decide | nofun)
      exact l_val hd ((x_move (op_is rfl ho)).trans (by rw [(hoff 0 (by first | decide | nofun)).trans x0]; rfl)) hK
    · obtain ⟨rfl, jw, hjw, rfl, hjR⟩ := hL.off (by first | decide | nofun)
      exact l_val hd (x_nil (op_is rfl ho) (hv 7 21 rfl (by kernel_rfl))) hK
    · obtain ⟨rfl, jw, hjw, rfl, hjR⟩ := hL.off (by first | decide | nofun)
      exact l_val hd (x_field (op_is rfl ho) (by rw [hv 8 22 rfl (by kernel_rfl)]; unfold pv; go_simp)) hK
    · obtain ⟨rfl, jw, hjw, rfl, hjR⟩ := hL.off (by first | decide | nofun)
      have hj := hjR 0 14 rfl (by decide +kernel)
      obtain rfl : jw = 0 := by omega
      exact l_val hd (x_load (op_is rfl ho) (by rw [hv 9 23 rfl (by kernel_rfl)]; exact Slots_ld hB)) hK
    · obtain ⟨rfl, jw, hjw, rfl, hjR⟩ := hL.off (by first | decide | nofun)
      exact l_val hd ((x_move (op_is rfl ho)).trans (by rw [(hoff 3 (by first | decide | nofun)).trans xk]; rfl)) hK
    · obtain ⟨rfl, jw, hjw, rfl, hjR⟩ := hL.off (by first | decide | nofun)
      exact l_val hd (x_index (op_is rfl ho) (by rw [hv 10 24 rfl (by kernel_rfl), hv 11 25 rfl (by kernel_rfl)]; exact idx_lists_Slots hlt)) hK
    · obtain ⟨rfl, jw, hjw, rfl, hjR⟩ := hL.off (by first | decide | nofun)
      have hj := hjR 0 14 rfl (by decide +kernel)
      obtain rfl : jw = 0 := by omega
      exact l_val hd (x_load (op_is rfl ho) (by rw [hv 12 26 rfl (by kernel_rfl)]; exact Slots_ldi hyn hn)) hK
    · obtain ⟨rfl, rfl⟩ := hL.at_ (by first | decide | nofun) (j := 0) rfl
      exact l_call hd (op_is rfl ho) (by simp only [List.map_toArray, List.map_cons, List.map_nil, hv 6 20 rfl (by kernel_rfl), hv 13 27 rfl (by kernel_rfl)] <;> rfl) Tryz.func98 (by kernel_rfl) (by rfl) HC hK
    · obtain ⟨rfl, jw, hjw, rfl, hjR⟩ := hL.off (by first | decide | nofun)
      exact l_val hd ((x_not (op_is rfl ho) (hv 14 28 rfl (by kernel_rfl))).trans rfl) hK
  · intro a1 g1 g2 g3 g4
    exact hEnd a1 g1 g2 (fun s hs' => ev_same (g3 s (not_low hs' (by first | decide | nofun)))) (g4 15 29 rfl)
set_option maxRecDepth 100000 in
set_option maxHeartbeats 1600000 in
theorem holdSlots_h1 {K : Act → World → Prop} {Q : Exit → Act → World → Prop} {a : Act} {w : World} {bb : Nat} {f : Nat → Value} {ps : List Ot} (hs : a.tmps.size = 55) (hd : a.defers = []) (x0 : a.eval (.tmp 0) = pv bb 0) (hB : BK w bb f) (hx : w.ownsRow 0 58 1 (f 31) ps.length (ps.map (·.o))) (hy : w.ownsRow 0 58 1 (f 32) ps.length (ps.map (·.c)))
    (hp : ∀ q ∈ ps, IRow w 64 7 q.o q.n q.zs ∧ IRow w 64 7 q.c q.n q.zs ∧ q.n ≤ 5000) (hl : ps.length ≤ 300000)
    (hEnd : ∀ a' w', a'.tmps.size = a.tmps.size → a'.defers = a.defers → a'.eval (.tmp 0) = pv bb 0 → Turned [] w w' → K a' w') :
    ((Code.region 1 (opsOf 1 Tryz.f45.body) false).seq (Code.block 0 (Code.loop (((Code.region 2 (opsOf 2 Tryz.f45.body) false).seq (Code.cond (.tmp 11) .skip (.exit 0))).seq ((Code.block 1 ((Code.region 4 (opsOf 4 Tryz.f45.body) true).seq (Code.cond (.tmp 29) ((Code.region 5 (opsOf 5 Tryz.f45.body) false).seq .ret) .skip))).seq (Code.region 3 (opsOf 3 Tryz.f45.body) false)))))).wp Tryz.prog (Exit.then K Q) a w := by
  refine wp_seq ?_
  refine holdSlots_r1 hs hd ?_
  intro a1 s1 d1 k1 e1
  refine wp_block ?_
  refine wp_loop (fun a' w' => ∃ k : Nat, k ≤ ps.length ∧ a'.tmps.size = 55 ∧ a'.defers = [] ∧ a'.eval (.tmp 0) = pv bb 0 ∧ a'.eval (.tmp 3) = .int .i64 (k : Nat) ∧ Turned [] w w') (fun a' _ => ps.length - (intOf (a'.eval (.tmp 3))).toNat) ?_ ?_
  · exact ⟨0, Nat.zero_le _, s1.trans hs, d1.trans hd, (k1 0 (by omega) (by omega)).trans x0, e1, Turned.refl _ _⟩
  · rintro a2 w2 ⟨k, hk, hs2, hd2, x02, xk2, hT⟩
    have hx2 := Row.keep hx hT (by simp)
    have hy2 := Row.keep hy hT (by simp)
    have hB2 := hB.keep hT (by simp)
    obtain ⟨sa, sc, es⟩ := Row.shape hx2
    have q0 := hB2.cell (i := 31) (by omega)
    rw [es] at q0
    refine wp_seq ?_
    refine wp_seq ?_
    refine holdSlots_r2 hs2 hd2 x02 xk2 q0 ?_
    intro a3 s3 d3 k3 e3
    by_cases hlt : k < ps.length
    · refine wp_cond_true (e3.trans (by simp; omega)) ?_
      refine wp_skip ?_
      obtain ⟨q, hq⟩ : ∃ q, ps[k]? = some q := ⟨ps[k], List.getElem?_eq_getElem hlt⟩
      obtain ⟨hkl, hqe⟩ := List.getElem?_eq_some_iff.1 hq
      obtain ⟨p1, p2, p3⟩ := hp q (by rw [← hqe]; exact List.getElem_mem hkl)
      have p1' := Row.keep p1 hT (by simp)
      have p2' := Row.keep p2 hT (by simp)
      obtain ⟨gA, cA, cuA, eA, -, -⟩ := Row.form hx2 (by omega)
      obtain ⟨gN, cN, cuN, eN, -, -⟩ := Row.form hy2 (by omega)
      have cellA : w2.cell? ⟨gA, k, none⟩ = some q.o := by
        have h1 := hx2
        rw [eA] at h1
        rw [World.ownsRow.cellAt h1 k (by omega)]
        simp [hq]
      have cellN : w2.cell? ⟨gN, k, none⟩ = some q.c := by
        have h1 := hy2
        rw [eN] at h1
        rw [World.ownsRow.cellAt h1 k (by omega)]
        simp [hq]
      have qA := hB2.cell (i := 31) (by omega)
      have qN := hB2.cell (i := 32) (by omega)
      rw [eA] at qA
      rw [eN] at qN
      obtain ⟨w3, hc, ht3⟩ := sameSlots (w := w2.drew) (Row.keep p1' (Turned.refl [] w2).drew (by simp)) (Row.keep p2' (Turned.refl [] w2).drew (by simp)) p3
      have hT3 : Turned [] w w3 := hT.drew.trans ht3
      refine wp_seq ?_
      refine wp_block ?_
      refine wp_seq ?_
      refine holdSlots_r4 (s3.trans hs2) ((k3 0 (by omega)).trans x02) ((k3 3 (by omega)).trans xk2) (by omega) qA qN cellA cellN (Row.slice p1') (Row.slice p2') hc ?_
      intro a4 s4 d4 k4 e4
      refine wp_cond_false (e4.trans rfl) ?_
      refine wp_skip ?_
      show (Code.region 3 (opsOf 3 Tryz.f45.body) false).wp _ _ _ _
      refine holdSlots_r3 (k := k) (s4.trans (s3.trans hs2)) (d4.trans (d3.trans hd2)) ((k4 3 (by omega)).trans ((k3 3 (by omega)).trans xk2)) (by omega) ?_
      intro a5 s5 d5 k5 e5
      refine ⟨⟨k + 1, by omega, s5.trans (s4.trans (s3.trans hs2)), d5.trans (d4.trans (d3.trans hd2)), (k5 0 (by omega) (by omega)).trans ((k4 0 (by omega)).trans ((k3 0 (by omega)).trans x02)), e5, hT3⟩, ?_⟩
      rw [e5, xk2]
      simp [intOf]
      omega
    · refine wp_cond_false (e3.trans (by simp; omega)) ?_
      refine wp_exit ?_
      exact hEnd a3 w2 (s3.trans (hs2.trans hs.symm)) (d3.trans (hd2.trans hd.symm)) ((k3 0 (by omega)).trans x02) hT
set_option maxRecDepth 100000 in
set_option maxHeartbeats 1600000 in
theorem holdSlots_r6 {K : Act → World → Prop} {Q : Exit → Act → World → Prop} {a : Act} {w : World}  (hs : a.tmps.size = 55) (hd : a.defers = [])  
    (hEnd : ∀ a', a'.tmps.size = a.tmps.size → a'.defers = a.defers → (∀ s : Nat, s < 5 → s ≠ 4 → a'.eval (.tmp s) = a.eval (.tmp s)) → a'.eval (.tmp 4) = .int .i64 ((0 : Nat) : Int) → K a' w) :
    (Code.region 6 (opsOf 6 Tryz.f45.body) false).wp Tryz.prog (Exit.then K Q) a w := by
  obtain ⟨cc, rfl, hcc⟩ := expand55 hs hd
  have HE : Hid _ := hEnd
  clear hEnd hcc hs hd 
  conv => arg 2; whnf
  unfold lit55 at *
  skip
  go_wp2
  show K _ _
  refine HE.out _ rfl rfl (fun s hs hc => ?_) (by first | (rfl) | simp [Act.eval, Array.getD])
  match s, hs, hc with
  | 0, _, _ => rfl
  | 1, _, _ => rfl
  | 2, _, _ => rfl
  | 3, _, _ => rfl
  | 4, _, h => exact absurd rfl h
  | n + 5, hs, _ => exact absurd hs (by simp)
set_option maxRecDepth 100000 in
set_option maxHeartbeats 1600000 in
theorem holdSlots_r7 {K : Act → World → Prop} {Q : Exit → Act → World → Prop} {a : Act} {w : World} {bb k m c : Nat} {ra : Option Addr} (hs : a.tmps.size = 55) (hd : a.defers = []) (x0 : a.eval (.tmp 0) = .pointer (some ⟨bb, 0, none⟩)) (x4 : a.eval (.tmp 4) = .int .i64 (k : Nat)) (hc : w.cell? ⟨bb, 33, none⟩ = some (.slice ra m c))
    (hEnd : ∀ a', a'.tmps.size = a.tmps.size → a'.defers = a.defers → (∀ s : Nat, s < 5 → a'.eval (.tmp s) = a.eval (.tmp s)) → a'.eval (.tmp 36) = .bool (decide ((k : Int) < (m : Int))) → K a' w) :
    (Code.region 7 (opsOf 7 Tryz.f45.body) false).wp Tryz.prog (Exit.then K Q) a w := by
  obtain ⟨cc, rfl, hcc⟩ := expand55 hs hd
  have y0 : cc 0 = .pointer (some ⟨bb, 0, none⟩) := (hcc 0).trans x0
  have y4 : cc 4 = .int .i64 (k : Nat) := (hcc 4).trans x4
  have HE : Hid _ := hEnd
  clear hEnd hcc hs hd x0 x4
  conv => arg 2; whnf
  unfold lit55 at *
  simp only [y0, y4] at *
  go_wp2
  show K _ _
  refine HE.out _ rfl rfl (fun s hs => ?_) (by first | (rfl) | simp [Act.eval, Array.getD])
  match s, hs with
  | 0, _ => rfl
  | 1, _ => rfl
  | 2, _ => rfl
  | 3, _ => rfl
  | 4, _ => rfl
  | n + 5, hs => exact absurd hs (by simp)
set_option maxRecDepth 100000 in
set_option maxHeartbeats 1600000 in
theorem holdSlots_r8 {K : Act → World → Prop} {Q : Exit → Act → World → Prop} {a : Act} {w : World} {k : Nat} (hs : a.tmps.size = 55) (hd : a.defers = []) (x4 : a.eval (.tmp 4) = .int .i64 (k : Nat)) (hk : k ≤ 1000000)
    (hEnd : ∀ a', a'.tmps.size = a.tmps.size → a'.defers = a.defers → (∀ s : Nat, s < 5 → s ≠ 4 → a'.eval (.tmp s) = a.eval (.tmp s)) → a'.eval (.tmp 4) = .int .i64 ((k + 1 : Nat) : Int) → K a' w) :
    (Code.region 8 (opsOf 8 Tryz.f45.body) false).wp Tryz.prog (Exit.then K Q) a w := by
  obtain ⟨cc, rfl, hcc⟩ := expand55 hs hd
  have y4 : cc 4 = .int .i64 (k : Nat) := (hcc 4).trans x4
  have HE : Hid _ := hEnd
  clear hEnd hcc hs hd x4
  conv => arg 2; whnf
  unfold lit55 at *
  simp only [y4] at *
  go_wp2
  show K _ _
  refine HE.out _ rfl rfl (fun s hs hc => ?_) (by first | (show Value.int .i64 ((k : Int) + 1) = .int .i64 ((k + 1 : Nat) : Int); simp) | simp [Act.eval, Array.getD])
  match s, hs, hc with
  | 0, _, _ => rfl
  | 1, _, _ => rfl
  | 2, _, _ => rfl
  | 3, _, _ => rfl
  | 4, _, h => exact absurd rfl h
  | n + 5, hs, _ => exact absurd hs (by simp)
set_option maxRecDepth 100000 in
set_option maxHeartbeats 1600000 in
theorem holdSlots_r9 {K : Act → World → Prop} {Q : Exit → Act → World → Prop} {a : Act} {w : World} {w1 : World} {bb : Nat} {l nt : Value} {k m g rc g2 rc2 : Nat} (hs : a.tmps.size = 55) (x0 : a.eval (.tmp 0) = pv bb 0) (xk : a.eval (.tmp 4) = vi (k : Nat)) (hlt : (k : Int) < (m : Int)) (hA : w.cell? ⟨bb, 33, none⟩ = some (Value.slice (some ⟨g, 0, none⟩) m rc)) (hB : w.cell? ⟨bb, 34, none⟩ = some (Value.slice (some ⟨g2, 0, none⟩) m rc2)) (hl : w.cell? ⟨g, k, none⟩ = some l) (hn : w.cell? ⟨g2, k, none⟩ = some nt) (hyl : ∃ sa sn sc, l = .slice sa sn sc) (hyn : ∃ sa sn sc, nt = .slice sa sn sc) (HC : Calls Tryz.prog 98 #[l, nt] w.drew fun e w'' => e = .returned (.bool true) ∧ w'' = w1)
    (hEnd : ∀ a', a'.tmps.size = a.tmps.size → a'.defers = a.defers → (∀ s : Nat, s < 5 → a'.eval (.tmp s) = a.eval (.tmp s)) → a'.eval (.tmp 54) = .bool false → K a' w1) :
    (Code.region 9 (opsOf 9 Tryz.f45.body) true).wp Tryz.prog (Exit.then K Q) a w := by
  refine wp_region_chain (by kernel_rfl) [some 39, some 40, some 41, some 42, some 43, some 44, some 45, some 46, some 47, some 48, some 49, some 50, some 51, some 52, some 53, some 54] (fun kk => match kk with
      | 0 => pv bb 0
      | 1 => pv bb 0
      | 2 => pv bb 33
      | 3 => Value.slice (some ⟨g, 0, none⟩) m rc
      | 4 => vi (k : Nat)
      | 5 => pv g k
      | 6 => l
      | 7 => pv bb 0
      | 8 => pv bb 0
      | 9 => pv bb 34
      | 10 => Value.slice (some ⟨g2, 0, none⟩) m rc2
      | 11 => vi (k : Nat)
      | 12 => pv g2 k
      | 13 => nt
      | 14 => Value.bool true
      | 15 => Value.bool false
      | _ => undef) (by rw [hs]; kernel_rfl) [14] (fun jj => match jj with
      | 0 => w.drew
      | _ => w1) rfl (by first | decide | nofun) (by decide +kernel) ?_ ?_ ?_
  · intro kk gg bq h
    exact (no_guard (by kernel_rfl) h).elim
  · intro kk hk _ o ac wa wb K ho hd _ hoff hv hL hK
    rcases (by simp at hk; omega : kk = 0 ∨ kk = 1 ∨ kk = 2 ∨ kk = 3 ∨ kk = 4 ∨ kk = 5 ∨ kk = 6 ∨ kk = 7 ∨ kk = 8 ∨ kk = 9 ∨ kk = 10 ∨ kk = 11 ∨ kk = 12 ∨ kk = 13 ∨ kk = 14 ∨ kk = 15) with rfl | rfl | rfl | rfl | rfl | rfl | rfl | rfl | rfl | rfl | rfl | rfl | rfl | rfl | rfl | rfl
    · obtain ⟨rfl, jw, hjw, rfl, hjR⟩ := hL.off (by first | decide | nofun)
      exact l_val hd ((x_move (op_is rfl ho)).trans (by rw [(hoff 0 (by first | decide | nofun)).trans x0]; rfl)) hK
    · obtain ⟨rfl, jw, hjw, rfl, hjR⟩ := hL.off (by first | decide | nofun)
      exact l_val hd (x_nil (op_is rfl ho) (hv 0 39 rfl (by kernel_rfl))) hK
    · obtain ⟨rfl, jw, hjw, rfl, hjR⟩ := hL.off (by first | decide | nofun)
      exact l_val hd (x_field (op_is rfl ho) (by rw [hv 1 40 rfl (by kernel_rfl)]; unfold pv; go_simp)) hK
    · obtain ⟨rfl, jw, hjw, rfl, hjR⟩ := hL.off (by first | decide | nofun)
      have hj := hjR 0 14 rfl (by decide +kernel)
      obtain rfl : jw = 0 := by omega
      exact l_val hd (x_load (op_is rfl ho) (by rw [hv 2 41 rfl (by kernel_rfl)]; exact Slots_ld hA)) hK
    · obtain ⟨rfl, jw, hjw, rfl, hjR⟩ := hL.off (by first | decide | nofun)
      exact l_val hd ((x_move (op_is rfl ho)).trans (by rw [(hoff 4 (by first | decide | nofun)).trans xk]; rfl)) hK
    · obtain ⟨rfl, jw, hjw, rfl, hjR⟩ := hL.off (by first | decide | nofun)
      exact l_val hd (x_index (op_is rfl ho) (by rw [hv 3 42 rfl (by kernel_rfl), hv 4 43 rfl (by kernel_rfl)]; exact idx_lists_Slots hlt)) hK
    · obtain ⟨rfl, jw, hjw, rfl, hjR⟩ := hL.off (by first | decide | nofun)
      have hj := hjR 0 14 rfl (by decide +kernel)
      obtain rfl : jw = 0 := by omega
      exact l_val hd (x_load (op_is rfl ho) (by rw [hv 5 44 rfl (by kernel_rfl)]; exact Slots_ldi hyl hl)) hK
    · obtain ⟨rfl, jw, hjw, rfl, hjR⟩ := hL.off (by first | decide | nofun)
      exact l_val hd ((x_move (op_is rfl ho)).trans (by rw [(hoff 0 (by first | decide | nofun)).trans x0]; rfl)) hK
    · obtain ⟨rfl, jw, hjw, rfl, hjR⟩ := hL.off (by first | decide | nofun)
      exact l_val hd (x_nil (op_is rfl ho) (hv 7 46 rfl (by kernel_rfl))) hK
    · obtain ⟨rfl, jw, hjw, rfl, hjR⟩ := hL.off (by first | decide | nofun)
      exact l_val hd (x_field (op_is rfl ho) (by rw [hv 8 47 rfl (by kernel_rfl)]; unfold pv; go_simp)) hK
    · obtain ⟨rfl, jw, hjw, rfl, hjR⟩ := hL.off (by first | decide | nofun)
      have hj := hjR 0 14 rfl (by decide +kernel)
      obtain rfl : jw = 0 := by omega
      exact l_val hd (x_load (op_is rfl ho) (by rw [hv 9 48 rfl (by kernel_rfl)]; exact Slots_ld hB)) hK
    · obtain ⟨rfl, jw, hjw, rfl, hjR⟩ := hL.off (by first | decide | nofun)
      exact l_val hd ((x_move (op_is rfl ho)).trans (by rw [(hoff 4 (by first | decide | nofun)).trans xk]; rfl)) hK
    · obtain ⟨rfl, jw, hjw, rfl, hjR⟩ := hL.off (by first | decide | nofun)
      exact l_val hd (x_index (op_is rfl ho) (by rw [hv 10 49 rfl (by kernel_rfl), hv 11 50 rfl (by kernel_rfl)]; exact idx_lists_Slots hlt)) hK
    · obtain ⟨rfl, jw, hjw, rfl, hjR⟩ := hL.off (by first | decide | nofun)
      have hj := hjR 0 14 rfl (by decide +kernel)
      obtain rfl : jw = 0 := by omega
      exact l_val hd (x_load (op_is rfl ho) (by rw [hv 12 51 rfl (by kernel_rfl)]; exact Slots_ldi hyn hn)) hK
    · obtain ⟨rfl, rfl⟩ := hL.at_ (by first | decide | nofun) (j := 0) rfl
      exact l_call hd (op_is rfl ho) (by simp only [List.map_toArray, List.map_cons, List.map_nil, hv 6 45 rfl (by kernel_rfl), hv 13 52 rfl (by kernel_rfl)] <;> rfl) Tryz.func98 (by kernel_rfl) (by rfl) HC hK
    · obtain ⟨rfl, jw, hjw, rfl, hjR⟩ := hL.off (by first | decide | nofun)
      exact l_val hd ((x_not (op_is rfl ho) (hv 14 53 rfl (by kernel_rfl))).trans rfl) hK
  · intro a1 g1 g2 g3 g4
    exact hEnd a1 g1 g2 (fun s hs' => ev_same (g3 s (not_low hs' (by first | decide | nofun)))) (g4 15 54 rfl)
set_option maxRecDepth 100000 in
set_option maxHeartbeats 1600000 in
theorem holdSlots_h6 {K : Act → World → Prop} {Q : Exit → Act → World → Prop} {a : Act} {w : World} {bb : Nat} {f : Nat → Value} {ps : List Ot} (hs : a.tmps.size = 55) (hd : a.defers = []) (x0 : a.eval (.tmp 0) = pv bb 0) (hB : BK w bb f) (hx : w.ownsRow 0 58 1 (f 33) ps.length (ps.map (·.o))) (hy : w.ownsRow 0 58 1 (f 34) ps.length (ps.map (·.c)))
    (hp : ∀ q ∈ ps, IRow w 64 7 q.o q.n q.zs ∧ IRow w 64 7 q.c q.n q.zs ∧ q.n ≤ 5000) (hl : ps.length ≤ 300000)
    (hEnd : ∀ a' w', a'.tmps.size = a.tmps.size → a'.defers = a.defers → a'.eval (.tmp 0) = pv bb 0 → Turned [] w w' → K a' w') :
    ((Code.region 6 (opsOf 6 Tryz.f45.body) false).seq (Code.block 2 (Code.loop (((Code.region 7 (opsOf 7 Tryz.f45.body) false).seq (Code.cond (.tmp 36) .skip (.exit 2))).seq ((Code.block 3 ((Code.region 9 (opsOf 9 Tryz.f45.body) true).seq (Code.cond (.tmp 54) ((Code.region 10 (opsOf 10 Tryz.f45.body) false).seq .ret) .skip))).seq (Code.region 8 (opsOf 8 Tryz.f45.body) false)))))).wp Tryz.prog (Exit.then K Q) a w := by
  refine wp_seq ?_
  refine holdSlots_r6 hs hd ?_
  intro a1 s1 d1 k1 e1
  refine wp_block ?_
  refine wp_loop (fun a' w' => ∃ k : Nat, k ≤ ps.length ∧ a'.tmps.size = 55 ∧ a'.defers = [] ∧ a'.eval (.tmp 0) = pv bb 0 ∧ a'.eval (.tmp 4) = .int .i64 (k : Nat) ∧ Turned [] w w') (fun a' _ => ps.length - (intOf (a'.eval (.tmp 4))).toNat) ?_ ?_
  · exact ⟨0, Nat.zero_le _, s1.trans hs, d1.trans hd, (k1 0 (by omega) (by omega)).trans x0, e1, Turned.refl _ _⟩
  · rintro a2 w2 ⟨k, hk, hs2, hd2, x02, xk2, hT⟩
    have hx2 := Row.keep hx hT (by simp)
    have hy2 := Row.keep hy hT (by simp)
    have hB2 := hB.keep hT (by simp)
    obtain ⟨sa, sc, es⟩ := Row.shape hx2
    have q0 := hB2.cell (i := 33) (by omega)
    rw [es] at q0
    refine wp_seq ?_
    refine wp_seq ?_
    refine holdSlots_r7 hs2 hd2 x02 xk2 q0 ?_
    intro a3 s3 d3 k3 e3
    by_cases hlt : k < ps.length
    · refine wp_cond_true (e3.trans (by simp; omega)) ?_
      refine wp_skip ?_
      obtain ⟨q, hq⟩ : ∃ q, ps[k]? = some q := ⟨ps[k], List.getElem?_eq_getElem hlt⟩
      obtain ⟨hkl, hqe⟩ := List.getElem?_eq_some_iff.1 hq
      obtain ⟨p1, p2, p3⟩ := hp q (by rw [← hqe]; exact List.getElem_mem hkl)
      have p1' := Row.keep p1 hT (by simp)
      have p2' := Row.keep p2 hT (by simp)
      obtain ⟨gA, cA, cuA, eA, -, -⟩ := Row.form hx2 (by omega)
      obtain ⟨gN, cN, cuN, eN, -, -⟩ := Row.form hy2 (by omega)
      have cellA : w2.cell? ⟨gA, k, none⟩ = some q.o := by
        have h1 := hx2
        rw [eA] at h1
        rw [World.ownsRow.cellAt h1 k (by omega)]
        simp [hq]
      have cellN : w2.cell? ⟨gN, k, none⟩ = some q.c := by
        have h1 := hy2
        rw [eN] at h1
        rw [World.ownsRow.cellAt h1 k (by omega)]
        simp [hq]
      have qA := hB2.cell (i := 33) (by omega)
      have qN := hB2.cell (i := 34) (by omega)
      rw [eA] at qA
      rw [eN] at qN
      obtain ⟨w3, hc, ht3⟩ := sameSlots (w := w2.drew) (Row.keep p1' (Turned.refl [] w2).drew (by simp)) (Row.keep p2' (Turned.refl [] w2).drew (by simp)) p3
      have hT3 : Turned [] w w3 := hT.drew.trans ht3
      refine wp_seq ?_
      refine wp_block ?_
      refine wp_seq ?_
      refine holdSlots_r9 (s3.trans hs2) ((k3 0 (by omega)).trans x02) ((k3 4 (by omega)).trans xk2) (by omega) qA qN cellA cellN (Row.slice p1') (Row.slice p2') hc ?_
      intro a4 s4 d4 k4 e4
      refine wp_cond_false (e4.trans rfl) ?_
      refine wp_skip ?_
      show (Code.region 8 (opsOf 8 Tryz.f45.body) false).wp _ _ _ _
      refine holdSlots_r8 (k := k) (s4.trans (s3.trans hs2)) (d4.trans (d3.trans hd2)) ((k4 4 (by omega)).trans ((k3 4 (by omega)).trans xk2)) (by omega) ?_
      intro a5 s5 d5 k5 e5
      refine ⟨⟨k + 1, by omega, s5.trans (s4.trans (s3.trans hs2)), d5.trans (d4.trans (d3.trans hd2)), (k5 0 (by omega) (by omega)).trans ((k4 0 (by omega)).trans ((k3 0 (by omega)).trans x02)), e5, hT3⟩, ?_⟩
      rw [e5, xk2]
      simp [intOf]
      omega
    · refine wp_cond_false (e3.trans (by simp; omega)) ?_
      refine wp_exit ?_
      exact hEnd a3 w2 (s3.trans (hs2.trans hs.symm)) (d3.trans (hd2.trans hd.symm)) ((k3 0 (by omega)).trans x02) hT
set_option maxRecDepth 100000 in
set_option maxHeartbeats 1600000 in
theorem cHoldSlots {w : World} {bb : Nat} {f : Nat → Value} {ps qs : List Ot} (hB : BK w bb f) (hx : w.ownsRow 0 58 1 (f 31) ps.length (ps.map (·.o))) (hy : w.ownsRow 0 58 1 (f 32) ps.length (ps.map (·.c)))
    (hp : ∀ q ∈ ps, IRow w 64 7 q.o q.n q.zs ∧ IRow w 64 7 q.c q.n q.zs ∧ q.n ≤ 5000) (hl : ps.length ≤ 300000)
    (hx2 : w.ownsRow 0 58 1 (f 33) qs.length (qs.map (·.o))) (hy2 : w.ownsRow 0 58 1 (f 34) qs.length (qs.map (·.c)))
    (hq : ∀ q ∈ qs, IRow w 64 7 q.o q.n q.zs ∧ IRow w 64 7 q.c q.n q.zs ∧ q.n ≤ 5000) (hl2 : qs.length ≤ 300000) :
    Calls Tryz.prog 45 #[.pointer (some ⟨bb, 0, none⟩)] w fun e w' => e = .returned (.bool true) ∧ Turned [] w w' := by
  go_enter Tryz.func45, Tryz.ntmps45
  generalize hact : (Act.mk _ _) = a0
  have s0 : a0.tmps.size = 55 := by rw [← hact]; rfl
  have d0 : a0.defers = [] := by rw [← hact]
  have y0 : a0.eval (.tmp 0) = pv bb 0 := by rw [← hact]; rfl
  clear hact
  refine wp_seq ?_
  refine (show (Code.region 0 (opsOf 0 Tryz.f45.body) false).wp Tryz.prog _ a0 w from ?_)
  refine holdSlots_r0 s0 d0 ?_
  intro a1 s1 d1 k1 _
  refine wp_seq ?_
  refine holdSlots_h1 (s1.trans s0) (d1.trans d0) ((k1 0 (by omega) (by omega)).trans y0) hB hx hy hp hl ?_
  intro a2 w2 s2 d2 x2 hT2
  refine wp_seq ?_
  refine holdSlots_h6 (s2.trans (s1.trans s0)) (d2.trans (d1.trans d0)) x2 (hB.keep hT2 (by simp)) (Row.keep hx2 hT2 (by simp)) (Row.keep hy2 hT2 (by simp)) (fun q h => ⟨Row.keep (hq q h).1 hT2 (by simp), Row.keep (hq q h).2.1 hT2 (by simp), (hq q h).2.2⟩) hl2 ?_
  intro a3 w3 s3 d3 x3 hT3
  have HT : Hid (Turned [] w w3) := hT2.trans hT3
  obtain ⟨cc, rfl, hcc⟩ := expand55 (s3.trans (s2.trans (s1.trans s0))) (d3.trans (d2.trans (d1.trans d0)))
  clear hcc x3 s3 d3 hT2 hT3 hB hx hy hp hl hx2 hy2 hq hl2
  unfold lit55
  go_wp2
  go_ret
  exact ⟨rfl, HT.out⟩
end Go.Proofs.YtjbhnpofdafmbaaGreatDoor
/- The book's kinds of which no list is kept. -/
namespace Go.Proofs.YtjbhnpofdafmbaaGreatDoor
open Go.RowKit
set_option maxRecDepth 100000 in
set_option maxHeartbeats 1600000 in
theorem cMarkTexts {w : World} {bb : Nat} {f : Nat → Value} (h : BK w bb f) (h2 : f 15 = .slice none 0 0) (h3 : f 16 = .slice none 0 0) (h5 : f 18 = .slice none 0 0) (h6 : f 19 = .slice none 0 0) : Calls Tryz.prog 140 #[.pointer (some ⟨bb, 0, none⟩)] w fun e w' => e = .returned (.tuple #[]) ∧ w' = w := by
  have c2 := h.cell (i := 15) (by omega)
  rw [h2] at c2
  have c3 := h.cell (i := 16) (by omega)
  rw [h3] at c3
  have c5 := h.cell (i := 18) (by omega)
  rw [h5] at c5
  have c6 := h.cell (i := 19) (by omega)
  rw [h6] at c6
  clear h h2 h3 h5 h6
  go_enter Tryz.func140, Tryz.ntmps140
  go_wp2
  refine bodyPost_ret (results_none rfl _ _ _) rfl ⟨rfl, rfl⟩
set_option maxRecDepth 100000 in
set_option maxHeartbeats 1600000 in
theorem cGrowTexts {w : World} {bb : Nat} {f : Nat → Value} (h : BK w bb f) (h4 : f 17 = .slice none 0 0) (h7 : f 20 = .slice none 0 0) : Calls Tryz.prog 151 #[.pointer (some ⟨bb, 0, none⟩)] w fun e w' => e = .returned (.tuple #[]) ∧ w' = ((w.setCell ⟨bb, 17, none⟩ (.slice none 0 0)).setCell ⟨bb, 20, none⟩ (.slice none 0 0)) := by
  have c4 := h.cell (i := 17) (by omega)
  rw [h4] at c4
  have c7 := h.cell (i := 20) (by omega)
  rw [h7] at c7
  have z := h.froz
  clear h h4 h7
  go_enter Tryz.func151, Tryz.ntmps151
  go_wp2
  go_loopw [2] (fun i wx => i = .int .i64 0 ∧ Hid (wx = w)) (fun _ _ => 0)
  case atStart => exact ⟨rfl, rfl⟩
  case round =>
    obtain ⟨rfl, HW⟩ := hrel
    obtain rfl := HW.out
    go_wp2
    refine bodyPost_end (results_none rfl _ _ _) rfl ⟨rfl, rfl⟩
set_option maxRecDepth 100000 in
set_option maxHeartbeats 1600000 in
theorem cHoldTexts {w : World} {bb : Nat} {f : Nat → Value} (h : BK w bb f) (h0 : f 13 = .slice none 0 0) (h2 : f 15 = .slice none 0 0) : Calls Tryz.prog 43 #[.pointer (some ⟨bb, 0, none⟩)] w fun e w' => e = .returned (.bool true) ∧ w' = w := by
  have c0 := h.cell (i := 13) (by omega)
  rw [h0] at c0
  have c2 := h.cell (i := 15) (by omega)
  rw [h2] at c2
  clear h h0 h2
  go_enter Tryz.func43, Tryz.ntmps43
  go_wp2
  go_loopw [3] (fun i wx => i = .int .i64 0 ∧ Hid (wx = w)) (fun _ _ => 0)
  case atStart => exact ⟨rfl, rfl⟩
  case round =>
    obtain ⟨rfl, HW⟩ := hrel
    obtain rfl := HW.out
    go_wp2
    go_loopw [4] (fun i wx => i = .int .i64 0 ∧ Hid (wx = wr)) (fun _ _ => 0)
    case atStart => exact ⟨rfl, rfl⟩
    case round =>
      obtain ⟨rfl, HW⟩ := hrel
      obtain rfl := HW.out
      go_wp2
      go_ret
      exact ⟨rfl, rfl⟩
set_option maxRecDepth 100000 in
set_option maxHeartbeats 1600000 in
theorem cMarkPairs {w : World} {bb : Nat} {f : Nat → Value} (h : BK w bb f) (h2 : f 24 = .slice none 0 0) (h3 : f 25 = .slice none 0 0) (h5 : f 27 = .slice none 0 0) (h6 : f 28 = .slice none 0 0) : Calls Tryz.prog 141 #[.pointer (some ⟨bb, 0, none⟩)] w fun e w' => e = .returned (.tuple #[]) ∧ w' = w := by
  have c2 := h.cell (i := 24) (by omega)
  rw [h2] at c2
  have c3 := h.cell (i := 25) (by omega)
  rw [h3] at c3
  have c5 := h.cell (i := 27) (by omega)
  rw [h5] at c5
  have c6 := h.cell (i := 28) (by omega)
  rw [h6] at c6
  clear h h2 h3 h5 h6
  go_enter Tryz.func141, Tryz.ntmps141
  go_wp2
  refine bodyPost_ret (results_none rfl _ _ _) rfl ⟨rfl, rfl⟩
set_option maxRecDepth 100000 in
set_option maxHeartbeats 1600000 in
theorem cGrowPairs {w : World} {bb : Nat} {f : Nat → Value} (h : BK w bb f) (h4 : f 26 = .slice none 0 0) (h7 : f 29 = .slice none 0 0) : Calls Tryz.prog 152 #[.pointer (some ⟨bb, 0, none⟩)] w fun e w' => e = .returned (.tuple #[]) ∧ w' = ((w.setCell ⟨bb, 26, none⟩ (.slice none 0 0)).setCell ⟨bb, 29, none⟩ (.slice none 0 0)) := by
  have c4 := h.cell (i := 26) (by omega)
  rw [h4] at c4
  have c7 := h.cell (i := 29) (by omega)
  rw [h7] at c7
  have z := h.froz
  clear h h4 h7
  go_enter Tryz.func152, Tryz.ntmps152
  go_wp2
  go_loopw [2] (fun i wx => i = .int .i64 0 ∧ Hid (wx = w)) (fun _ _ => 0)
  case atStart => exact ⟨rfl, rfl⟩
  case round =>
    obtain ⟨rfl, HW⟩ := hrel
    obtain rfl := HW.out
    go_wp2
    refine bodyPost_end (results_none rfl _ _ _) rfl ⟨rfl, rfl⟩
set_option maxRecDepth 100000 in
set_option maxHeartbeats 1600000 in
theorem cHoldPairs {w : World} {bb : Nat} {f : Nat → Value} (h : BK w bb f) (h0 : f 22 = .slice none 0 0) (h2 : f 24 = .slice none 0 0) : Calls Tryz.prog 44 #[.pointer (some ⟨bb, 0, none⟩)] w fun e w' => e = .returned (.bool true) ∧ w' = w := by
  have c0 := h.cell (i := 22) (by omega)
  rw [h0] at c0
  have c2 := h.cell (i := 24) (by omega)
  rw [h2] at c2
  clear h h0 h2
  go_enter Tryz.func44, Tryz.ntmps44
  go_wp2
  go_loopw [3] (fun i wx => i = .int .i64 0 ∧ Hid (wx = w)) (fun _ _ => 0)
  case atStart => exact ⟨rfl, rfl⟩
  case round =>
    obtain ⟨rfl, HW⟩ := hrel
    obtain rfl := HW.out
    go_wp2
    go_loopw [4] (fun i wx => i = .int .i64 0 ∧ Hid (wx = wr)) (fun _ _ => 0)
    case atStart => exact ⟨rfl, rfl⟩
    case round =>
      obtain ⟨rfl, HW⟩ := hrel
      obtain rfl := HW.out
      go_wp2
      go_ret
      exact ⟨rfl, rfl⟩
set_option maxRecDepth 100000 in
set_option maxHeartbeats 1600000 in
theorem cMarkChanges {w : World} {bb : Nat} {f : Nat → Value} (h : BK w bb f) (h2 : f 42 = .slice none 0 0) (h3 : f 43 = .slice none 0 0) (h5 : f 45 = .slice none 0 0) (h6 : f 46 = .slice none 0 0) : Calls Tryz.prog 143 #[.pointer (some ⟨bb, 0, none⟩)] w fun e w' => e = .returned (.tuple #[]) ∧ w' = w := by
  have c2 := h.cell (i := 42) (by omega)
  rw [h2] at c2
  have c3 := h.cell (i := 43) (by omega)
  rw [h3] at c3
  have c5 := h.cell (i := 45) (by omega)
  rw [h5] at c5
  have c6 := h.cell (i := 46) (by omega)
  rw [h6] at c6
  clear h h2 h3 h5 h6
  go_enter Tryz.func143, Tryz.ntmps143
  go_wp2
  refine bodyPost_ret (results_none rfl _ _ _) rfl ⟨rfl, rfl⟩
set_option maxRecDepth 100000 in
set_option maxHeartbeats 1600000 in
theorem cGrowChanges {w : World} {bb : Nat} {f : Nat → Value} (h : BK w bb f) (h4 : f 44 = .slice none 0 0) (h7 : f 47 = .slice none 0 0) : Calls Tryz.prog 154 #[.pointer (some ⟨bb, 0, none⟩)] w fun e w' => e = .returned (.tuple #[]) ∧ w' = ((w.setCell ⟨bb, 44, none⟩ (.slice none 0 0)).setCell ⟨bb, 47, none⟩ (.slice none 0 0)) := by
  have c4 := h.cell (i := 44) (by omega)
  rw [h4] at c4
  have c7 := h.cell (i := 47) (by omega)
  rw [h7] at c7
  have z := h.froz
  clear h h4 h7
  go_enter Tryz.func154, Tryz.ntmps154
  go_wp2
  go_loopw [2] (fun i wx => i = .int .i64 0 ∧ Hid (wx = w)) (fun _ _ => 0)
  case atStart => exact ⟨rfl, rfl⟩
  case round =>
    obtain ⟨rfl, HW⟩ := hrel
    obtain rfl := HW.out
    go_wp2
    refine bodyPost_end (results_none rfl _ _ _) rfl ⟨rfl, rfl⟩
set_option maxRecDepth 100000 in
set_option maxHeartbeats 1600000 in
theorem cHoldChanges {w : World} {bb : Nat} {f : Nat → Value} (h : BK w bb f) (h0 : f 40 = .slice none 0 0) (h2 : f 42 = .slice none 0 0) : Calls Tryz.prog 46 #[.pointer (some ⟨bb, 0, none⟩)] w fun e w' => e = .returned (.bool true) ∧ w' = w := by
  have c0 := h.cell (i := 40) (by omega)
  rw [h0] at c0
  have c2 := h.cell (i := 42) (by omega)
  rw [h2] at c2
  clear h h0 h2
  go_enter Tryz.func46, Tryz.ntmps46
  go_wp2
  go_loopw [3] (fun i wx => i = .int .i64 0 ∧ Hid (wx = w)) (fun _ _ => 0)
  case atStart => exact ⟨rfl, rfl⟩
  case round =>
    obtain ⟨rfl, HW⟩ := hrel
    obtain rfl := HW.out
    go_wp2
    go_loopw [4] (fun i wx => i = .int .i64 0 ∧ Hid (wx = wr)) (fun _ _ => 0)
    case atStart => exact ⟨rfl, rfl⟩
    case round =>
      obtain ⟨rfl, HW⟩ := hrel
      obtain rfl := HW.out
      go_wp2
      go_ret
      exact ⟨rfl, rfl⟩
set_option maxRecDepth 100000 in
set_option maxHeartbeats 1600000 in
theorem cMarkOpens {w : World} {bb : Nat} {f : Nat → Value} (h : BK w bb f) (h2 : f 51 = .slice none 0 0) (h3 : f 52 = .slice none 0 0) (h5 : f 54 = .slice none 0 0) (h6 : f 55 = .slice none 0 0) : Calls Tryz.prog 144 #[.pointer (some ⟨bb, 0, none⟩)] w fun e w' => e = .returned (.tuple #[]) ∧ w' = w := by
  have c2 := h.cell (i := 51) (by omega)
  rw [h2] at c2
  have c3 := h.cell (i := 52) (by omega)
  rw [h3] at c3
  have c5 := h.cell (i := 54) (by omega)
  rw [h5] at c5
  have c6 := h.cell (i := 55) (by omega)
  rw [h6] at c6
  clear h h2 h3 h5 h6
  go_enter Tryz.func144, Tryz.ntmps144
  go_wp2
  refine bodyPost_ret (results_none rfl _ _ _) rfl ⟨rfl, rfl⟩
set_option maxRecDepth 100000 in
set_option maxHeartbeats 1600000 in
theorem cGrowOpens {w : World} {bb : Nat} {f : Nat → Value} (h : BK w bb f) (h4 : f 53 = .slice none 0 0) (h7 : f 56 = .slice none 0 0) : Calls Tryz.prog 155 #[.pointer (some ⟨bb, 0, none⟩)] w fun e w' => e = .returned (.tuple #[]) ∧ w' = ((w.setCell ⟨bb, 53, none⟩ (.slice none 0 0)).setCell ⟨bb, 56, none⟩ (.slice none 0 0)) := by
  have c4 := h.cell (i := 53) (by omega)
  rw [h4] at c4
  have c7 := h.cell (i := 56) (by omega)
  rw [h7] at c7
  have z := h.froz
  clear h h4 h7
  go_enter Tryz.func155, Tryz.ntmps155
  go_wp2
  go_loopw [2] (fun i wx => i = .int .i64 0 ∧ Hid (wx = w)) (fun _ _ => 0)
  case atStart => exact ⟨rfl, rfl⟩
  case round =>
    obtain ⟨rfl, HW⟩ := hrel
    obtain rfl := HW.out
    go_wp2
    refine bodyPost_end (results_none rfl _ _ _) rfl ⟨rfl, rfl⟩
set_option maxRecDepth 100000 in
set_option maxHeartbeats 1600000 in
theorem cHoldOpens {w : World} {bb : Nat} {f : Nat → Value} (h : BK w bb f) (h0 : f 49 = .slice none 0 0) (h2 : f 51 = .slice none 0 0) : Calls Tryz.prog 47 #[.pointer (some ⟨bb, 0, none⟩)] w fun e w' => e = .returned (.bool true) ∧ w' = w := by
  have c0 := h.cell (i := 49) (by omega)
  rw [h0] at c0
  have c2 := h.cell (i := 51) (by omega)
  rw [h2] at c2
  clear h h0 h2
  go_enter Tryz.func47, Tryz.ntmps47
  go_wp2
  go_loopw [3] (fun i wx => i = .int .i64 0 ∧ Hid (wx = w)) (fun _ _ => 0)
  case atStart => exact ⟨rfl, rfl⟩
  case round =>
    obtain ⟨rfl, HW⟩ := hrel
    obtain rfl := HW.out
    go_wp2
    go_loopw [4] (fun i wx => i = .int .i64 0 ∧ Hid (wx = wr)) (fun _ _ => 0)
    case atStart => exact ⟨rfl, rfl⟩
    case round =>
      obtain ⟨rfl, HW⟩ := hrel
      obtain rfl := HW.out
      go_wp2
      go_ret
      exact ⟨rfl, rfl⟩
set_option maxRecDepth 100000 in
set_option maxHeartbeats 1600000 in
theorem cMarkLists {w : World} {bb : Nat} {f : Nat → Value} (h : BK w bb f) (h2 : f 60 = .slice none 0 0) (h3 : f 61 = .slice none 0 0) (h5 : f 63 = .slice none 0 0) (h6 : f 64 = .slice none 0 0) : Calls Tryz.prog 145 #[.pointer (some ⟨bb, 0, none⟩)] w fun e w' => e = .returned (.tuple #[]) ∧ w' = w := by
  have c2 := h.cell (i := 60) (by omega)
  rw [h2] at c2
  have c3 := h.cell (i := 61) (by omega)
  rw [h3] at c3
  have c5 := h.cell (i := 63) (by omega)
  rw [h5] at c5
  have c6 := h.cell (i := 64) (by omega)
  rw [h6] at c6
  clear h h2 h3 h5 h6
  go_enter Tryz.func145, Tryz.ntmps145
  go_wp2
  refine bodyPost_ret (results_none rfl _ _ _) rfl ⟨rfl, rfl⟩
set_option maxRecDepth 100000 in
set_option maxHeartbeats 1600000 in
theorem cGrowLists {w : World} {bb : Nat} {f : Nat → Value} (h : BK w bb f) (h4 : f 62 = .slice none 0 0) (h7 : f 65 = .slice none 0 0) : Calls Tryz.prog 156 #[.pointer (some ⟨bb, 0, none⟩)] w fun e w' => e = .returned (.tuple #[]) ∧ w' = ((w.setCell ⟨bb, 62, none⟩ (.slice none 0 0)).setCell ⟨bb, 65, none⟩ (.slice none 0 0)) := by
  have c4 := h.cell (i := 62) (by omega)
  rw [h4] at c4
  have c7 := h.cell (i := 65) (by omega)
  rw [h7] at c7
  have z := h.froz
  clear h h4 h7
  go_enter Tryz.func156, Tryz.ntmps156
  go_wp2
  go_loopw [2] (fun i wx => i = .int .i64 0 ∧ Hid (wx = w)) (fun _ _ => 0)
  case atStart => exact ⟨rfl, rfl⟩
  case round =>
    obtain ⟨rfl, HW⟩ := hrel
    obtain rfl := HW.out
    go_wp2
    refine bodyPost_end (results_none rfl _ _ _) rfl ⟨rfl, rfl⟩
set_option maxRecDepth 100000 in
set_option maxHeartbeats 1600000 in
theorem cHoldLists {w : World} {bb : Nat} {f : Nat → Value} (h : BK w bb f) (h0 : f 58 = .slice none 0 0) (h2 : f 60 = .slice none 0 0) : Calls Tryz.prog 48 #[.pointer (some ⟨bb, 0, none⟩)] w fun e w' => e = .returned (.bool true) ∧ w' = w := by
  have c0 := h.cell (i := 58) (by omega)
  rw [h0] at c0
  have c2 := h.cell (i := 60) (by omega)
  rw [h2] at c2
  clear h h0 h2
  go_enter Tryz.func48, Tryz.ntmps48
  go_wp2
  go_loopw [3] (fun i wx => i = .int .i64 0 ∧ Hid (wx = w)) (fun _ _ => 0)
  case atStart => exact ⟨rfl, rfl⟩
  case round =>
    obtain ⟨rfl, HW⟩ := hrel
    obtain rfl := HW.out
    go_wp2
    go_loopw [4] (fun i wx => i = .int .i64 0 ∧ Hid (wx = wr)) (fun _ _ => 0)
    case atStart => exact ⟨rfl, rfl⟩
    case round =>
      obtain ⟨rfl, HW⟩ := hrel
      obtain rfl := HW.out
      go_wp2
      go_ret
      exact ⟨rfl, rfl⟩
set_option maxRecDepth 100000 in
set_option maxHeartbeats 1600000 in
theorem cMarkAnswers {w : World} {bb : Nat} {f : Nat → Value} (h : BK w bb f) (h2 : f 69 = .slice none 0 0) (h3 : f 70 = .slice none 0 0) (h5 : f 72 = .slice none 0 0) (h6 : f 73 = .slice none 0 0) : Calls Tryz.prog 146 #[.pointer (some ⟨bb, 0, none⟩)] w fun e w' => e = .returned (.tuple #[]) ∧ w' = w := by
  have c2 := h.cell (i := 69) (by omega)
  rw [h2] at c2
  have c3 := h.cell (i := 70) (by omega)
  rw [h3] at c3
  have c5 := h.cell (i := 72) (by omega)
  rw [h5] at c5
  have c6 := h.cell (i := 73) (by omega)
  rw [h6] at c6
  clear h h2 h3 h5 h6
  go_enter Tryz.func146, Tryz.ntmps146
  go_wp2
  refine bodyPost_ret (results_none rfl _ _ _) rfl ⟨rfl, rfl⟩
set_option maxRecDepth 100000 in
set_option maxHeartbeats 1600000 in
theorem cGrowAnswers {w : World} {bb : Nat} {f : Nat → Value} (h : BK w bb f) (h4 : f 71 = .slice none 0 0) (h7 : f 74 = .slice none 0 0) : Calls Tryz.prog 157 #[.pointer (some ⟨bb, 0, none⟩)] w fun e w' => e = .returned (.tuple #[]) ∧ w' = ((w.setCell ⟨bb, 71, none⟩ (.slice none 0 0)).setCell ⟨bb, 74, none⟩ (.slice none 0 0)) := by
  have c4 := h.cell (i := 71) (by omega)
  rw [h4] at c4
  have c7 := h.cell (i := 74) (by omega)
  rw [h7] at c7
  have z := h.froz
  clear h h4 h7
  go_enter Tryz.func157, Tryz.ntmps157
  go_wp2
  go_loopw [2] (fun i wx => i = .int .i64 0 ∧ Hid (wx = w)) (fun _ _ => 0)
  case atStart => exact ⟨rfl, rfl⟩
  case round =>
    obtain ⟨rfl, HW⟩ := hrel
    obtain rfl := HW.out
    go_wp2
    refine bodyPost_end (results_none rfl _ _ _) rfl ⟨rfl, rfl⟩
set_option maxRecDepth 100000 in
set_option maxHeartbeats 1600000 in
theorem cHoldAnswers {w : World} {bb : Nat} {f : Nat → Value} (h : BK w bb f) (h0 : f 67 = .slice none 0 0) (h2 : f 69 = .slice none 0 0) : Calls Tryz.prog 49 #[.pointer (some ⟨bb, 0, none⟩)] w fun e w' => e = .returned (.bool true) ∧ w' = w := by
  have c0 := h.cell (i := 67) (by omega)
  rw [h0] at c0
  have c2 := h.cell (i := 69) (by omega)
  rw [h2] at c2
  clear h h0 h2
  go_enter Tryz.func49, Tryz.ntmps49
  go_wp2
  go_loopw [3] (fun i wx => i = .int .i64 0 ∧ Hid (wx = w)) (fun _ _ => 0)
  case atStart => exact ⟨rfl, rfl⟩
  case round =>
    obtain ⟨rfl, HW⟩ := hrel
    obtain rfl := HW.out
    go_wp2
    go_loopw [4] (fun i wx => i = .int .i64 0 ∧ Hid (wx = wr)) (fun _ _ => 0)
    case atStart => exact ⟨rfl, rfl⟩
    case round =>
      obtain ⟨rfl, HW⟩ := hrel
      obtain rfl := HW.out
      go_wp2
      go_ret
      exact ⟨rfl, rfl⟩
set_option maxRecDepth 100000 in
set_option maxHeartbeats 1600000 in
theorem cMarkAnswerLists {w : World} {bb : Nat} {f : Nat → Value} (h : BK w bb f) (h2 : f 78 = .slice none 0 0) (h3 : f 79 = .slice none 0 0) (h5 : f 81 = .slice none 0 0) (h6 : f 82 = .slice none 0 0) : Calls Tryz.prog 147 #[.pointer (some ⟨bb, 0, none⟩)] w fun e w' => e = .returned (.tuple #[]) ∧ w' = w := by
  have c2 := h.cell (i := 78) (by omega)
  rw [h2] at c2
  have c3 := h.cell (i := 79) (by omega)
  rw [h3] at c3
  have c5 := h.cell (i := 81) (by omega)
  rw [h5] at c5
  have c6 := h.cell (i := 82) (by omega)
  rw [h6] at c6
  clear h h2 h3 h5 h6
  go_enter Tryz.func147, Tryz.ntmps147
  go_wp2
  refine bodyPost_ret (results_none rfl _ _ _) rfl ⟨rfl, rfl⟩
set_option maxRecDepth 100000 in
set_option maxHeartbeats 1600000 in
theorem cGrowAnswerLists {w : World} {bb : Nat} {f : Nat → Value} (h : BK w bb f) (h4 : f 80 = .slice none 0 0) (h7 : f 83 = .slice none 0 0) : Calls Tryz.prog 158 #[.pointer (some ⟨bb, 0, none⟩)] w fun e w' => e = .returned (.tuple #[]) ∧ w' = ((w.setCell ⟨bb, 80, none⟩ (.slice none 0 0)).setCell ⟨bb, 83, none⟩ (.slice none 0 0)) := by
  have c4 := h.cell (i := 80) (by omega)
  rw [h4] at c4
  have c7 := h.cell (i := 83) (by omega)
  rw [h7] at c7
  have z := h.froz
  clear h h4 h7
  go_enter Tryz.func158, Tryz.ntmps158
  go_wp2
  go_loopw [2] (fun i wx => i = .int .i64 0 ∧ Hid (wx = w)) (fun _ _ => 0)
  case atStart => exact ⟨rfl, rfl⟩
  case round =>
    obtain ⟨rfl, HW⟩ := hrel
    obtain rfl := HW.out
    go_wp2
    refine bodyPost_end (results_none rfl _ _ _) rfl ⟨rfl, rfl⟩
set_option maxRecDepth 100000 in
set_option maxHeartbeats 1600000 in
theorem cHoldAnswerLists {w : World} {bb : Nat} {f : Nat → Value} (h : BK w bb f) (h0 : f 76 = .slice none 0 0) (h2 : f 78 = .slice none 0 0) : Calls Tryz.prog 50 #[.pointer (some ⟨bb, 0, none⟩)] w fun e w' => e = .returned (.bool true) ∧ w' = w := by
  have c0 := h.cell (i := 76) (by omega)
  rw [h0] at c0
  have c2 := h.cell (i := 78) (by omega)
  rw [h2] at c2
  clear h h0 h2
  go_enter Tryz.func50, Tryz.ntmps50
  go_wp2
  go_loopw [3] (fun i wx => i = .int .i64 0 ∧ Hid (wx = w)) (fun _ _ => 0)
  case atStart => exact ⟨rfl, rfl⟩
  case round =>
    obtain ⟨rfl, HW⟩ := hrel
    obtain rfl := HW.out
    go_wp2
    go_loopw [4] (fun i wx => i = .int .i64 0 ∧ Hid (wx = wr)) (fun _ _ => 0)
    case atStart => exact ⟨rfl, rfl⟩
    case round =>
      obtain ⟨rfl, HW⟩ := hrel
      obtain rfl := HW.out
      go_wp2
      go_ret
      exact ⟨rfl, rfl⟩
set_option maxRecDepth 100000 in
set_option maxHeartbeats 1600000 in
theorem cMarkCalls {w : World} {bb : Nat} {f : Nat → Value} (h : BK w bb f) (h2 : f 87 = .slice none 0 0) (h3 : f 88 = .slice none 0 0) (h5 : f 90 = .slice none 0 0) (h6 : f 91 = .slice none 0 0) : Calls Tryz.prog 148 #[.pointer (some ⟨bb, 0, none⟩)] w fun e w' => e = .returned (.tuple #[]) ∧ w' = w := by
  have c2 := h.cell (i := 87) (by omega)
  rw [h2] at c2
  have c3 := h.cell (i := 88) (by omega)
  rw [h3] at c3
  have c5 := h.cell (i := 90) (by omega)
  rw [h5] at c5
  have c6 := h.cell (i := 91) (by omega)
  rw [h6] at c6
  clear h h2 h3 h5 h6
  go_enter Tryz.func148, Tryz.ntmps148
  go_wp2
  refine bodyPost_ret (results_none rfl _ _ _) rfl ⟨rfl, rfl⟩
set_option maxRecDepth 100000 in
set_option maxHeartbeats 1600000 in
theorem cGrowCalls {w : World} {bb : Nat} {f : Nat → Value} (h : BK w bb f) (h4 : f 89 = .slice none 0 0) (h7 : f 92 = .slice none 0 0) : Calls Tryz.prog 159 #[.pointer (some ⟨bb, 0, none⟩)] w fun e w' => e = .returned (.tuple #[]) ∧ w' = ((w.setCell ⟨bb, 89, none⟩ (.slice none 0 0)).setCell ⟨bb, 92, none⟩ (.slice none 0 0)) := by
  have c4 := h.cell (i := 89) (by omega)
  rw [h4] at c4
  have c7 := h.cell (i := 92) (by omega)
  rw [h7] at c7
  have z := h.froz
  clear h h4 h7
  go_enter Tryz.func159, Tryz.ntmps159
  go_wp2
  go_loopw [2] (fun i wx => i = .int .i64 0 ∧ Hid (wx = w)) (fun _ _ => 0)
  case atStart => exact ⟨rfl, rfl⟩
  case round =>
    obtain ⟨rfl, HW⟩ := hrel
    obtain rfl := HW.out
    go_wp2
    refine bodyPost_end (results_none rfl _ _ _) rfl ⟨rfl, rfl⟩
set_option maxRecDepth 100000 in
set_option maxHeartbeats 1600000 in
theorem cHoldCalls {w : World} {bb : Nat} {f : Nat → Value} (h : BK w bb f) (h0 : f 85 = .slice none 0 0) (h2 : f 87 = .slice none 0 0) : Calls Tryz.prog 51 #[.pointer (some ⟨bb, 0, none⟩)] w fun e w' => e = .returned (.bool true) ∧ w' = w := by
  have c0 := h.cell (i := 85) (by omega)
  rw [h0] at c0
  have c2 := h.cell (i := 87) (by omega)
  rw [h2] at c2
  clear h h0 h2
  go_enter Tryz.func51, Tryz.ntmps51
  go_wp2
  go_loopw [3] (fun i wx => i = .int .i64 0 ∧ Hid (wx = w)) (fun _ _ => 0)
  case atStart => exact ⟨rfl, rfl⟩
  case round =>
    obtain ⟨rfl, HW⟩ := hrel
    obtain rfl := HW.out
    go_wp2
    go_loopw [4] (fun i wx => i = .int .i64 0 ∧ Hid (wx = wr)) (fun _ _ => 0)
    case atStart => exact ⟨rfl, rfl⟩
    case round =>
      obtain ⟨rfl, HW⟩ := hrel
      obtain rfl := HW.out
      go_wp2
      go_ret
      exact ⟨rfl, rfl⟩
set_option maxRecDepth 100000 in
set_option maxHeartbeats 1600000 in
theorem cMarkCallLists {w : World} {bb : Nat} {f : Nat → Value} (h : BK w bb f) (h2 : f 96 = .slice none 0 0) (h3 : f 97 = .slice none 0 0) (h5 : f 99 = .slice none 0 0) (h6 : f 100 = .slice none 0 0) : Calls Tryz.prog 149 #[.pointer (some ⟨bb, 0, none⟩)] w fun e w' => e = .returned (.tuple #[]) ∧ w' = w := by
  have c2 := h.cell (i := 96) (by omega)
  rw [h2] at c2
  have c3 := h.cell (i := 97) (by omega)
  rw [h3] at c3
  have c5 := h.cell (i := 99) (by omega)
  rw [h5] at c5
  have c6 := h.cell (i := 100) (by omega)
  rw [h6] at c6
  clear h h2 h3 h5 h6
  go_enter Tryz.func149, Tryz.ntmps149
  go_wp2
  refine bodyPost_ret (results_none rfl _ _ _) rfl ⟨rfl, rfl⟩
set_option maxRecDepth 100000 in
set_option maxHeartbeats 1600000 in
theorem cGrowCallLists {w : World} {bb : Nat} {f : Nat → Value} (h : BK w bb f) (h4 : f 98 = .slice none 0 0) (h7 : f 101 = .slice none 0 0) : Calls Tryz.prog 160 #[.pointer (some ⟨bb, 0, none⟩)] w fun e w' => e = .returned (.tuple #[]) ∧ w' = ((w.setCell ⟨bb, 98, none⟩ (.slice none 0 0)).setCell ⟨bb, 101, none⟩ (.slice none 0 0)) := by
  have c4 := h.cell (i := 98) (by omega)
  rw [h4] at c4
  have c7 := h.cell (i := 101) (by omega)
  rw [h7] at c7
  have z := h.froz
  clear h h4 h7
  go_enter Tryz.func160, Tryz.ntmps160
  go_wp2
  go_loopw [2] (fun i wx => i = .int .i64 0 ∧ Hid (wx = w)) (fun _ _ => 0)
  case atStart => exact ⟨rfl, rfl⟩
  case round =>
    obtain ⟨rfl, HW⟩ := hrel
    obtain rfl := HW.out
    go_wp2
    refine bodyPost_end (results_none rfl _ _ _) rfl ⟨rfl, rfl⟩
set_option maxRecDepth 100000 in
set_option maxHeartbeats 1600000 in
theorem cHoldCallLists {w : World} {bb : Nat} {f : Nat → Value} (h : BK w bb f) (h0 : f 94 = .slice none 0 0) (h2 : f 96 = .slice none 0 0) : Calls Tryz.prog 52 #[.pointer (some ⟨bb, 0, none⟩)] w fun e w' => e = .returned (.bool true) ∧ w' = w := by
  have c0 := h.cell (i := 94) (by omega)
  rw [h0] at c0
  have c2 := h.cell (i := 96) (by omega)
  rw [h2] at c2
  clear h h0 h2
  go_enter Tryz.func52, Tryz.ntmps52
  go_wp2
  go_loopw [3] (fun i wx => i = .int .i64 0 ∧ Hid (wx = w)) (fun _ _ => 0)
  case atStart => exact ⟨rfl, rfl⟩
  case round =>
    obtain ⟨rfl, HW⟩ := hrel
    obtain rfl := HW.out
    go_wp2
    go_loopw [4] (fun i wx => i = .int .i64 0 ∧ Hid (wx = wr)) (fun _ _ => 0)
    case atStart => exact ⟨rfl, rfl⟩
    case round =>
      obtain ⟨rfl, HW⟩ := hrel
      obtain rfl := HW.out
      go_wp2
      go_ret
      exact ⟨rfl, rfl⟩
end Go.Proofs.YtjbhnpofdafmbaaGreatDoor

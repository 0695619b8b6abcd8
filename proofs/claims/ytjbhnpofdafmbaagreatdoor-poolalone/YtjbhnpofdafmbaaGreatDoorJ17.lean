/- A frame, spelled out. -/
import Derived.Test.YtjbhnpofdafmbaaGreatDoorJ13
import Derived.Test.YtjbhnpofdafmbaaGreatDoorJ16
import Derived.Test.YtjbhnpofdafmbaaGreatDoorJ15
import Derived.Test.YtjbhnpofdafmbaaGreatDoorJ14
namespace Go.Proofs.YtjbhnpofdafmbaaGreatDoor
open Go.RowKit
def lit70 (c : Nat → Value) : Array Value := #[c 0, c 1, c 2, c 3, c 4, c 5, c 6, c 7, c 8, c 9, c 10, c 11, c 12, c 13, c 14, c 15, c 16, c 17, c 18, c 19, c 20, c 21, c 22, c 23, c 24, c 25, c 26, c 27, c 28, c 29, c 30, c 31, c 32, c 33, c 34, c 35, c 36, c 37, c 38, c 39, c 40, c 41, c 42, c 43, c 44, c 45, c 46, c 47, c 48, c 49, c 50, c 51, c 52, c 53, c 54, c 55, c 56, c 57, c 58, c 59, c 60, c 61, c 62, c 63, c 64, c 65, c 66, c 67, c 68, c 69]
set_option maxRecDepth 100000 in
theorem lit70_eq (c : Nat → Value) : lit70 c = ((List.range 70).map c).toArray := by rfl
theorem expand70 {a : Act} (hs : a.tmps.size = 70) (hd : a.defers = []) : ∃ c : Nat → Value, a = ⟨lit70 c, []⟩ ∧ ∀ s, c s = a.eval (.tmp s) := by
  refine ⟨fun s => a.tmps.getD s undef, ?_, fun s => rfl⟩
  obtain ⟨t, d⟩ := a
  simp only at hs hd
  subst hd
  congr 1
  rw [lit70_eq]
  refine Array.ext (by simp [hs]) fun i h1 h2 => ?_
  simp [Array.getD, h1]
end Go.Proofs.YtjbhnpofdafmbaaGreatDoor
/- The book's laying on (kind Slots). -/
namespace Go.Proofs.YtjbhnpofdafmbaaGreatDoor
open Go.RowKit
set_option maxRecDepth 100000 in
set_option maxHeartbeats 1600000 in
theorem growSlots_r0 {K : Act → World → Prop} {Q : Exit → Act → World → Prop} {a : Act} {w : World}  (hs : a.tmps.size = 70) (hd : a.defers = [])  
    (hEnd : ∀ a', a'.tmps.size = a.tmps.size → a'.defers = a.defers → (∀ s : Nat, s < 6 → s ≠ 2 → a'.eval (.tmp s) = a.eval (.tmp s)) → a'.eval (.tmp 2) = .int .i64 ((0 : Nat) : Int) → K a' w) :
    (Code.region 0 (opsOf 0 Tryz.f153.body) false).wp Tryz.prog (Exit.then K Q) a w := by
  obtain ⟨cc, rfl, hcc⟩ := expand70 hs hd
  have HE : Hid _ := hEnd
  clear hEnd hcc hs hd 
  conv => arg 2; whnf
  unfold lit70 at *
  skip
  go_wp2
  show K _ _
  refine HE.out _ rfl rfl (fun s hs hc => ?_) (by first | (rfl) | simp [Act.eval, Array.getD])
  match s, hs, hc with
  | 0, _, _ => rfl
  | 1, _, _ => rfl
  | 2, _, h => exact absurd rfl h
  | 3, _, _ => rfl
  | 4, _, _ => rfl
  | 5, _, _ => rfl
  | n + 6, hs, _ => exact absurd hs (by simp)
set_option maxRecDepth 100000 in
set_option maxHeartbeats 1600000 in
theorem growSlots_r1 {K : Act → World → Prop} {Q : Exit → Act → World → Prop} {a : Act} {w : World} {bb k m c : Nat} {ra : Option Addr} (hs : a.tmps.size = 70) (hd : a.defers = []) (x0 : a.eval (.tmp 0) = .pointer (some ⟨bb, 0, none⟩)) (x2 : a.eval (.tmp 2) = .int .i64 (k : Nat)) (hc : w.cell? ⟨bb, 35, none⟩ = some (.slice ra m c))
    (hEnd : ∀ a', a'.tmps.size = a.tmps.size → a'.defers = a.defers → (∀ s : Nat, s < 6 → a'.eval (.tmp s) = a.eval (.tmp s)) → a'.eval (.tmp 12) = .bool (decide ((k : Int) < (m : Int))) → K a' w) :
    (Code.region 1 (opsOf 1 Tryz.f153.body) false).wp Tryz.prog (Exit.then K Q) a w := by
  obtain ⟨cc, rfl, hcc⟩ := expand70 hs hd
  have y0 : cc 0 = .pointer (some ⟨bb, 0, none⟩) := (hcc 0).trans x0
  have y2 : cc 2 = .int .i64 (k : Nat) := (hcc 2).trans x2
  have HE : Hid _ := hEnd
  clear hEnd hcc hs hd x0 x2
  conv => arg 2; whnf
  unfold lit70 at *
  simp only [y0, y2] at *
  go_wp2
  show K _ _
  refine HE.out _ rfl rfl (fun s hs => ?_) (by first | (rfl) | simp [Act.eval, Array.getD])
  match s, hs with
  | 0, _ => rfl
  | 1, _ => rfl
  | 2, _ => rfl
  | 3, _ => rfl
  | 4, _ => rfl
  | 5, _ => rfl
  | n + 6, hs => exact absurd hs (by simp)
set_option maxRecDepth 100000 in
set_option maxHeartbeats 1600000 in
theorem growSlots_r3 {K : Act → World → Prop} {Q : Exit → Act → World → Prop} {a : Act} {w : World} {bb k m c g : Nat} {z : Int} (hs : a.tmps.size = 70) (hd : a.defers = []) (x0 : a.eval (.tmp 0) = .pointer (some ⟨bb, 0, none⟩)) (x2 : a.eval (.tmp 2) = .int .i64 (k : Nat)) (hc : w.cell? ⟨bb, 38, none⟩ = some (.slice (some ⟨g, 0, none⟩) m c)) (hcell : w.cell? ⟨g, k, none⟩ = some (.int .i64 z)) (hlt : (k : Int) < (m : Int))
    (hEnd : ∀ a', a'.tmps.size = a.tmps.size → a'.defers = a.defers → (∀ s : Nat, s < 6 → s ≠ 3 → a'.eval (.tmp s) = a.eval (.tmp s)) → a'.eval (.tmp 3) = .int .i64 z → K a' w) :
    (Code.region 3 (opsOf 3 Tryz.f153.body) false).wp Tryz.prog (Exit.then K Q) a w := by
  obtain ⟨cc, rfl, hcc⟩ := expand70 hs hd
  have y0 : cc 0 = .pointer (some ⟨bb, 0, none⟩) := (hcc 0).trans x0
  have y2 : cc 2 = .int .i64 (k : Nat) := (hcc 2).trans x2
  have HE : Hid _ := hEnd
  clear hEnd hcc hs hd x0 x2
  conv => arg 2; whnf
  unfold lit70 at *
  simp only [y0, y2] at *
  go_wp2
  show K _ _
  refine HE.out _ rfl rfl (fun s hs hc => ?_) (by first | (rfl) | simp [Act.eval, Array.getD])
  match s, hs, hc with
  | 0, _, _ => rfl
  | 1, _, _ => rfl
  | 2, _, _ => rfl
  | 3, _, h => exact absurd rfl h
  | 4, _, _ => rfl
  | 5, _, _ => rfl
  | n + 6, hs, _ => exact absurd hs (by simp)
set_option maxRecDepth 100000 in
set_option maxHeartbeats 1600000 in
theorem growSlots_r4 {K : Act → World → Prop} {Q : Exit → Act → World → Prop} {a : Act} {w : World} {bb k m c g yn yc : Nat} {ya : Option Addr} (hs : a.tmps.size = 70) (hd : a.defers = []) (x0 : a.eval (.tmp 0) = .pointer (some ⟨bb, 0, none⟩)) (x2 : a.eval (.tmp 2) = .int .i64 (k : Nat)) (hc : w.cell? ⟨bb, 35, none⟩ = some (.slice (some ⟨g, 0, none⟩) m c)) (hcell : w.cell? ⟨g, k, none⟩ = some (.slice ya yn yc)) (hlt : (k : Int) < (m : Int))
    (hEnd : ∀ a', a'.tmps.size = a.tmps.size → a'.defers = a.defers → (∀ s : Nat, s < 6 → s ≠ 4 → a'.eval (.tmp s) = a.eval (.tmp s)) → a'.eval (.tmp 4) = .slice ya yn yc → K a' w) :
    (Code.region 4 (opsOf 4 Tryz.f153.body) false).wp Tryz.prog (Exit.then K Q) a w := by
  obtain ⟨cc, rfl, hcc⟩ := expand70 hs hd
  have y0 : cc 0 = .pointer (some ⟨bb, 0, none⟩) := (hcc 0).trans x0
  have y2 : cc 2 = .int .i64 (k : Nat) := (hcc 2).trans x2
  have HE : Hid _ := hEnd
  clear hEnd hcc hs hd x0 x2
  conv => arg 2; whnf
  unfold lit70 at *
  simp only [y0, y2] at *
  go_wp2
  show K _ _
  refine HE.out _ rfl rfl (fun s hs hc => ?_) (by first | (rfl) | simp [Act.eval, Array.getD])
  match s, hs, hc with
  | 0, _, _ => rfl
  | 1, _, _ => rfl
  | 2, _, _ => rfl
  | 3, _, _ => rfl
  | 4, _, h => exact absurd rfl h
  | 5, _, _ => rfl
  | n + 6, hs, _ => exact absurd hs (by simp)
set_option maxRecDepth 100000 in
set_option maxHeartbeats 1600000 in
theorem growSlots_r5 {K : Act → World → Prop} {Q : Exit → Act → World → Prop} {a : Act} {w : World}  (hs : a.tmps.size = 70) (hd : a.defers = [])  
    (hEnd : ∀ a', a'.tmps.size = a.tmps.size → a'.defers = a.defers → (∀ s : Nat, s < 6 → s ≠ 5 → a'.eval (.tmp s) = a.eval (.tmp s)) → a'.eval (.tmp 5) = .int .i64 ((0 : Nat) : Int) → K a' w) :
    (Code.region 5 (opsOf 5 Tryz.f153.body) false).wp Tryz.prog (Exit.then K Q) a w := by
  obtain ⟨cc, rfl, hcc⟩ := expand70 hs hd
  have HE : Hid _ := hEnd
  clear hEnd hcc hs hd 
  conv => arg 2; whnf
  unfold lit70 at *
  skip
  go_wp2
  show K _ _
  refine HE.out _ rfl rfl (fun s hs hc => ?_) (by first | (rfl) | simp [Act.eval, Array.getD])
  match s, hs, hc with
  | 0, _, _ => rfl
  | 1, _, _ => rfl
  | 2, _, _ => rfl
  | 3, _, _ => rfl
  | 4, _, _ => rfl
  | 5, _, h => exact absurd rfl h
  | n + 6, hs, _ => exact absurd hs (by simp)
set_option maxRecDepth 100000 in
set_option maxHeartbeats 1600000 in
theorem growSlots_r6 {K : Act → World → Prop} {Q : Exit → Act → World → Prop} {a : Act} {w : World} {i : Nat} (hs : a.tmps.size = 70) (hd : a.defers = []) (x5 : a.eval (.tmp 5) = .int .i64 (i : Nat)) 
    (hEnd : ∀ a', a'.tmps.size = a.tmps.size → a'.defers = a.defers → (∀ s : Nat, s < 6 → a'.eval (.tmp s) = a.eval (.tmp s)) → a'.eval (.tmp 30) = .bool (decide ((i : Int) < 30)) → K a' w) :
    (Code.region 6 (opsOf 6 Tryz.f153.body) false).wp Tryz.prog (Exit.then K Q) a w := by
  obtain ⟨cc, rfl, hcc⟩ := expand70 hs hd
  have y5 : cc 5 = .int .i64 (i : Nat) := (hcc 5).trans x5
  have HE : Hid _ := hEnd
  clear hEnd hcc hs hd x5
  conv => arg 2; whnf
  unfold lit70 at *
  simp only [y5] at *
  go_wp2
  show K _ _
  refine HE.out _ rfl rfl (fun s hs => ?_) (by first | (rfl) | simp [Act.eval, Array.getD])
  match s, hs with
  | 0, _ => rfl
  | 1, _ => rfl
  | 2, _ => rfl
  | 3, _ => rfl
  | 4, _ => rfl
  | 5, _ => rfl
  | n + 6, hs => exact absurd hs (by simp)
set_option maxRecDepth 100000 in
set_option maxHeartbeats 1600000 in
theorem growSlots_r7 {K : Act → World → Prop} {Q : Exit → Act → World → Prop} {a : Act} {w : World} {i : Nat} (hs : a.tmps.size = 70) (hd : a.defers = []) (x5 : a.eval (.tmp 5) = .int .i64 (i : Nat)) (hi : i ≤ 1000000)
    (hEnd : ∀ a', a'.tmps.size = a.tmps.size → a'.defers = a.defers → (∀ s : Nat, s < 6 → s ≠ 5 → a'.eval (.tmp s) = a.eval (.tmp s)) → a'.eval (.tmp 5) = .int .i64 ((i + 1 : Nat) : Int) → K a' w) :
    (Code.region 7 (opsOf 7 Tryz.f153.body) false).wp Tryz.prog (Exit.then K Q) a w := by
  obtain ⟨cc, rfl, hcc⟩ := expand70 hs hd
  have y5 : cc 5 = .int .i64 (i : Nat) := (hcc 5).trans x5
  have HE : Hid _ := hEnd
  clear hEnd hcc hs hd x5
  conv => arg 2; whnf
  unfold lit70 at *
  simp only [y5] at *
  go_wp2
  show K _ _
  refine HE.out _ rfl rfl (fun s hs hc => ?_) (by first | (show Value.int .i64 ((i : Int) + 1) = .int .i64 ((i + 1 : Nat) : Int); simp) | simp [Act.eval, Array.getD])
  match s, hs, hc with
  | 0, _, _ => rfl
  | 1, _, _ => rfl
  | 2, _, _ => rfl
  | 3, _, _ => rfl
  | 4, _, _ => rfl
  | 5, _, h => exact absurd rfl h
  | n + 6, hs, _ => exact absurd hs (by simp)
set_option maxRecDepth 100000 in
set_option maxHeartbeats 1600000 in
theorem growSlots_r2 {K : Act → World → Prop} {Q : Exit → Act → World → Prop} {a : Act} {w : World} {k : Nat} (hs : a.tmps.size = 70) (hd : a.defers = []) (x2 : a.eval (.tmp 2) = .int .i64 (k : Nat)) (hk : k ≤ 1000000)
    (hEnd : ∀ a', a'.tmps.size = a.tmps.size → a'.defers = a.defers → (∀ s : Nat, s < 6 → s ≠ 2 → a'.eval (.tmp s) = a.eval (.tmp s)) → a'.eval (.tmp 2) = .int .i64 ((k + 1 : Nat) : Int) → K a' w) :
    (Code.region 2 (opsOf 2 Tryz.f153.body) false).wp Tryz.prog (Exit.then K Q) a w := by
  obtain ⟨cc, rfl, hcc⟩ := expand70 hs hd
  have y2 : cc 2 = .int .i64 (k : Nat) := (hcc 2).trans x2
  have HE : Hid _ := hEnd
  clear hEnd hcc hs hd x2
  conv => arg 2; whnf
  unfold lit70 at *
  simp only [y2] at *
  go_wp2
  show K _ _
  refine HE.out _ rfl rfl (fun s hs hc => ?_) (by first | (show Value.int .i64 ((k : Int) + 1) = .int .i64 ((k + 1 : Nat) : Int); simp) | simp [Act.eval, Array.getD])
  match s, hs, hc with
  | 0, _, _ => rfl
  | 1, _, _ => rfl
  | 2, _, h => exact absurd rfl h
  | 3, _, _ => rfl
  | 4, _, _ => rfl
  | 5, _, _ => rfl
  | n + 6, hs, _ => exact absurd hs (by simp)
theorem Slots_bsn (w : World) (z : Int) : (Instr.buildSlice 58 1 #[(0, Value.agg #[vi z, vi 0, vi 0, vi 0, vi 0, vi 0, vi 0])]).run Tryz.prog w = .ok (.slice (some ⟨w.heap.size, 0, none⟩) 1 1) (w.alloc (.cells #[vi z, vi 0, vi 0, vi 0, vi 0, vi 0, vi 0] 64)) := by
  go_simp
theorem Slots_build (w : World) (z : Int) : (Instr.build 64 #[(0, vi z)]).run Tryz.prog w = .ok (Value.agg #[vi z, vi 0, vi 0, vi 0, vi 0, vi 0, vi 0]) w := by
  go_simp
set_option maxRecDepth 100000 in
set_option maxHeartbeats 1600000 in
theorem growSlots_r8 {K : Act → World → Prop} {Q : Exit → Act → World → Prop} {a : Act} {w : World} {m i : Nat} {v : Value} {mark : Int} {zs : List Int} (hs : a.tmps.size = 70) (x3 : a.eval (.tmp 3) = vi mark) (x4 : a.eval (.tmp 4) = v) (x5 : a.eval (.tmp 5) = vi (i : Nat)) (hmk : small mark) (hi : i < 30) (hm : m ≤ 10000) (hv : IRow w 64 7 v m zs)
    (hEnd : ∀ a' w1 w2 v', a'.tmps.size = a.tmps.size → a'.defers = a.defers → (∀ s : Nat, s < 6 → s ≠ 4 → a'.eval (.tmp s) = a.eval (.tmp s)) → a'.eval (.tmp 4) = v' → Turned [] w w1 → Onto w1 w2 v v' m 1 → IRow w2 64 7 v' (m + 1) (zs ++ [mark + 6 + 5 * (i : Int), 0, 0, 0, 0, 0, 0]) → K a' w2) :
    (Code.region 8 (opsOf 8 Tryz.f153.body) false).wp Tryz.prog (Exit.then K Q) a w := by
  have hm0 := hmk.1
  have hm1 := hmk.2
  obtain ⟨inf, hinf, hzz⟩ := Option.map_eq_some_iff.1 Slots_info
  simp only [Prod.mk.injEq] at hzz
  obtain ⟨hz, hs1, hb⟩ := hzz
  obtain ⟨v', w2, hr, hrow, honto⟩ := run_onto (P := Tryz.prog) (w := (w.alloc (.cells #[vi (mark + 6 + 5 * (i : Int)), vi 0, vi 0, vi 0, vi 0, vi 0, vi 0] 64))) 0 58 58 64 inf (.agg #[.int .i64 0, .int .i64 0, .int .i64 0, .int .i64 0, .int .i64 0, .int .i64 0, .int .i64 0]) 7 56 Slots_und hinf hz hs1 hb rfl (by first | decide | nofun) v m (zs.map vi) (hv.alloc _) ⟨w.heap.size, 0, none⟩ 1 1 [vi (mark + 6 + 5 * (i : Int)), vi 0, vi 0, vi 0, vi 0, vi 0, vi 0] rfl (by
    intro jj u hu
    have hb := blk_new w (.cells #[vi (mark + 6 + 5 * (i : Int)), vi 0, vi 0, vi 0, vi 0, vi 0, vi 0] 64)
    have hadd : (⟨w.heap.size, 0, none⟩ : Addr).add jj = ⟨w.heap.size, jj, none⟩ := by unfold Addr.add; split <;> simp_all
    rw [hadd, cell_at hb jj]
    simpa using hu) (by intro u hu; simp at hu; rcases hu with rfl | rfl <;> rfl) (by first | decide | nofun) (by unfold maxLen; omega) (by omega) (Nat.zero_le _)
  have hrow' : IRow w2 64 7 v' (m + 1) (zs ++ [mark + 6 + 5 * (i : Int), 0, 0, 0, 0, 0, 0]) := by
    unfold IRow
    rw [List.map_append]
    exact hrow
  refine wp_region_line [some 33, some 34, some 35, some 36, some 37, some 38, some 39, some 40, some 41, some 4] (fun kk => match kk with
      | 0 => v
      | 1 => vi mark
      | 2 => vi (mark + 6)
      | 3 => vi (i : Nat)
      | 4 => vi (5 * (i : Int))
      | 5 => vi (mark + 6 + 5 * (i : Int))
      | 6 => Value.agg #[vi (mark + 6 + 5 * (i : Int)), vi 0, vi 0, vi 0, vi 0, vi 0, vi 0]
      | 7 => Value.slice (some ⟨w.heap.size, 0, none⟩) 1 1
      | 8 => v'
      | 9 => v'
      | _ => undef) (by rw [hs]; kernel_rfl) [7, 8] (fun jj => match jj with
      | 0 => w
      | 1 => (w.alloc (.cells #[vi (mark + 6 + 5 * (i : Int)), vi 0, vi 0, vi 0, vi 0, vi 0, vi 0] 64))
      | _ => w2) rfl (by first | decide | nofun) (by decide +kernel) ?_ ?_ ?_
  · intro kk gg bq h
    exact (no_guard (by kernel_rfl) h).elim
  · intro kk hk _ o ac wa wb K ho hd _ hoff hv hL hK
    rcases (by simp at hk; omega : kk = 0 ∨ kk = 1 ∨ kk = 2 ∨ kk = 3 ∨ kk = 4 ∨ kk = 5 ∨ kk = 6 ∨ kk = 7 ∨ kk = 8 ∨ kk = 9) with rfl | rfl | rfl | rfl | rfl | rfl | rfl | rfl | rfl | rfl
    · obtain ⟨rfl, jw, hjw, rfl, hjR⟩ := hL.off (by first | decide | nofun)
      exact l_val hd ((x_move (op_is rfl ho)).trans (by rw [(hoff 4 (by first | decide | nofun)).trans x4]; rfl)) hK
    · obtain ⟨rfl, jw, hjw, rfl, hjR⟩ := hL.off (by first | decide | nofun)
      exact l_val hd ((x_move (op_is rfl ho)).trans (by rw [(hoff 3 (by first | decide | nofun)).trans x3]; rfl)) hK
    · obtain ⟨rfl, jw, hjw, rfl, hjR⟩ := hL.off (by first | decide | nofun)
      exact l_val hd (x_addc (op_is rfl ho) (hv 1 34 rfl (by kernel_rfl)) rfl (by omega) (by omega)) hK
    · obtain ⟨rfl, jw, hjw, rfl, hjR⟩ := hL.off (by first | decide | nofun)
      exact l_val hd ((x_move (op_is rfl ho)).trans (by rw [(hoff 5 (by first | decide | nofun)).trans x5]; rfl)) hK
    · obtain ⟨rfl, jw, hjw, rfl, hjR⟩ := hL.off (by first | decide | nofun)
      exact l_val hd (x_mulc (op_is rfl ho) rfl (hv 3 36 rfl (by kernel_rfl)) (by omega) (by omega)) hK
    · obtain ⟨rfl, jw, hjw, rfl, hjR⟩ := hL.off (by first | decide | nofun)
      exact l_val hd (x_addc (op_is rfl ho) (hv 2 35 rfl (by kernel_rfl)) (hv 4 37 rfl (by kernel_rfl)) (by omega) (by omega)) hK
    · obtain ⟨rfl, jw, hjw, rfl, hjR⟩ := hL.off (by first | decide | nofun)
      exact l_val hd (x_build1 (op_is rfl ho) (by simp only [List.map_toArray, List.map_cons, List.map_nil, hv 5 38 rfl (by kernel_rfl)]) (Slots_build _ _)) hK
    · obtain ⟨rfl, rfl⟩ := hL.at_ (by first | decide | nofun) (j := 0) rfl
      exact l_val hd (x_bslice (op_is rfl ho) (by simp only [List.map_toArray, List.map_cons, List.map_nil, hv 6 39 rfl (by kernel_rfl)]) (Slots_bsn _ _)) hK
    · obtain ⟨rfl, rfl⟩ := hL.at_ (by first | decide | nofun) (j := 1) rfl
      exact l_val hd (x_append (op_is rfl ho) (ty_is rfl ho) (hv 0 33 rfl (by kernel_rfl)) (hv 7 40 rfl (by kernel_rfl)) hr) hK
    · obtain ⟨rfl, jw, hjw, rfl, hjR⟩ := hL.off (by first | decide | nofun)
      exact l_val hd ((x_assign (op_is rfl ho)).trans (by rw [hv 8 41 rfl (by kernel_rfl)]; rfl)) hK
  · intro a1 g1 g2 g3 g4
    exact hEnd a1 _ w2 v' g1 g2 (fun s hs' h4 => ev_same (g3 s (not_low2 hs' h4 (by first | decide | nofun)))) (g4 9 4 rfl) ((Turned.refl [] w).alloc _) honto hrow'
end Go.Proofs.YtjbhnpofdafmbaaGreatDoor
/- The book's grow (kind Slots): what was written full is laid on. -/
namespace Go.Proofs.YtjbhnpofdafmbaaGreatDoor
open Go.RowKit
/-- Thirty are laid on. -/
theorem growSlots_inner {K : Act → World → Prop} {Q : Exit → Act → World → Prop} {a : Act} {w : World} {l : Value} {n : Nat} {mark : Int} {zs : List Int} (hs : a.tmps.size = 70) (hd : a.defers = []) (x3 : a.eval (.tmp 3) = vi mark) (x4 : a.eval (.tmp 4) = l) (hmk : small mark) (hn : n ≤ 4500) (hl : IRow w 64 7 l n zs)
    (hEnd : ∀ a' w' v, a'.tmps.size = a.tmps.size → a'.defers = a.defers → (∀ s : Nat, s < 4 → a'.eval (.tmp s) = a.eval (.tmp s)) → a'.eval (.tmp 4) = v → Laid 64 7 w l n zs v (n + 30) w' → K a' w') :
    ((Code.region 5 (opsOf 5 Tryz.f153.body) false).seq (Code.block 2 (Code.loop (((Code.region 6 (opsOf 6 Tryz.f153.body) false).seq (Code.cond (.tmp 30) .skip (.exit 2))).seq ((Code.block 3 (Code.region 8 (opsOf 8 Tryz.f153.body) false)).seq (Code.region 7 (opsOf 7 Tryz.f153.body) false)))))).wp Tryz.prog (Exit.then K Q) a w := by
  refine wp_seq ?_
  refine growSlots_r5 hs hd ?_
  intro a1 s1 d1 k1 e5
  refine wp_block ?_
  refine wp_loop (fun a' w' => ∃ (i : Nat) (v : Value), i ≤ 30 ∧ a'.tmps.size = 70 ∧ a'.defers = [] ∧ (∀ s : Nat, s < 4 → a'.eval (.tmp s) = a.eval (.tmp s)) ∧ a'.eval (.tmp 4) = v ∧ a'.eval (.tmp 5) = .int .i64 (i : Nat) ∧ Laid 64 7 w l n zs v (n + i) w') (fun a' _ => 30 - (intOf (a'.eval (.tmp 5))).toNat) ?_ ?_
  · exact ⟨0, l, by omega, s1.trans hs, d1.trans hd, fun s h => k1 s (by omega) (by omega), (k1 4 (by omega) (by omega)).trans x4, e5, Laid.start hl⟩
  · rintro a2 w2 ⟨i, v, hi, hs2, hd2, hk2, x42, x52, hL⟩
    refine wp_seq ?_
    refine wp_seq ?_
    refine growSlots_r6 hs2 hd2 x52 ?_
    intro a3 s3 d3 k3 e3
    by_cases hlt : i < 30
    · refine wp_cond_true (e3.trans (by simp; omega)) ?_
      refine wp_skip ?_
      obtain ⟨ext, hx⟩ := hL.new
      refine wp_seq ?_
      refine wp_block ?_
      refine wp_fall ?_
      refine growSlots_r8 (s3.trans hs2) ((k3 3 (by omega)).trans ((hk2 3 (by omega)).trans x3)) ((k3 4 (by omega)).trans x42) ((k3 5 (by omega)).trans x52) hmk hlt (by omega) hx ?_
      intro a4 w3 w4 v4 s4 d4 k4 e4 ht ho hr
      show (Code.region 7 (opsOf 7 Tryz.f153.body) false).wp _ _ _ _
      refine growSlots_r7 (i := i) (s4.trans (s3.trans hs2)) (d4.trans (d3.trans hd2)) ((k4 5 (by omega) (by omega)).trans ((k3 5 (by omega)).trans x52)) (by omega) ?_
      intro a5 s5 d5 k5 e5'
      refine ⟨⟨i + 1, v4, by omega, s5.trans (s4.trans (s3.trans hs2)), d5.trans (d4.trans (d3.trans hd2)), fun s h => (k5 s (by omega) (by omega)).trans ((k4 s (by omega) (by omega)).trans ((k3 s (by omega)).trans (hk2 s h))), (k5 4 (by omega) (by omega)).trans e4, e5', hL.more hl ht ho hx hr⟩, ?_⟩
      rw [e5', x52]
      simp [intOf]
      omega
    · have : i = 30 := by omega
      subst this
      refine wp_cond_false (e3.trans (by simp)) ?_
      refine wp_exit ?_
      exact hEnd a3 w2 v (s3.trans (hs2.trans hs.symm)) (d3.trans (hd2.trans hd.symm)) (fun s h => (k3 s (by omega)).trans (hk2 s h)) ((k3 4 (by omega)).trans x42) hL
set_option maxHeartbeats 1600000 in
set_option maxRecDepth 100000 in
/-- One round. -/
theorem growSlots_round {Q : Exit → Act → World → Prop} {a : Act} {w w0 : World} {bb : Nat} {C0 : Own} {f0 : Nat → Value} {ot : List Ot} {wn : List Wt} {fr : List Fh} {k : Nat} (hs : a.tmps.size = 70) (hd : a.defers = []) (x0 : a.eval (.tmp 0) = pv bb 0) (x2 : a.eval (.tmp 2) = vi (k : Nat))
    (hk : k ≤ fr.length) (hfl : fr.length ≤ 100000) (hol : ot.length ≤ 100000) (HG : GrowAt kcSlots bb C0 w0 f0 ot wn fr k w)
    (hGo : k < fr.length → ∀ a' w', a'.tmps.size = 70 → a'.defers = [] → a'.eval (.tmp 0) = pv bb 0 → a'.eval (.tmp 2) = vi ((k + 1 : Nat) : Int) → GrowAt kcSlots bb C0 w0 f0 ot wn fr (k + 1) w' → Q .normal a' w')
    (hEnd : k = fr.length → ∀ a', a'.tmps.size = 70 → a'.defers = [] → a'.eval (.tmp 0) = pv bb 0 → Q (.exit 0) a' w) :
    (((Code.region 1 (opsOf 1 Tryz.f153.body) false).seq (Code.cond (.tmp 12) .skip (.exit 0))).seq ((Code.block 1 ((Code.region 3 (opsOf 3 Tryz.f153.body) false).seq ((Code.region 4 (opsOf 4 Tryz.f153.body) false).seq (((Code.region 5 (opsOf 5 Tryz.f153.body) false).seq (Code.block 2 (Code.loop (((Code.region 6 (opsOf 6 Tryz.f153.body) false).seq (Code.cond (.tmp 30) .skip (.exit 2))).seq ((Code.block 3 (Code.region 8 (opsOf 8 Tryz.f153.body) false)).seq (Code.region 7 (opsOf 7 Tryz.f153.body) false)))))).seq ((Code.region 9 (opsOf 9 Tryz.f153.body) false).seq (Code.region 10 (opsOf 10 Tryz.f153.body) true)))))).seq (Code.region 2 (opsOf 2 Tryz.f153.body) false))).wp Tryz.prog Q a w := by
  obtain ⟨C, f, gr, hF, hB, hO, hR, hT, hf, hgl⟩ := HG.ex
  obtain ⟨aF, cF, eF⟩ := Row.shape hO.rF.1
  obtain ⟨aR, cR, eR⟩ := Row.shape hO.rR.1
  simp only [List.length_map] at eF eR
  have q4 := hB.cell (i := 35) (by omega)
  have q7 := hB.cell (i := 38) (by omega)
  rw [show f 35 = _ from eF] at q4
  rw [show f 38 = _ from eR] at q7
  refine wp_seq ?_
  refine wp_seq ?_
  refine growSlots_r1 hs hd x0 x2 q4 ?_
  intro a1 s1 d1 k1 e1
  by_cases hlt : k < fr.length
  · refine wp_cond_true (e1.trans (by simp; omega)) ?_
    refine wp_skip ?_
    obtain ⟨q, hq⟩ : ∃ q, fr[k]? = some q := ⟨fr[k], List.getElem?_eq_getElem hlt⟩
    obtain ⟨hkl, hqe⟩ := List.getElem?_eq_some_iff.1 hq
    have hdrop : fr.drop k = q :: fr.drop (k + 1) := by rw [← hqe]; exact List.drop_eq_getElem_cons hkl
    rw [hdrop] at hR
    obtain ⟨p1, p2, p3, p4⟩ := hR.pF q (by simp)
    obtain ⟨i1, i2, i3⟩ := ids_fresh hR.ids
    obtain ⟨gF, cF', cuF, eF', -, -⟩ := Row.form hO.rF.1 (by simp; omega)
    obtain ⟨gR, cR', cuR, eR', -, -⟩ := Row.form hO.rR.1 (by simp; omega)
    have cellF : w.cell? ⟨gF, k, none⟩ = some q.l := by
      have h1 := hO.rF.1
      rw [eF'] at h1
      rw [World.ownsRow.cellAt (by simpa using h1) k (by simp; omega)]
      simp [hq]
    have cellR : w.cell? ⟨gR, k, none⟩ = some (.int .i64 q.mark) := by
      have h1 := hO.rR.1
      rw [eR'] at h1
      rw [World.ownsRow.cellAt (by simpa using h1) k (by simp; omega)]
      simp [hq]
    have q4' := hB.cell (i := 35) (by omega)
    have q7' := hB.cell (i := 38) (by omega)
    rw [show f 35 = _ from eF'] at q4'
    rw [show f 38 = _ from eR'] at q7'
    simp only [List.length_map] at q4' q7'
    obtain ⟨la, lc, el⟩ := Row.shape p1
    rw [el] at cellF
    have hki : (k : Int) < (fr.length : Int) := by omega
    refine wp_seq ?_
    refine wp_block ?_
    refine wp_seq ?_
    refine growSlots_r3 (s1.trans hs) (d1.trans hd) ((k1 0 (by omega)).trans x0) ((k1 2 (by omega)).trans x2) q7' cellR hki ?_
    intro a2 s2 d2 k2 e2
    refine wp_seq ?_
    refine growSlots_r4 (s2.trans (s1.trans hs)) (d2.trans (d1.trans hd)) ((k2 0 (by omega) (by omega)).trans ((k1 0 (by omega)).trans x0)) ((k2 2 (by omega) (by omega)).trans ((k1 2 (by omega)).trans x2)) q4' cellF hki ?_
    intro a3 s3 d3 k3 e3
    have ss : a3.tmps.size = 70 := s3.trans (s2.trans (s1.trans hs))
    have dd : a3.defers = [] := d3.trans (d2.trans (d1.trans hd))
    have kk : ∀ s : Nat, s < 3 → a3.eval (.tmp s) = a.eval (.tmp s) := fun s h => (k3 s (by omega) (by omega)).trans ((k2 s (by omega) (by omega)).trans (k1 s (by omega)))
    refine wp_seq ?_
    refine growSlots_inner (l := q.l) ss dd ((k3 3 (by omega) (by omega)).trans e2) (e3.trans el.symm) p4 p2 p1 ?_
    intro a4 w4 v s4 d4 k4 e4 hL
    obtain ⟨hF4, hS4, hhv4⟩ := own_laid hF p3 hL
    have hB4 : BK w4 bb f := hB.keep hL.turned (by
      intro hx
      have := p3 bb (by simpa using hx)
      rw [hF.bk] at this
      injection this with this
      injection this with _ this
      cases this)
    have hO4 := hO.step (f' := f) hF hS4 (fun tg => by cases tg <;> simp) (fun _ _ => rfl)
    have hR4 := (hR.laid hF hL.turned hL.old).recol (fun t v h => hS4.has hF h)
    obtain ⟨ext, hv4⟩ := hL.new
    generalize take1 C 2 (.lst q.id) v w.heap.size = C4 at *
    refine wp_seq ?_
    refine growSlots_r9 (s4.trans ss) ((k4 0 (by omega)).trans ((kk 0 (by omega)).trans x0)) e4 (Row.slice hv4) hF4 hB4 hO4 (by simp; omega) ?_
    intro a5 w5 C5 v5 s5 d5 k5 hF5 hS5 hB5 hO5
    have hR5 := hR4.step hF4 hS5 (by simp) (by simp)
    have hv5 := hS5.row hF4 hv4 hhv4 (by simp) (by simp)
    have hhv5 := hS5.has hF4 hhv4
    refine wp_fall ?_
    refine growSlots_r10 (s5.trans (s4.trans ss)) ((k5 0 (by omega)).trans ((k4 0 (by omega)).trans ((kk 0 (by omega)).trans x0))) ((k5 4 (by omega)).trans e4) hv5 (by omega) hF5 hB5 hO5 (by simp; omega) ?_
    intro a6 w6 C6 v6 nt s6 d6 k6 hF6 hS6 hB6 hO6 hnt6 hnk6
    have hR6 := hR5.step hF5 hS6 (by simp) (by simp)
    have hv6 := hS6.row hF5 hv5 hhv5 (by simp) (by simp)
    have hhv6 := hS6.has hF5 hhv5
    have hR7 := hR6.add (z := ⟨v, nt, q.n + 30, q.zs ++ ext, q.id⟩) ⟨hv6, hnt6, by show q.n + 30 ≤ 5000; omega, hhv6, hnk6, i1⟩ i2
    have fT : ∀ {t : Tg} (x : Nat × Tg), x = (2, t) → x.1 = 2 := fun x h => by rw [h]
    have HG7 : GrowAt kcSlots bb C0 w0 f0 ot wn fr (k + 1) w6 := by
      refine ⟨C6, _, gr ++ [⟨v, nt, q.n + 30, q.zs ++ ext, q.id⟩], hF6, hB6, by simpa using hO6, by simpa using hR7, ((hT.trans (KFr.of hS4 fT)).trans (KFr.of hS5 fT)).trans (KFr.of hS6 fT), ?_, by simp [hgl]⟩
      intro i hi
      have hi' : i < 31 ∨ 39 ≤ i := hi
      rw [upd_other _ _ (by omega), upd_other _ _ (by omega)]
      exact hf i hi'
    show (Code.region 2 (opsOf 2 Tryz.f153.body) false).wp _ _ _ _
    refine wp_fall ?_
    refine growSlots_r2 (k := k) (s6.trans (s5.trans (s4.trans ss))) (d6.trans (d5.trans (d4.trans dd))) ((k6 2 (by omega)).trans ((k5 2 (by omega)).trans ((k4 2 (by omega)).trans ((kk 2 (by omega)).trans x2)))) (by omega) ?_
    intro a8 s8 d8 k8 e8
    exact hGo hlt a8 w6 (s8.trans (s6.trans (s5.trans (s4.trans ss)))) (d8.trans (d6.trans (d5.trans (d4.trans dd)))) ((k8 0 (by omega) (by omega)).trans ((k6 0 (by omega)).trans ((k5 0 (by omega)).trans ((k4 0 (by omega)).trans ((kk 0 (by omega)).trans x0))))) e8 HG7
  · refine wp_cond_false (e1.trans (by simp; omega)) ?_
    refine wp_exit ?_
    exact hEnd (by omega) a1 (s1.trans hs) (d1.trans hd) ((k1 0 (by omega)).trans x0)
/-- What laying on leaves. -/
structure GrownSlots (w : World) (bb : Nat) (C : Own) (f : Nat → Value) (ot : List Ot) (wn : List Wt) (fr : List Fh) (w' : World) : Prop where
  ex : ∃ C' f' gr, Fit C' w' bb ∧ BK w' bb f' ∧ FullSlots C' w' f' (ot ++ gr) wn [] ∧ KFr 2 bb C w C' w' ∧ (∀ i, i < 31 ∨ 39 ≤ i → f' i = f i) ∧ gr.length = fr.length
set_option maxHeartbeats 1600000 in
set_option maxRecDepth 100000 in
theorem cGrowSlots {w : World} {bb : Nat} {C : Own} {f : Nat → Value} {ot : List Ot} {wn : List Wt} {fr : List Fh} (hF : Fit C w bb) (hB : BK w bb f) (hK : FullSlots C w f ot wn fr) (hfl : fr.length ≤ 100000) (hol : ot.length ≤ 100000) :
    Calls Tryz.prog 153 #[.pointer (some ⟨bb, 0, none⟩)] w fun e w' => e = .returned (.tuple #[]) ∧ GrownSlots w bb C f ot wn fr w' := by
  obtain ⟨hO, hR⟩ := hK
  have HG0 : GrowAt kcSlots bb C w f ot wn fr 0 w := ⟨C, f, [], hF, hB, by simpa using hO, by simpa using hR, KFr.refl _ _ _ _, fun _ _ => rfl, rfl⟩
  go_enter Tryz.func153, Tryz.ntmps153
  generalize hact : (Act.mk _ _) = a0
  have s0 : a0.tmps.size = 70 := by rw [← hact]; rfl
  have d0 : a0.defers = [] := by rw [← hact]
  have y0 : a0.eval (.tmp 0) = pv bb 0 := by rw [← hact]; rfl
  clear hact
  refine wp_seq_k fun K hK => ?_
  have HKK : Hid _ := hK
  clear hK
  refine wp_seq ?_
  refine (show (Code.region 0 (opsOf 0 Tryz.f153.body) false).wp Tryz.prog _ a0 w from ?_)
  refine wp_fall ?_
  refine growSlots_r0 s0 d0 ?_
  intro a1 s1 d1 k1 e2
  refine wp_block ?_
  refine (show (Code.loop (((Code.region 1 (opsOf 1 Tryz.f153.body) false).seq (Code.cond (.tmp 12) .skip (.exit 0))).seq ((Code.block 1 ((Code.region 3 (opsOf 3 Tryz.f153.body) false).seq ((Code.region 4 (opsOf 4 Tryz.f153.body) false).seq (((Code.region 5 (opsOf 5 Tryz.f153.body) false).seq (Code.block 2 (Code.loop (((Code.region 6 (opsOf 6 Tryz.f153.body) false).seq (Code.cond (.tmp 30) .skip (.exit 2))).seq ((Code.block 3 (Code.region 8 (opsOf 8 Tryz.f153.body) false)).seq (Code.region 7 (opsOf 7 Tryz.f153.body) false)))))).seq ((Code.region 9 (opsOf 9 Tryz.f153.body) false).seq (Code.region 10 (opsOf 10 Tryz.f153.body) true)))))).seq (Code.region 2 (opsOf 2 Tryz.f153.body) false)))).wp Tryz.prog _ a1 w from ?_)
  refine wp_loop (fun a' w' => ∃ k : Nat, k ≤ fr.length ∧ a'.tmps.size = 70 ∧ a'.defers = [] ∧ a'.eval (.tmp 0) = pv bb 0 ∧ a'.eval (.tmp 2) = vi (k : Nat) ∧ GrowAt kcSlots bb C w f ot wn fr k w') (fun a' _ => fr.length - (intOf (a'.eval (.tmp 2))).toNat) ⟨0, Nat.zero_le _, s1.trans s0, d1.trans d0, (k1 0 (by omega) (by omega)).trans y0, e2, HG0⟩ ?_
  rintro a2 w2 ⟨k, hk, s2, d2, x0, x2, hG⟩
  refine growSlots_round s2 d2 x0 x2 hk hfl hol hG ?_ ?_
  · intro hlt a3 w3 s3 d3 x03 x23 hG3
    refine ⟨⟨k + 1, by omega, s3, d3, x03, x23, hG3⟩, ?_⟩
    rw [x23, x2]
    simp [intOf]
    omega
  · intro hke a3 s3 d3 x03
    subst hke
    show K a3 w2
    refine HKK.out a3 w2 ?_
    obtain ⟨C2, f2, gr, hF2, hB2, hO2, hR2, hT2, hf2, hgl⟩ := hG.ex
    have c4 := hB2.cell (i := 35) (by omega)
    have c7 := hB2.cell (i := 38) (by omega)
    have z2 := hB2.froz
    have hB5 := (hB2.put (i := 35) (by omega) (.slice none 0 0)).put (i := 38) (by omega) (.slice none 0 0)
    have hS : Turned [bb] w2 ((w2.setCell ⟨bb, 35, none⟩ (.slice none 0 0)).setCell ⟨bb, 38, none⟩ (.slice none 0 0)) := ((Turned.refl [bb] w2).set (.inl (by simp)) _ _).set (.inl (by simp)) _ _
    have hSt : Stp (fun _ => False) bb C2 w2 C2 ((w2.setCell ⟨bb, 35, none⟩ (.slice none 0 0)).setCell ⟨bb, 38, none⟩ (.slice none 0 0)) := Stp.of hS (by intro x hx; exact .inl (by simpa using hx))
    have hFin : GrownSlots w bb C f ot wn fr ((w2.setCell ⟨bb, 35, none⟩ (.slice none 0 0)).setCell ⟨bb, 38, none⟩ (.slice none 0 0)) := by
      refine ⟨C2, _, gr, hF2.of hS, hB5, ⟨⟨?_, ?_, ?_, ?_, ?_, ?_, ?_, ?_⟩, by simpa using hR2.step hF2 hSt (fun h => h) (fun _ h => h)⟩, hT2.trans (KFr.of hSt (fun _ h => h.elim)), ?_, hgl⟩
      · rw [upd_other _ _ (by first | decide | nofun), upd_other _ _ (by first | decide | nofun)]; exact hO2.rO.step hF2 hSt (by simp) (fun h => h)
      · rw [upd_other _ _ (by first | decide | nofun), upd_other _ _ (by first | decide | nofun)]; exact hO2.rT.step hF2 hSt (by simp) (fun h => h)
      · rw [upd_other _ _ (by first | decide | nofun), upd_other _ _ (by first | decide | nofun)]; exact hO2.rW.step hF2 hSt (by simp) (fun h => h)
      · rw [upd_other _ _ (by first | decide | nofun), upd_other _ _ (by first | decide | nofun)]; exact hO2.rN.step hF2 hSt (by simp) (fun h => h)
      · rw [upd_other _ _ (by first | decide | nofun), upd_same]; exact RowAt.nil _ _ _ _ _
      · rw [upd_other _ _ (by first | decide | nofun), upd_other _ _ (by first | decide | nofun)]; exact hO2.rM.step hF2 hSt (by simp) (fun h => h)
      · rw [upd_other _ _ (by first | decide | nofun), upd_other _ _ (by first | decide | nofun)]; exact hO2.rD.step hF2 hSt (by simp) (fun h => h)
      · rw [upd_same]; exact RowAt.nil _ _ _ _ _
      · intro i hi
        have hi' : i < 31 ∨ 39 ≤ i := hi
        rw [upd_other _ _ (by omega), upd_other _ _ (by omega)]
        exact hf2 i hi'
    have HFin : Hid _ := hFin
    clear hFin hSt hS hB5 hT2 hf2 hO2 hR2 HKK HG0 hG hR hO
    obtain ⟨v4, e4⟩ : ∃ v, f2 35 = v := ⟨_, rfl⟩
    obtain ⟨v7, e7⟩ : ∃ v, f2 38 = v := ⟨_, rfl⟩
    rw [e4] at c4
    rw [e7] at c7
    obtain ⟨cc, rfl, hcc⟩ := expand70 s3 d3
    have y : cc 0 = .pointer (some ⟨bb, 0, none⟩) := (hcc 0).trans x03
    clear hcc x03 s3 d3
    unfold lit70
    simp only [y]
    go_wp2
    refine bodyPost_end (results_none rfl _ _ _) rfl ⟨rfl, HFin.out⟩
end Go.Proofs.YtjbhnpofdafmbaaGreatDoor
/- A frame, spelled out. -/
namespace Go.Proofs.YtjbhnpofdafmbaaGreatDoor
open Go.RowKit
def lit188 (c : Nat → Value) : Array Value := #[c 0, c 1, c 2, c 3, c 4, c 5, c 6, c 7, c 8, c 9, c 10, c 11, c 12, c 13, c 14, c 15, c 16, c 17, c 18, c 19, c 20, c 21, c 22, c 23, c 24, c 25, c 26, c 27, c 28, c 29, c 30, c 31, c 32, c 33, c 34, c 35, c 36, c 37, c 38, c 39, c 40, c 41, c 42, c 43, c 44, c 45, c 46, c 47, c 48, c 49, c 50, c 51, c 52, c 53, c 54, c 55, c 56, c 57, c 58, c 59, c 60, c 61, c 62, c 63, c 64, c 65, c 66, c 67, c 68, c 69, c 70, c 71, c 72, c 73, c 74, c 75, c 76, c 77, c 78, c 79, c 80, c 81, c 82, c 83, c 84, c 85, c 86, c 87, c 88, c 89, c 90, c 91, c 92, c 93, c 94, c 95, c 96, c 97, c 98, c 99, c 100, c 101, c 102, c 103, c 104, c 105, c 106, c 107, c 108, c 109, c 110, c 111, c 112, c 113, c 114, c 115, c 116, c 117, c 118, c 119, c 120, c 121, c 122, c 123, c 124, c 125, c 126, c 127, c 128, c 129, c 130, c 131, c 132, c 133, c 134, c 135, c 136, c 137, c 138, c 139, c 140, c 141, c 142, c 143, c 144, c 145, c 146, c 147, c 148, c 149, c 150, c 151, c 152, c 153, c 154, c 155, c 156, c 157, c 158, c 159, c 160, c 161, c 162, c 163, c 164, c 165, c 166, c 167, c 168, c 169, c 170, c 171, c 172, c 173, c 174, c 175, c 176, c 177, c 178, c 179, c 180, c 181, c 182, c 183, c 184, c 185, c 186, c 187]
set_option maxRecDepth 100000 in
theorem lit188_eq (c : Nat → Value) : lit188 c = ((List.range 188).map c).toArray := by rfl
theorem expand188 {a : Act} (hs : a.tmps.size = 188) (hd : a.defers = []) : ∃ c : Nat → Value, a = ⟨lit188 c, []⟩ ∧ ∀ s, c s = a.eval (.tmp s) := by
  refine ⟨fun s => a.tmps.getD s undef, ?_, fun s => rfl⟩
  obtain ⟨t, d⟩ := a
  simp only at hs hd
  subst hd
  congr 1
  rw [lit188_eq]
  refine Array.ext (by simp [hs]) fun i h1 h2 => ?_
  simp [Array.getD, h1]
end Go.Proofs.YtjbhnpofdafmbaaGreatDoor
/- The other statements of the book's mark (kind Ints). -/
namespace Go.Proofs.YtjbhnpofdafmbaaGreatDoor
open Go.RowKit
set_option maxRecDepth 100000 in
set_option maxHeartbeats 1600000 in
theorem markInts_r7 {K : Act → World → Prop} {Q : Exit → Act → World → Prop} {a : Act} {w : World} {ra : Option Addr} {k m rc : Nat} (hs : a.tmps.size = 188) (xk : a.eval (.tmp 6) = vi (k : Nat)) (xr_ : a.eval (.tmp 2) = Value.slice ra m rc)
    (hEnd : ∀ a', a'.tmps.size = a.tmps.size → a'.defers = a.defers → (∀ s : Nat, s < 10 → a'.eval (.tmp s) = a.eval (.tmp s)) → a'.eval (.tmp 44) = .bool (decide ((k : Int) < (m : Int))) → K a' w) :
    (Code.region 7 (opsOf 7 Tryz.f139.body) false).wp Tryz.prog (Exit.then K Q) a w := by
  refine wp_region_line [some 41, some 42, some 43, some 44] (fun kk => match kk with
      | 0 => vi (k : Nat)
      | 1 => Value.slice ra m rc
      | 2 => vi (m : Nat)
      | 3 => Value.bool (decide ((k : Int) < (m : Int)))
      | _ => undef) (by rw [hs]; kernel_rfl) [] (fun jj => match jj with
      | _ => w) rfl (by first | decide | nofun) (by decide +kernel) ?_ ?_ ?_
  · intro kk gg bq h
    exact (no_guard (by kernel_rfl) h).elim
  · intro kk hk _ o ac wa wb K ho hd _ hoff hv hL hK
    rcases (by simp at hk; omega : kk = 0 ∨ kk = 1 ∨ kk = 2 ∨ kk = 3) with rfl | rfl | rfl | rfl
    · obtain ⟨rfl, jw, hjw, rfl, hjR⟩ := hL.off (by first | decide | nofun)
      exact l_val hd ((x_move (op_is rfl ho)).trans (by rw [(hoff 6 (by first | decide | nofun)).trans xk]; rfl)) hK
    · obtain ⟨rfl, jw, hjw, rfl, hjR⟩ := hL.off (by first | decide | nofun)
      exact l_val hd ((x_move (op_is rfl ho)).trans (by rw [(hoff 2 (by first | decide | nofun)).trans xr_]; rfl)) hK
    · obtain ⟨rfl, jw, hjw, rfl, hjR⟩ := hL.off (by first | decide | nofun)
      exact l_val hd (x_len Ints_lund (op_is rfl ho) (hv 1 42 rfl (by kernel_rfl))) hK
    · obtain ⟨rfl, jw, hjw, rfl, hjR⟩ := hL.off (by first | decide | nofun)
      exact l_val hd (x_lss (op_is rfl ho) (hv 0 41 rfl (by kernel_rfl)) (hv 2 43 rfl (by kernel_rfl))) hK
  · intro a1 g1 g2 g3 g4
    exact hEnd a1 g1 g2 (fun s hs' => ev_same (g3 s (not_low hs' (by first | decide | nofun)))) (g4 3 44 rfl)
set_option maxRecDepth 100000 in
set_option maxHeartbeats 1600000 in
theorem markInts_r18 {K : Act → World → Prop} {Q : Exit → Act → World → Prop} {a : Act} {w : World} {ra : Option Addr} {k m rc : Nat} (hs : a.tmps.size = 188) (xk : a.eval (.tmp 9) = vi (k : Nat)) (xr_ : a.eval (.tmp 7) = Value.slice ra m rc)
    (hEnd : ∀ a', a'.tmps.size = a.tmps.size → a'.defers = a.defers → (∀ s : Nat, s < 10 → a'.eval (.tmp s) = a.eval (.tmp s)) → a'.eval (.tmp 136) = .bool (decide ((k : Int) < (m : Int))) → K a' w) :
    (Code.region 18 (opsOf 18 Tryz.f139.body) false).wp Tryz.prog (Exit.then K Q) a w := by
  refine wp_region_line [some 133, some 134, some 135, some 136] (fun kk => match kk with
      | 0 => vi (k : Nat)
      | 1 => Value.slice ra m rc
      | 2 => vi (m : Nat)
      | 3 => Value.bool (decide ((k : Int) < (m : Int)))
      | _ => undef) (by rw [hs]; kernel_rfl) [] (fun jj => match jj with
      | _ => w) rfl (by first | decide | nofun) (by decide +kernel) ?_ ?_ ?_
  · intro kk gg bq h
    exact (no_guard (by kernel_rfl) h).elim
  · intro kk hk _ o ac wa wb K ho hd _ hoff hv hL hK
    rcases (by simp at hk; omega : kk = 0 ∨ kk = 1 ∨ kk = 2 ∨ kk = 3) with rfl | rfl | rfl | rfl
    · obtain ⟨rfl, jw, hjw, rfl, hjR⟩ := hL.off (by first | decide | nofun)
      exact l_val hd ((x_move (op_is rfl ho)).trans (by rw [(hoff 9 (by first | decide | nofun)).trans xk]; rfl)) hK
    · obtain ⟨rfl, jw, hjw, rfl, hjR⟩ := hL.off (by first | decide | nofun)
      exact l_val hd ((x_move (op_is rfl ho)).trans (by rw [(hoff 7 (by first | decide | nofun)).trans xr_]; rfl)) hK
    · obtain ⟨rfl, jw, hjw, rfl, hjR⟩ := hL.off (by first | decide | nofun)
      exact l_val hd (x_len Ints_und (op_is rfl ho) (hv 1 134 rfl (by kernel_rfl))) hK
    · obtain ⟨rfl, jw, hjw, rfl, hjR⟩ := hL.off (by first | decide | nofun)
      exact l_val hd (x_lss (op_is rfl ho) (hv 0 133 rfl (by kernel_rfl)) (hv 2 135 rfl (by kernel_rfl))) hK
  · intro a1 g1 g2 g3 g4
    exact hEnd a1 g1 g2 (fun s hs' => ev_same (g3 s (not_low hs' (by first | decide | nofun)))) (g4 3 136 rfl)
set_option maxRecDepth 100000 in
set_option maxHeartbeats 1600000 in
theorem markInts_r9 {K : Act → World → Prop} {Q : Exit → Act → World → Prop} {a : Act} {w : World} {y : Value} {k m g rc : Nat} (hs : a.tmps.size = 188) (xk : a.eval (.tmp 6) = vi (k : Nat)) (xr_ : a.eval (.tmp 2) = Value.slice (some ⟨g, 0, none⟩) m rc) (hlt : (k : Int) < (m : Int)) (hcell : w.cell? ⟨g, k, none⟩ = some (y)) (hy : ∃ sa sn sc, y = .slice sa sn sc) 
    (hEnd : ∀ a', a'.tmps.size = a.tmps.size → a'.defers = a.defers → (∀ s : Nat, s < 10 → s ≠ 7 → a'.eval (.tmp s) = a.eval (.tmp s)) → a'.eval (.tmp 7) = y → K a' w) :
    (Code.region 9 (opsOf 9 Tryz.f139.body) false).wp Tryz.prog (Exit.then K Q) a w := by
  refine wp_region_line [some 47, some 48, some 49, some 50, some 7] (fun kk => match kk with
      | 0 => Value.slice (some ⟨g, 0, none⟩) m rc
      | 1 => vi (k : Nat)
      | 2 => pv g k
      | 3 => y
      | 4 => y
      | _ => undef) (by rw [hs]; kernel_rfl) [] (fun jj => match jj with
      | _ => w) rfl (by first | decide | nofun) (by decide +kernel) ?_ ?_ ?_
  · intro kk gg bq h
    exact (no_guard (by kernel_rfl) h).elim
  · intro kk hk _ o ac wa wb K ho hd _ hoff hv hL hK
    rcases (by simp at hk; omega : kk = 0 ∨ kk = 1 ∨ kk = 2 ∨ kk = 3 ∨ kk = 4) with rfl | rfl | rfl | rfl | rfl
    · obtain ⟨rfl, jw, hjw, rfl, hjR⟩ := hL.off (by first | decide | nofun)
      exact l_val hd ((x_move (op_is rfl ho)).trans (by rw [(hoff 2 (by first | decide | nofun)).trans xr_]; rfl)) hK
    · obtain ⟨rfl, jw, hjw, rfl, hjR⟩ := hL.off (by first | decide | nofun)
      exact l_val hd ((x_move (op_is rfl ho)).trans (by rw [(hoff 6 (by first | decide | nofun)).trans xk]; rfl)) hK
    · obtain ⟨rfl, jw, hjw, rfl, hjR⟩ := hL.off (by first | decide | nofun)
      exact l_val hd (x_index (op_is rfl ho) (by rw [hv 0 47 rfl (by kernel_rfl), hv 1 48 rfl (by kernel_rfl)]; exact idx_lists_Ints hlt)) hK
    · obtain ⟨rfl, jw, hjw, rfl, hjR⟩ := hL.off (by first | decide | nofun)
      exact l_val hd (x_load (op_is rfl ho) (by rw [hv 2 49 rfl (by kernel_rfl)]; exact Ints_ldi hy hcell)) hK
    · obtain ⟨rfl, jw, hjw, rfl, hjR⟩ := hL.off (by first | decide | nofun)
      exact l_val hd ((x_assign (op_is rfl ho)).trans (by rw [hv 3 50 rfl (by kernel_rfl)]; rfl)) hK
  · intro a1 g1 g2 g3 g4
    exact hEnd a1 g1 g2 (fun s hs' h7 => ev_same (g3 s (not_low2 hs' h7 (by first | decide | nofun)))) (g4 4 7 rfl)
set_option maxRecDepth 100000 in
set_option maxHeartbeats 1600000 in
theorem markInts_r10 {K : Act → World → Prop} {Q : Exit → Act → World → Prop} {a : Act} {w : World} {z : Int} {k m g rc : Nat} (hs : a.tmps.size = 188) (xk : a.eval (.tmp 6) = vi (k : Nat)) (xr_ : a.eval (.tmp 4) = Value.slice (some ⟨g, 0, none⟩) m rc) (hlt : (k : Int) < (m : Int)) (hcell : w.cell? ⟨g, k, none⟩ = some (vi z)) 
    (hEnd : ∀ a', a'.tmps.size = a.tmps.size → a'.defers = a.defers → (∀ s : Nat, s < 10 → s ≠ 8 → a'.eval (.tmp s) = a.eval (.tmp s)) → a'.eval (.tmp 8) = vi z → K a' w) :
    (Code.region 10 (opsOf 10 Tryz.f139.body) false).wp Tryz.prog (Exit.then K Q) a w := by
  refine wp_region_line [some 51, some 52, some 53, some 54, some 8] (fun kk => match kk with
      | 0 => Value.slice (some ⟨g, 0, none⟩) m rc
      | 1 => vi (k : Nat)
      | 2 => pv g k
      | 3 => vi z
      | 4 => vi z
      | _ => undef) (by rw [hs]; kernel_rfl) [] (fun jj => match jj with
      | _ => w) rfl (by first | decide | nofun) (by decide +kernel) ?_ ?_ ?_
  · intro kk gg bq h
    exact (no_guard (by kernel_rfl) h).elim
  · intro kk hk _ o ac wa wb K ho hd _ hoff hv hL hK
    rcases (by simp at hk; omega : kk = 0 ∨ kk = 1 ∨ kk = 2 ∨ kk = 3 ∨ kk = 4) with rfl | rfl | rfl | rfl | rfl
    · obtain ⟨rfl, jw, hjw, rfl, hjR⟩ := hL.off (by first | decide | nofun)
      exact l_val hd ((x_move (op_is rfl ho)).trans (by rw [(hoff 4 (by first | decide | nofun)).trans xr_]; rfl)) hK
    · obtain ⟨rfl, jw, hjw, rfl, hjR⟩ := hL.off (by first | decide | nofun)
      exact l_val hd ((x_move (op_is rfl ho)).trans (by rw [(hoff 6 (by first | decide | nofun)).trans xk]; rfl)) hK
    · obtain ⟨rfl, jw, hjw, rfl, hjR⟩ := hL.off (by first | decide | nofun)
      exact l_val hd (x_index (op_is rfl ho) (by rw [hv 0 51 rfl (by kernel_rfl), hv 1 52 rfl (by kernel_rfl)]; exact idx_ints hlt)) hK
    · obtain ⟨rfl, jw, hjw, rfl, hjR⟩ := hL.off (by first | decide | nofun)
      exact l_val hd (x_load (op_is rfl ho) (by rw [hv 2 53 rfl (by kernel_rfl)]; exact ld_int hcell)) hK
    · obtain ⟨rfl, jw, hjw, rfl, hjR⟩ := hL.off (by first | decide | nofun)
      exact l_val hd ((x_assign (op_is rfl ho)).trans (by rw [hv 3 54 rfl (by kernel_rfl)]; rfl)) hK
  · intro a1 g1 g2 g3 g4
    exact hEnd a1 g1 g2 (fun s hs' h8 => ev_same (g3 s (not_low2 hs' h8 (by first | decide | nofun)))) (g4 4 8 rfl)
set_option maxRecDepth 100000 in
set_option maxHeartbeats 1600000 in
theorem markInts_r11 {K : Act → World → Prop} {Q : Exit → Act → World → Prop} {a : Act} {w : World} {bb : Nat} {f : Nat → Value} {z turn : Int} {k m g rc : Nat} (hs : a.tmps.size = 188) (x0 : a.eval (.tmp 0) = pv bb 0) (xk : a.eval (.tmp 6) = vi (k : Nat)) (xr_ : a.eval (.tmp 5) = Value.slice (some ⟨g, 0, none⟩) m rc) (hlt : (k : Int) < (m : Int)) (hcell : w.cell? ⟨g, k, none⟩ = some (vi z)) (hB : BK w bb f) (h2 : f 2 = .int .i64 turn)
    (hEnd : ∀ a', a'.tmps.size = a.tmps.size → a'.defers = a.defers → (∀ s : Nat, s < 10 → a'.eval (.tmp s) = a.eval (.tmp s)) → a'.eval (.tmp 63) = .bool (decide (turn < z)) → K a' w.drew) :
    (Code.region 11 (opsOf 11 Tryz.f139.body) true).wp Tryz.prog (Exit.then K Q) a w := by
  refine wp_region_chain (by kernel_rfl) [some 55, some 56, some 57, some 58, some 59, some 60, some 61, some 62, some 63] (fun kk => match kk with
      | 0 => Value.slice (some ⟨g, 0, none⟩) m rc
      | 1 => vi (k : Nat)
      | 2 => pv g k
      | 3 => vi z
      | 4 => pv bb 0
      | 5 => pv bb 0
      | 6 => pv bb 2
      | 7 => vi turn
      | 8 => Value.bool (decide (turn < z))
      | _ => undef) (by rw [hs]; kernel_rfl) [] (fun jj => match jj with
      | _ => w.drew) rfl (by first | decide | nofun) (by decide +kernel) ?_ ?_ ?_
  · intro kk gg bq h
    exact (no_guard (by kernel_rfl) h).elim
  · intro kk hk _ o ac wa wb K ho hd _ hoff hv hL hK
    rcases (by simp at hk; omega : kk = 0 ∨ kk = 1 ∨ kk = 2 ∨ kk = 3 ∨ kk = 4 ∨ kk = 5 ∨ kk = 6 ∨ kk = 7 ∨ kk = 8) with rfl | rfl | rfl | rfl | rfl | rfl | rfl | rfl | rfl
    · obtain ⟨rfl, jw, hjw, rfl, hjR⟩ := hL.off (by first | decide | nofun)
      exact l_val hd ((x_move (op_is rfl ho)).trans (by rw [(hoff 5 (by first | decide | nofun)).trans xr_]; rfl)) hK
    · obtain ⟨rfl, jw, hjw, rfl, hjR⟩ := hL.off (by first | decide | nofun)
      exact l_val hd ((x_move (op_is rfl ho)).trans (by rw [(hoff 6 (by first | decide | nofun)).trans xk]; rfl)) hK
    · obtain ⟨rfl, jw, hjw, rfl, hjR⟩ := hL.off (by first | decide | nofun)
      exact l_val hd (x_index (op_is rfl ho) (by rw [hv 0 55 rfl (by kernel_rfl), hv 1 56 rfl (by kernel_rfl)]; exact idx_ints hlt)) hK
    · obtain ⟨rfl, jw, hjw, rfl, hjR⟩ := hL.off (by first | decide | nofun)
      exact l_val hd (x_load (op_is rfl ho) (by rw [hv 2 57 rfl (by kernel_rfl)]; exact ld_int hcell)) hK
    · obtain ⟨rfl, jw, hjw, rfl, hjR⟩ := hL.off (by first | decide | nofun)
      exact l_val hd ((x_move (op_is rfl ho)).trans (by rw [(hoff 0 (by first | decide | nofun)).trans x0]; rfl)) hK
    · obtain ⟨rfl, jw, hjw, rfl, hjR⟩ := hL.off (by first | decide | nofun)
      exact l_val hd (x_nil (op_is rfl ho) (hv 4 59 rfl (by kernel_rfl))) hK
    · obtain ⟨rfl, jw, hjw, rfl, hjR⟩ := hL.off (by first | decide | nofun)
      exact l_val hd (x_field (op_is rfl ho) (by rw [hv 5 60 rfl (by kernel_rfl)]; unfold pv; go_simp)) hK
    · obtain ⟨rfl, jw, hjw, rfl, hjR⟩ := hL.off (by first | decide | nofun)
      exact l_val hd (x_load (op_is rfl ho) (by rw [hv 6 61 rfl (by kernel_rfl)]; exact ld_int ((hB.cell (i := 2) (by omega)).trans (by rw [h2])))) hK
    · obtain ⟨rfl, jw, hjw, rfl, hjR⟩ := hL.off (by first | decide | nofun)
      exact l_val hd (x_gtr (op_is rfl ho) (hv 3 58 rfl (by kernel_rfl)) (hv 7 62 rfl (by kernel_rfl))) hK
  · intro a1 g1 g2 g3 g4
    exact hEnd a1 g1 g2 (fun s hs' => ev_same (g3 s (not_low hs' (by first | decide | nofun)))) (g4 8 63 rfl)
set_option maxRecDepth 100000 in
set_option maxHeartbeats 1600000 in
theorem markInts_r17 {K : Act → World → Prop} {Q : Exit → Act → World → Prop} {a : Act} {w : World}  (hs : a.tmps.size = 188) 
    (hEnd : ∀ a', a'.tmps.size = a.tmps.size → a'.defers = a.defers → (∀ s : Nat, s < 10 → s ≠ 9 → a'.eval (.tmp s) = a.eval (.tmp s)) → a'.eval (.tmp 9) = vi ((0 : Nat) : Int) → K a' w) :
    (Code.region 17 (opsOf 17 Tryz.f139.body) false).wp Tryz.prog (Exit.then K Q) a w := by
  refine wp_region_line [some 9] (fun kk => match kk with
      | 0 => Value.int IntKind.i64 (0)
      | _ => undef) (by rw [hs]; kernel_rfl) [] (fun jj => match jj with
      | _ => w) rfl (by first | decide | nofun) (by decide +kernel) ?_ ?_ ?_
  · intro kk gg bq h
    exact (no_guard (by kernel_rfl) h).elim
  · intro kk hk _ o ac wa wb K ho hd _ hoff hv hL hK
    obtain rfl : kk = 0 := by simp at hk; omega
    · obtain ⟨rfl, jw, hjw, rfl, hjR⟩ := hL.off (by first | decide | nofun)
      exact l_val (v := Value.int IntKind.i64 (0)) hd ((x_assign (op_is (p := .assign (.const (Value.int IntKind.i64 (0)))) rfl ho)).trans rfl) hK
  · intro a1 g1 g2 g3 g4
    exact hEnd a1 g1 g2 (fun s hs' h9 => ev_same (g3 s (not_low2 hs' h9 (by first | decide | nofun)))) (g4 0 9 rfl)
set_option maxRecDepth 100000 in
set_option maxHeartbeats 1600000 in
theorem markInts_r19 {K : Act → World → Prop} {Q : Exit → Act → World → Prop} {a : Act} {w : World} {k : Nat} (hs : a.tmps.size = 188) (hd : a.defers = []) (xk : a.eval (.tmp 9) = vi (k : Nat)) (hk : k ≤ 1000000)
    (hEnd : ∀ a', a'.tmps.size = a.tmps.size → a'.defers = a.defers → (∀ s : Nat, s < 10 → s ≠ 9 → a'.eval (.tmp s) = a.eval (.tmp s)) → a'.eval (.tmp 9) = vi ((k + 1 : Nat) : Int) → K a' w) :
    (Code.region 19 (opsOf 19 Tryz.f139.body) false).wp Tryz.prog (Exit.then K Q) a w := by
  obtain ⟨cc, rfl, hcc⟩ := expand188 hs hd
  have y : cc 9 = .int .i64 (k : Nat) := (hcc 9).trans xk
  have HE : Hid _ := hEnd
  clear hEnd xk hcc hs hd
  conv => arg 2; whnf
  unfold lit188 at *
  simp only [y] at *
  go_wp2
  show K _ _
  refine HE.out _ rfl rfl (fun s hs hc => ?_) (by show Value.int .i64 ((k : Int) + 1) = vi ((k + 1 : Nat) : Int); simp)
  match s, hs, hc with
    | 0, _, _ => rfl
    | 1, _, _ => rfl
    | 2, _, _ => rfl
    | 3, _, _ => rfl
    | 4, _, _ => rfl
    | 5, _, _ => rfl
    | 6, _, _ => rfl
    | 7, _, _ => rfl
    | 8, _, _ => rfl
    | 9, _, h => exact absurd rfl h
    | n + 10, hs, _ => exact absurd hs (by simp)
set_option maxRecDepth 100000 in
set_option maxHeartbeats 1600000 in
theorem markInts_r8 {K : Act → World → Prop} {Q : Exit → Act → World → Prop} {a : Act} {w : World} {k : Nat} (hs : a.tmps.size = 188) (hd : a.defers = []) (xk : a.eval (.tmp 6) = vi (k : Nat)) (hk : k ≤ 1000000)
    (hEnd : ∀ a', a'.tmps.size = a.tmps.size → a'.defers = a.defers → (∀ s : Nat, s < 10 → s ≠ 6 → a'.eval (.tmp s) = a.eval (.tmp s)) → a'.eval (.tmp 6) = vi ((k + 1 : Nat) : Int) → K a' w) :
    (Code.region 8 (opsOf 8 Tryz.f139.body) false).wp Tryz.prog (Exit.then K Q) a w := by
  obtain ⟨cc, rfl, hcc⟩ := expand188 hs hd
  have y : cc 6 = .int .i64 (k : Nat) := (hcc 6).trans xk
  have HE : Hid _ := hEnd
  clear hEnd xk hcc hs hd
  conv => arg 2; whnf
  unfold lit188 at *
  simp only [y] at *
  go_wp2
  show K _ _
  refine HE.out _ rfl rfl (fun s hs hc => ?_) (by show Value.int .i64 ((k : Int) + 1) = vi ((k + 1 : Nat) : Int); simp)
  match s, hs, hc with
    | 0, _, _ => rfl
    | 1, _, _ => rfl
    | 2, _, _ => rfl
    | 3, _, _ => rfl
    | 4, _, _ => rfl
    | 5, _, _ => rfl
    | 6, _, h => exact absurd rfl h
    | 7, _, _ => rfl
    | 8, _, _ => rfl
    | 9, _, _ => rfl
    | n + 10, hs, _ => exact absurd hs (by simp)
set_option maxRecDepth 100000 in
set_option maxHeartbeats 1600000 in
theorem markInts_r16 {K : Act → World → Prop} {Q : Exit → Act → World → Prop} {a : Act} {w : World} {w1 : World} {bb : Nat} {f : Nat → Value} {l nt : Value} {k m g rc : Nat} (hs : a.tmps.size = 188) (x0 : a.eval (.tmp 0) = pv bb 0) (x7 : a.eval (.tmp 7) = l) (xk : a.eval (.tmp 6) = vi (k : Nat)) (xr_ : a.eval (.tmp 3) = Value.slice (some ⟨g, 0, none⟩) m rc) (hlt : (k : Int) < (m : Int)) (hcell : w.cell? ⟨g, k, none⟩ = some nt) (hy : ∃ sa sn sc, nt = .slice sa sn sc) (hB : BK w bb f) (hB1 : BK w1 bb f) (h0 : f 0 = .bool false) (h1 : f 1 = .bool false) (HC : Calls Tryz.prog 95 #[l, nt] w fun e w'' => e = .returned (.bool true) ∧ w'' = w1)
    (hEnd : ∀ a', a'.tmps.size = a.tmps.size → a'.defers = a.defers → (∀ s : Nat, s < 10 → a'.eval (.tmp s) = a.eval (.tmp s)) → K a' (w1.setCell ⟨bb, 1, none⟩ (.bool false))) :
    (Code.region 16 (opsOf 16 Tryz.f139.body) false).wp Tryz.prog (Exit.then K Q) a w := by
  refine wp_region_line [some 110, some 111, some 112, some 113, some 114, some 115, some 116, some 117, some 118, some 119, some 120, some 121, some 122, some 123, some 124, some 125, some 126, some 127, some 128, some 129, some 130, some 131, some 132, none] (fun kk => match kk with
      | 0 => pv bb 0
      | 1 => pv bb 0
      | 2 => pv bb 0
      | 3 => pv bb 1
      | 4 => Value.bool false
      | 5 => Value.bool false
      | 6 => pv bb 0
      | 7 => pv bb 0
      | 8 => pv bb 0
      | 9 => Value.bool false
      | 10 => Value.bool true
      | 11 => Value.bool true
      | 12 => l
      | 13 => Value.slice (some ⟨g, 0, none⟩) m rc
      | 14 => vi (k : Nat)
      | 15 => pv g k
      | 16 => nt
      | 17 => Value.bool true
      | 18 => Value.bool false
      | 19 => Value.bool false
      | 20 => Value.bool false
      | 21 => pv bb 0
      | 22 => pv bb 1
      | 23 => undef
      | _ => undef) (by rw [hs]; kernel_rfl) [17, 23] (fun jj => match jj with
      | 0 => w
      | 1 => w1
      | _ => w1.setCell ⟨bb, 1, none⟩ (.bool false)) rfl (by first | decide | nofun) (by decide +kernel) ?_ ?_ ?_
  · intro kk gg bq h
    obtain ⟨rfl, rfl⟩ | ⟨rfl, rfl⟩ := two_guards (g0 := 5) (b0 := false) (g1 := 11) (b1 := true) (by kernel_rfl) h
    · exact ⟨false, rfl, fun e => absurd rfl e⟩
    · exact ⟨true, rfl, fun e => absurd rfl e⟩
  · intro kk hk _ o ac wa wb K ho hd _ hoff hv hL hK
    rcases (by simp at hk; omega : kk = 0 ∨ kk = 1 ∨ kk = 2 ∨ kk = 3 ∨ kk = 4 ∨ kk = 5 ∨ kk = 6 ∨ kk = 7 ∨ kk = 8 ∨ kk = 9 ∨ kk = 10 ∨ kk = 11 ∨ kk = 12 ∨ kk = 13 ∨ kk = 14 ∨ kk = 15 ∨ kk = 16 ∨ kk = 17 ∨ kk = 18 ∨ kk = 19 ∨ kk = 20 ∨ kk = 21 ∨ kk = 22 ∨ kk = 23) with rfl | rfl | rfl | rfl | rfl | rfl | rfl | rfl | rfl | rfl | rfl | rfl | rfl | rfl | rfl | rfl | rfl | rfl | rfl | rfl | rfl | rfl | rfl | rfl
    · obtain ⟨rfl, jw, hjw, rfl, hjR⟩ := hL.off (by first | decide | nofun)
      exact l_val hd ((x_move (op_is rfl ho)).trans (by rw [(hoff 0 (by first | decide | nofun)).trans x0]; rfl)) hK
    · obtain ⟨rfl, jw, hjw, rfl, hjR⟩ := hL.off (by first | decide | nofun)
      exact l_val hd ((x_move (op_is rfl ho)).trans (by rw [(hoff 0 (by first | decide | nofun)).trans x0]; rfl)) hK
    · obtain ⟨rfl, jw, hjw, rfl, hjR⟩ := hL.off (by first | decide | nofun)
      exact l_val hd (x_nil (op_is rfl ho) (hv 1 111 rfl (by kernel_rfl))) hK
    · obtain ⟨rfl, jw, hjw, rfl, hjR⟩ := hL.off (by first | decide | nofun)
      exact l_val hd (x_field (op_is rfl ho) (by rw [hv 2 112 rfl (by kernel_rfl)]; unfold pv; go_simp)) hK
    · obtain ⟨rfl, jw, hjw, rfl, hjR⟩ := hL.off (by first | decide | nofun)
      have hj := hjR 0 17 rfl (by first | decide | nofun)
      obtain rfl : jw = 0 := by omega
      exact l_val hd (x_load (op_is rfl ho) (by rw [hv 3 113 rfl (by kernel_rfl)]; exact ld_bool ((hB.cell (i := 1) (by omega)).trans (by rw [h1])))) hK
    · obtain ⟨rfl, jw, hjw, rfl, hjR⟩ := hL.off (by first | decide | nofun)
      exact l_val hd ((x_move (op_is rfl ho)).trans (by rw [hv 4 114 rfl (by kernel_rfl)]; rfl)) hK
    · obtain ⟨rfl, jw, hjw, rfl, hjR⟩ := hL.off (by first | decide | nofun)
      exact l_val hd ((x_move (op_is rfl ho)).trans (by rw [(hoff 0 (by first | decide | nofun)).trans x0]; rfl)) hK
    · obtain ⟨rfl, jw, hjw, rfl, hjR⟩ := hL.off (by first | decide | nofun)
      exact l_val hd (x_nil (op_is rfl ho) (hv 6 116 rfl (by kernel_rfl))) hK
    · obtain ⟨rfl, jw, hjw, rfl, hjR⟩ := hL.off (by first | decide | nofun)
      exact l_val hd (x_field (op_is rfl ho) (by rw [hv 7 117 rfl (by kernel_rfl)]; unfold pv; go_simp)) hK
    · obtain ⟨rfl, jw, hjw, rfl, hjR⟩ := hL.off (by first | decide | nofun)
      have hj := hjR 0 17 rfl (by first | decide | nofun)
      obtain rfl : jw = 0 := by omega
      exact l_val hd (x_load (op_is rfl ho) (by rw [hv 8 118 rfl (by kernel_rfl)]; exact ld_bool ((hB.cell (i := 0) (by omega)).trans (by rw [h0])))) hK
    · obtain ⟨rfl, jw, hjw, rfl, hjR⟩ := hL.off (by first | decide | nofun)
      exact l_val hd ((x_not (op_is rfl ho) (hv 9 119 rfl (by kernel_rfl))).trans rfl) hK
    · obtain ⟨rfl, jw, hjw, rfl, hjR⟩ := hL.off (by first | decide | nofun)
      exact l_val hd ((x_move (op_is rfl ho)).trans (by rw [hv 10 120 rfl (by kernel_rfl)]; rfl)) hK
    · obtain ⟨rfl, jw, hjw, rfl, hjR⟩ := hL.off (by first | decide | nofun)
      exact l_val hd ((x_move (op_is rfl ho)).trans (by rw [(hoff 7 (by first | decide | nofun)).trans x7]; rfl)) hK
    · obtain ⟨rfl, jw, hjw, rfl, hjR⟩ := hL.off (by first | decide | nofun)
      exact l_val hd ((x_move (op_is rfl ho)).trans (by rw [(hoff 3 (by first | decide | nofun)).trans xr_]; rfl)) hK
    · obtain ⟨rfl, jw, hjw, rfl, hjR⟩ := hL.off (by first | decide | nofun)
      exact l_val hd ((x_move (op_is rfl ho)).trans (by rw [(hoff 6 (by first | decide | nofun)).trans xk]; rfl)) hK
    · obtain ⟨rfl, jw, hjw, rfl, hjR⟩ := hL.off (by first | decide | nofun)
      exact l_val hd (x_index (op_is rfl ho) (by rw [hv 13 123 rfl (by kernel_rfl), hv 14 124 rfl (by kernel_rfl)]; exact idx_lists_Ints hlt)) hK
    · obtain ⟨rfl, jw, hjw, rfl, hjR⟩ := hL.off (by first | decide | nofun)
      have hj := hjR 0 17 rfl (by first | decide | nofun)
      obtain rfl : jw = 0 := by omega
      exact l_val hd (x_load (op_is rfl ho) (by rw [hv 15 125 rfl (by kernel_rfl)]; exact Ints_ldi hy hcell)) hK
    · obtain ⟨rfl, rfl⟩ := hL.at_ (by first | decide | nofun) (j := 0) rfl
      exact l_call hd (op_is rfl ho) (by simp only [List.map_toArray, List.map_cons, List.map_nil, hv 12 122 rfl (by kernel_rfl), hv 16 126 rfl (by kernel_rfl)] <;> rfl) Tryz.func95 (by kernel_rfl) (by rfl) HC hK
    · obtain ⟨rfl, jw, hjw, rfl, hjR⟩ := hL.off (by first | decide | nofun)
      exact l_val hd ((x_not (op_is rfl ho) (hv 17 127 rfl (by kernel_rfl))).trans rfl) hK
    · obtain ⟨rfl, jw, hjw, rfl, hjR⟩ := hL.off (by first | decide | nofun)
      exact l_val (v := .bool false) hd ((x_pick (op_is (p := .pick (.tmp 121) (.tmp 128) (.const (.bool false))) rfl ho) (hv 11 121 rfl (by kernel_rfl))).trans (by show Result.ok (Next.value (ac.eval (.tmp 128))) _ = _; rw [hv 18 128 rfl (by kernel_rfl)]; rfl)) hK
    · obtain ⟨rfl, jw, hjw, rfl, hjR⟩ := hL.off (by first | decide | nofun)
      exact l_val (v := .bool false) hd ((x_pick (op_is (p := .pick (.tmp 115) (.const (.bool true)) (.tmp 129)) rfl ho) (hv 5 115 rfl (by kernel_rfl))).trans (by show Result.ok (Next.value (ac.eval (.tmp 129))) _ = _; rw [hv 19 129 rfl (by kernel_rfl)]; rfl)) hK
    · obtain ⟨rfl, jw, hjw, rfl, hjR⟩ := hL.off (by first | decide | nofun)
      exact l_val hd (x_nil (op_is rfl ho) (hv 0 110 rfl (by kernel_rfl))) hK
    · obtain ⟨rfl, jw, hjw, rfl, hjR⟩ := hL.off (by first | decide | nofun)
      exact l_val hd (x_field (op_is rfl ho) (by rw [hv 21 131 rfl (by kernel_rfl)]; unfold pv; go_simp)) hK
    · obtain ⟨rfl, rfl⟩ := hL.at_ (by first | decide | nofun) (j := 1) rfl
      exact l_skip hd (x_store (op_is rfl ho) (by rw [hv 22 132 rfl (by kernel_rfl), hv 20 130 rfl (by kernel_rfl)]; exact st_bool (hB1.cell (i := 1) (by omega)) (hB1.froz 1))) hK
  · intro a1 g1 g2 g3 g4
    exact hEnd a1 g1 g2 (fun s hs' => ev_same (g3 s (not_low hs' (by first | decide | nofun))))
end Go.Proofs.YtjbhnpofdafmbaaGreatDoor

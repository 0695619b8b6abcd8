/- A frame, spelled out. -/
import Derived.Test.YtjbhnpofdafmbaaGreatDoorJ13
import Derived.Test.YtjbhnpofdafmbaaGreatDoorJ26
import Derived.Test.YtjbhnpofdafmbaaGreatDoorJ29
import Derived.Test.YtjbhnpofdafmbaaGreatDoorJ31
import Derived.Test.YtjbhnpofdafmbaaGreatDoorJ15
import Derived.Test.YtjbhnpofdafmbaaGreatDoorJ27
import Derived.Test.YtjbhnpofdafmbaaGreatDoorJ17
namespace Go.Proofs.YtjbhnpofdafmbaaGreatDoor
open Go.RowKit
def lit38 (c : Nat → Value) : Array Value := #[c 0, c 1, c 2, c 3, c 4, c 5, c 6, c 7, c 8, c 9, c 10, c 11, c 12, c 13, c 14, c 15, c 16, c 17, c 18, c 19, c 20, c 21, c 22, c 23, c 24, c 25, c 26, c 27, c 28, c 29, c 30, c 31, c 32, c 33, c 34, c 35, c 36, c 37]
set_option maxRecDepth 100000 in
theorem lit38_eq (c : Nat → Value) : lit38 c = ((List.range 38).map c).toArray := by rfl
theorem expand38 {a : Act} (hs : a.tmps.size = 38) (hd : a.defers = []) : ∃ c : Nat → Value, a = ⟨lit38 c, []⟩ ∧ ∀ s, c s = a.eval (.tmp s) := by
  refine ⟨fun s => a.tmps.getD s undef, ?_, fun s => rfl⟩
  obtain ⟨t, d⟩ := a
  simp only at hs hd
  subst hd
  congr 1
  rw [lit38_eq]
  refine Array.ext (by simp [hs]) fun i h1 h2 => ?_
  simp [Array.getD, h1]
end Go.Proofs.YtjbhnpofdafmbaaGreatDoor
/- Package pool's Slots, by contract. -/
namespace Go.Proofs.YtjbhnpofdafmbaaGreatDoor
open Go.RowKit
theorem infoASlot : (Tryz.prog.info? 64).map (fun i => (i.zero, i.size, i.bytes)) = some (some (.agg #[.int .i64 0, .int .i64 0, .int .i64 0, .int .i64 0, .int .i64 0, .int .i64 0, .int .i64 0]), 7, 56) := by kernel_rfl
theorem undASlots : Tryz.prog.underlying 58 = some (.slice 64) := by kernel_rfl
abbrev zeros7 : Array Value := #[.int .i64 0, .int .i64 0, .int .i64 0, .int .i64 0, .int .i64 0, .int .i64 0, .int .i64 0]
theorem run_makeASlots (n : Nat) (h : n ≤ 1000000) (w : World) :
    (Instr.makeSlice 58 (.int .i64 n) (.int .i64 n)).run Tryz.prog w = .ok (.slice (some ⟨w.heap.size, 0, none⟩) n n) (w.alloc (.cells (madeCells zeros7 (n * 7)) 64)) := by
  obtain ⟨i, hi, hzz⟩ := Option.map_eq_some_iff.1 infoASlot
  simp only [Prod.mk.injEq] at hzz
  obtain ⟨hz, hs, hb⟩ := hzz
  have hr := run_make (P := Tryz.prog) w 58 64 i _ undASlots hi hz .i64 .i64 ((n : Nat) : Int) ((n : Nat) : Int) (by omega) (Int.le_refl _) (by rw [hb]; omega) (by omega)
  simp only [Int.toNat_natCast, hs] at hr
  exact hr
/-- The first t are told. -/
def sTab (f : Nat → Slot) (t : Nat) (j k : Nat) : Value := if j < t then sfld (f (j + 1)) k else .int .i64 0
theorem sTab_zero (f : Nat → Slot) (j k : Nat) : sTab f 0 j k = .int .i64 0 := by simp [sTab]
theorem sTab_next (f : Nat → Slot) (t : Nat) : upd2 (upd2 (upd2 (upd2 (upd2 (upd2 (upd2 (sTab f t) t 0 (sfld (f (t + 1)) 0)) t 1 (sfld (f (t + 1)) 1)) t 2 (sfld (f (t + 1)) 2)) t 3 (sfld (f (t + 1)) 3)) t 4 (sfld (f (t + 1)) 4)) t 5 (sfld (f (t + 1)) 5)) t 6 (sfld (f (t + 1)) 6) = fun j k => if k < 7 then sTab f (t + 1) j k else sTab f t j k := by
  funext j k
  unfold upd2 sTab
  by_cases e : j = t
  · subst e
    match k with
    | 0 => simp
    | 1 => simp
    | 2 => simp
    | 3 => simp
    | 4 => simp
    | 5 => simp
    | 6 => simp
    | k + 7 =>
      have : ¬ k + 7 < 7 := by omega
      simp [this]
  · have : (j < t + 1) = (j < t) := propext ⟨fun h => by omega, fun h => by omega⟩
    simp [e, this]
section
variable {w : World} {p sb pb nb : Nat} {L : Nat → Nat} {s : PSt}
/-- A row of the list is laid. -/
theorem slots_put {wx : World} {g n t : Nat} {f : Nat → Slot} (h : wx.heap[g]? = some (recObj 64 7 (sTab f t) n)) :
    (((((((wx.setCell ⟨g, t * 7, none⟩ (sfld (f (t + 1)) 0)).setCell ⟨g, t * 7 + 1, none⟩ (sfld (f (t + 1)) 1)).setCell ⟨g, t * 7 + 2, none⟩ (sfld (f (t + 1)) 2)).setCell ⟨g, t * 7 + 3, none⟩ (sfld (f (t + 1)) 3)).setCell ⟨g, t * 7 + 4, none⟩ (sfld (f (t + 1)) 4)).setCell ⟨g, t * 7 + 5, none⟩ (sfld (f (t + 1)) 5)).setCell ⟨g, t * 7 + 6, none⟩ (sfld (f (t + 1)) 6)).heap[g]? = some (recObj 64 7 (sTab f (t + 1)) n) := by
  have h0 := rec_put h (i := t) (j := 0) (by decide) (sfld (f (t + 1)) 0)
  have h1 := rec_put h0 (i := t) (j := 1) (by decide) (sfld (f (t + 1)) 1)
  have h2 := rec_put h1 (i := t) (j := 2) (by decide) (sfld (f (t + 1)) 2)
  have h3 := rec_put h2 (i := t) (j := 3) (by decide) (sfld (f (t + 1)) 3)
  have h4 := rec_put h3 (i := t) (j := 4) (by decide) (sfld (f (t + 1)) 4)
  have h5 := rec_put h4 (i := t) (j := 5) (by decide) (sfld (f (t + 1)) 5)
  have h6 := rec_put h5 (i := t) (j := 6) (by decide) (sfld (f (t + 1)) 6)
  rw [sTab_next] at h6
  refine h6.trans (congrArg some (rec_congr (by decide) fun j k hk => ?_))
  rw [if_pos hk]
set_option maxRecDepth 100000 in
set_option maxHeartbeats 1600000 in
theorem cPSlots (h : PA w p sb pb nb L s) (hn : s.n ≤ 4096) : Calls Tryz.prog 14 #[.pointer (some ⟨p, 0, none⟩)] w fun e w' => e = .returned (.slice (some ⟨w.heap.size, 0, none⟩) s.n s.n) ∧ Turned [] w w' ∧ w'.heap[w.heap.size]? = some (recObj 64 7 (sTab s.slot s.n) s.n) := by
  have hmk := run_makeASlots s.n (by omega) w
  have c0 := cell_at h.pool 0
  simp at c0
  have hm : (.cells (madeCells zeros7 (s.n * 7)) 64 : Obj) = recObj 64 7 (sTab s.slot 0) s.n := by
    rw [show s.n * 7 = s.n * zeros7.size from rfl, rec_made]
    exact rec_congr (by decide) fun j k hk => by
      rw [sTab_zero]
      match k, hk with
      | 0, _ => rfl
      | 1, _ => rfl
      | 2, _ => rfl
      | 3, _ => rfl
      | 4, _ => rfl
      | 5, _ => rfl
      | 6, _ => rfl
  have H0 : Hid (Turned [] w (w.alloc (.cells (madeCells zeros7 (s.n * 7)) 64)) ∧ (w.alloc (.cells (madeCells zeros7 (s.n * 7)) 64)).heap[w.heap.size]? = some (recObj 64 7 (sTab s.slot 0) s.n)) := ⟨(Turned.refl _ _).alloc _, (blk_new w _).trans (congrArg some hm)⟩
  clear hm
  have HPA : Hid _ := h
  go_enter Tryz.func14, Tryz.ntmps14
  go_wp2
  go_loopw [14] (fun i wx => ∃ t : Nat, t ≤ s.n ∧ i = .int .i64 t ∧ Hid (Turned [] w wx ∧ wx.heap[w.heap.size]? = some (recObj 64 7 (sTab s.slot t) s.n))) (fun i _ => s.n - (intOf i).toNat)
  case atStart => exact ⟨0, Nat.zero_le _, rfl, H0⟩
  case round =>
    obtain ⟨t, ht, rfl, HT⟩ := hrel
    clear H0 h c0 hmk
    have hP : PA wr p sb pb nb L s := HPA.out.keep HT.out.1 (by simp)
    have c0 := cell_at hP.pool 0
    simp at c0
    by_cases hlt : t < s.n
    · have hlt2 : (t : Int) + 1 < (s.n : Int) + 1 := by omega
      have hlt3 : (t : Int) < (s.n : Int) := by omega
      have hlt4 : ((t + 1 : Nat) : Int) < (s.n : Int) + 1 := by omega
      have HLd := cPLoad (ptr_cell hP.slots (k := t + 1) (by omega)) (hP.life (t + 1) (by omega)) rfl
      have HTd := cTold (hP.life (t + 1) (by omega))
      have hgl := lt_of_heap HT.out.2
      have hgne : ¬ w.heap.size = wr.heap.size := by omega
      have z := froz_at HT.out.2
      have q0 : wr.cell? ⟨w.heap.size, t * 7, none⟩ = some (.int .i64 0) := (rec_cell HT.out.2 hlt (j := 0) (by decide)).trans (by simp [sTab])
      have q1 : wr.cell? ⟨w.heap.size, t * 7 + 1, none⟩ = some (.int .i64 0) := (rec_cell HT.out.2 hlt (j := 1) (by decide)).trans (by simp [sTab])
      have q2 : wr.cell? ⟨w.heap.size, t * 7 + 2, none⟩ = some (.int .i64 0) := (rec_cell HT.out.2 hlt (j := 2) (by decide)).trans (by simp [sTab])
      have q3 : wr.cell? ⟨w.heap.size, t * 7 + 3, none⟩ = some (.int .i64 0) := (rec_cell HT.out.2 hlt (j := 3) (by decide)).trans (by simp [sTab])
      have q4 : wr.cell? ⟨w.heap.size, t * 7 + 4, none⟩ = some (.int .i64 0) := (rec_cell HT.out.2 hlt (j := 4) (by decide)).trans (by simp [sTab])
      have q5 : wr.cell? ⟨w.heap.size, t * 7 + 5, none⟩ = some (.int .i64 0) := (rec_cell HT.out.2 hlt (j := 5) (by decide)).trans (by simp [sTab])
      have q6 : wr.cell? ⟨w.heap.size, t * 7 + 6, none⟩ = some (.int .i64 0) := (rec_cell HT.out.2 hlt (j := 6) (by decide)).trans (by simp [sTab])
      go_wp2_with (first
        | (go_at_call 58; refine HLd.mono ?_; rintro e w' ⟨rfl, hw⟩; obtain rfl := hw.symm)
        | (go_at_call 65; refine HTd.mono ?_; rintro e w' ⟨rfl, rfl⟩))
      have m : w.heap.size ∈ ([] : List Nat) ∨ w.heap.size ≤ w.heap.size := .inr (Nat.le_refl _)
      exact ⟨⟨t + 1, by omega, by go_num, ⟨((((((((HT.out.1.set m _ _).set m _ _).set m _ _).set m _ _).set m _ _).set m _ _).set m _ _).alloc _).drew, blk_old (slots_put HT.out.2) _⟩⟩, by simp [intOf]; omega⟩
    · have : t = s.n := by omega
      subst this
      go_wp2
      go_ret
      exact ⟨rfl, HT.out.1, HT.out.2⟩
end
end Go.Proofs.YtjbhnpofdafmbaaGreatDoor
/- The document's pool alone: Slots. -/
namespace Go.Proofs.YtjbhnpofdafmbaaGreatDoor
open Go.RowKit
set_option maxRecDepth 100000 in
set_option maxHeartbeats 1600000 in
theorem rslots_r6 {K : Act → World → Prop} {Q : Exit → Act → World → Prop} {a : Act} {w : World} {i xb : Nat} {r : RB} {s : PSt} {u : Value} (hs : a.tmps.size = 38) (x0 : a.eval (.tmp 0) = pv r.q 0) (x4 : a.eval (.tmp 4) = vi (i : Nat)) (x5 : a.eval (.tmp 5) = pv xb 0) (hR : RP w r s) (hn : s.n ≤ 4096) (hi : i ≤ s.n) (hX : w.cell? ⟨xb, 0, none⟩ = some u) (hZ : w.frozen? ⟨xb, 0, none⟩ = false)
    (hEnd : ∀ a1 w1, a1.tmps.size = a.tmps.size → a1.defers = a.defers → (∀ s : Nat, s < 6 → a1.eval (.tmp s) = a.eval (.tmp s)) → (w1 = w.drew.setCell ⟨xb, 0, none⟩ (.int .i64 (s.slot i).gen)) → K a1 w1) :
    (Code.region 6 (opsOf 6 Tryz.f36.body) true).wp Tryz.prog (Exit.then K Q) a w := by
  refine wp_region_chainP (by kernel_rfl) [some 21, some 22, some 23, some 24, some 25, some 26, some 27, some 28, some 29, some 30, some 31, some 32, none] (fun kk => match kk with
      | 0 => pv r.q 0
      | 1 => pv r.q 0
      | 2 => pv r.q 0
      | 3 => pv r.m 0
      | 4 => pv r.q 0
      | 5 => pv r.q 0
      | 6 => pv r.q 2
      | 7 => vi ((s.n : Int) + 2)
      | 8 => vi (i : Nat)
      | 9 => vi ((s.n + 2 + i : Nat) : Int)
      | 10 => vi (s.slot i).gen
      | 11 => pv xb 0
      | 12 => undef
      | _ => undef) (by rw [hs]; kernel_rfl) [12] (fun jj => match jj with
      | 0 => fun x => x = w.drew
      | _ => fun x => x = w.drew.setCell ⟨xb, 0, none⟩ (.int .i64 (s.slot i).gen)) rfl (by decide) (by decide +kernel) ?_ ?_ ?_
  · intro kk gg bq h
    exact (no_guard (by kernel_rfl) h).elim
  · intro kk hk _ o ac wa M K ho hd _ hoff hv hpre hL hK
    rcases (by simp at hk; omega : kk = 0 ∨ kk = 1 ∨ kk = 2 ∨ kk = 3 ∨ kk = 4 ∨ kk = 5 ∨ kk = 6 ∨ kk = 7 ∨ kk = 8 ∨ kk = 9 ∨ kk = 10 ∨ kk = 11 ∨ kk = 12) with rfl | rfl | rfl | rfl | rfl | rfl | rfl | rfl | rfl | rfl | rfl | rfl | rfl
    · obtain ⟨hM, jw, hjw, hW, hjR⟩ := hL.off (by decide)
      replace hK := hK _ hM
      exact l_val hd ((x_move (op_is rfl ho)).trans (by rw [(hoff 0 (by decide)).trans x0]; rfl)) hK
    · obtain ⟨hM, jw, hjw, hW, hjR⟩ := hL.off (by decide)
      replace hK := hK _ hM
      exact l_val hd (x_nil (op_is rfl ho) (hv 0 21 rfl (by kernel_rfl))) hK
    · obtain ⟨hM, jw, hjw, hW, hjR⟩ := hL.off (by decide)
      replace hK := hK _ hM
      exact l_val hd (x_field (op_is rfl ho) (by rw [hv 1 22 rfl (by kernel_rfl)]; unfold pv; go_simp)) hK
    · obtain ⟨hM, jw, hjw, hW, hjR⟩ := hL.off (by decide)
      replace hK := hK _ hM
      have hj := hjR 0 12 rfl (by decide +kernel)
      obtain rfl : jw = 0 := by omega
      exact l_val hd (x_load (op_is rfl ho) (by rw [hv 2 23 rfl (by kernel_rfl)]; refine ld_mem ?_; exact (show wa = w.drew from hW) ▸ hR.c0)) hK
    · obtain ⟨hM, jw, hjw, hW, hjR⟩ := hL.off (by decide)
      replace hK := hK _ hM
      exact l_val hd ((x_move (op_is rfl ho)).trans (by rw [(hoff 0 (by decide)).trans x0]; rfl)) hK
    · obtain ⟨hM, jw, hjw, hW, hjR⟩ := hL.off (by decide)
      replace hK := hK _ hM
      exact l_val hd (x_nil (op_is rfl ho) (hv 4 25 rfl (by kernel_rfl))) hK
    · obtain ⟨hM, jw, hjw, hW, hjR⟩ := hL.off (by decide)
      replace hK := hK _ hM
      exact l_val hd (x_field (op_is rfl ho) (by rw [hv 5 26 rfl (by kernel_rfl)]; unfold pv; go_simp)) hK
    · obtain ⟨hM, jw, hjw, hW, hjR⟩ := hL.off (by decide)
      replace hK := hK _ hM
      have hj := hjR 0 12 rfl (by decide +kernel)
      obtain rfl : jw = 0 := by omega
      exact l_val hd (x_load (op_is rfl ho) (by rw [hv 6 27 rfl (by kernel_rfl)]; refine ld_int ?_; exact (show wa = w.drew from hW) ▸ hR.c2)) hK
    · obtain ⟨hM, jw, hjw, hW, hjR⟩ := hL.off (by decide)
      replace hK := hK _ hM
      exact l_val hd ((x_move (op_is rfl ho)).trans (by rw [(hoff 4 (by decide)).trans x4]; rfl)) hK
    · obtain ⟨hM, jw, hjw, hW, hjR⟩ := hL.off (by decide)
      replace hK := hK _ hM
      exact l_val (v := vi ((s.n + 2 + i : Nat) : Int)) hd ((x_addc (op_is rfl ho) (hv 7 28 rfl (by kernel_rfl)) (hv 8 29 rfl (by kernel_rfl)) (by omega) (by omega)).trans (by rw [show ((s.n : Int) + 2 + (i : Int)) = ((s.n + 2 + i : Nat) : Int) by omega])) hK
    · obtain ⟨hM, jw, hjw, hW, hjR⟩ := hL.off (by decide)
      replace hK := hK _ hM
      have hj := hjR 0 12 rfl (by decide +kernel)
      obtain rfl : jw = 0 := by omega
      have hW : wa = w.drew := hW
      subst hW
      exact l_call hd (op_is rfl ho) (by simp only [List.map_toArray, List.map_cons, List.map_nil, hv 3 24 rfl (by kernel_rfl), hv 9 30 rfl (by kernel_rfl)] <;> rfl) Tryz.func73 (by kernel_rfl) (by rfl) ((by have h := cRGet (a := s.n + 2 + i) hR.drew.mem (by omega); rwa [memF_g] at h)) hK
    · obtain ⟨hM, jw, hjw, hW, hjR⟩ := hL.off (by decide)
      replace hK := hK _ hM
      exact l_val hd (x_field (op_is rfl ho) (by rw [(hoff 5 (by decide)).trans x5]; unfold pv; go_simp)) hK
    · obtain ⟨hW, rfl⟩ := hL.at_ (by decide) (j := 0) rfl
      have hW : wa = w.drew := hW
      subst hW
      exact l_skip hd (x_store (op_is rfl ho) (by rw [hv 11 32 rfl (by kernel_rfl), hv 10 31 rfl (by kernel_rfl)]; exact st_int (w := w.drew) hX hZ)) (hK _ rfl)
  · intro a1 g1 g2 g3 g4 w1 hW
    exact hEnd a1 w1 g1 g2 (fun s hs'  => ev_same (g3 s (fun hm => by simp at hm; omega))) hW
section
variable {w : World} {r : RB} {s : PSt}
def srow (S : Slot) : List Int := [S.gen, S.a, S.b, S.c, S.d, S.mark, S.link]
/-- The first t slots, number by number. -/
def slotNums (f : Nat → Slot) : Nat → List Int
  | 0 => []
  | t + 1 => slotNums f t ++ srow (f (t + 1))
theorem wpList_pushSlot {w : World} {ops : Array Oper} {rest : List Oper} {o : Oper} {a : Act} {Q : Exit → Act → World → Prop} {B : Nat} {v : Value} {m : Nat} {xs : List Value} (hgd : o.guard = none) (x y : Operand) (ho : o.op = .call { callee := .builtin .append, args := #[x, y], argTypes := #[58, 58] })
    (hs : a.eval x = v) (hown : w.ownsRow B 64 7 v m xs) (g c : Nat) (S : Slot) (hy : a.eval y = .slice (some ⟨g, 0, none⟩) 1 c) (hg : w.heap[g]? = some (.cells (toldC S) 64 (0, 0))) (hm : m ≤ 1000000) (hB : B ≤ w.heap.size)
    (h : ∀ v' w', w'.ownsRow B 64 7 v' (m + 1) (xs ++ (srow S).map (.int .i64 ·)) → w.grownBy w' v.ownBlock → wpList Tryz.prog ops Q rest (a.put o.dst v') w') : wpList Tryz.prog ops Q (o :: rest) a w := by
  obtain ⟨i, hi, hzz⟩ := Option.map_eq_some_iff.1 infoASlot
  simp only [Prod.mk.injEq] at hzz
  obtain ⟨hz, hs1, hb⟩ := hzz
  refine wpList_append_own w hgd x y 58 ho B 64 i _ 7 56 undASlots hi hz hs1 hb rfl (by decide) v m xs hs hown ⟨g, 0, none⟩ 1 c ((srow S).map (.int .i64 ·)) hy rfl ?_ ?_ (by unfold maxLen; omega) (by omega) hB fun v' w' h2 h3 _ => h v' w' h2 h3
  · intro j u hj
    have hadd : (⟨g, 0, none⟩ : Addr).add j = ⟨g, j, none⟩ := by unfold Addr.add; split <;> simp_all
    rw [hadd, cell_at hg]
    match j, hj with
    | 0, hj => exact hj
    | 1, hj => exact hj
    | 2, hj => exact hj
    | 3, hj => exact hj
    | 4, hj => exact hj
    | 5, hj => exact hj
    | 6, hj => exact hj
    | n + 7, hj => simp [srow] at hj
  · intro u hu
    simp only [srow, List.map_cons, List.map_nil, List.mem_cons, List.not_mem_nil, or_false] at hu
    rcases hu with rfl | rfl | rfl | rfl | rfl | rfl | rfl <;> rfl
theorem Row.ge {w : World} {B e sz n : Nat} {v : Value} {xs : List Value} (h : w.ownsRow B e sz v n xs) {g : Nat} (hg : v.ownBlock = some g) : B ≤ g := by
  rcases h.2 with ⟨rfl, -⟩ | ⟨g', cap, cur, rfl, h1, -⟩
  · simp [Value.ownBlock] at hg
  · simp [Value.ownBlock] at hg
    omega
theorem Row.alloc {w : World} {B e sz n : Nat} {v : Value} {xs : List Value} (h : w.ownsRow B e sz v n xs) (o : Obj) : (w.alloc o).ownsRow B e sz v n xs := Row.keep h ((Turned.refl [] w).alloc o) (by simp)
theorem Turned.grown {l : List Nat} {a b c : World} (h : Turned l a b) {v : Value} (hg : b.grownBy c v.ownBlock) (hv : ∀ g, v.ownBlock = some g → g ∈ l ∨ a.heap.size ≤ g) : Turned l a c :=
  h.inner (m := v.ownBlock.toList) (Turned.grew hg) (fun x hx => hv x (by simpa using hx))
structure RSl (w : World) (r : RB) (s : PSt) (a' : Act) (w' : World) : Prop where
  ex : ∃ (t : Nat) (v : Value), t ≤ s.n ∧ a'.tmps.size = 38 ∧ a'.defers = [] ∧ a'.eval (.tmp 0) = pv r.q 0 ∧ a'.eval (.tmp 3) = v ∧ a'.eval (.tmp 4) = .int .i64 ((t + 1 : Nat) : Int) ∧ Turned [] w w' ∧ w'.ownsRow w.heap.size 64 7 v t ((slotNums s.slot t).map (.int .i64 ·))
set_option maxRecDepth 100000 in
set_option maxHeartbeats 3200000 in
theorem cRSlots (hR : RP w r s) (hn : s.n ≤ 4096) : Calls Tryz.prog 36 #[.pointer (some ⟨r.q, 0, none⟩)] w fun e w' => ∃ v, e = .returned v ∧ Turned [] w w' ∧ w'.ownsRow w.heap.size 64 7 v s.n ((slotNums s.slot s.n).map (.int .i64 ·)) := by
  have HR : Hid _ := hR
  clear hR
  go_enter Tryz.func36, Tryz.ntmps36
  go_wp2
  rename_i K hK
  refine wp_loop (RSl w r s) (fun a' _ => s.n + 1 - (intOf (a'.eval (.tmp 4))).toNat) ?_ ?_
  · exact ⟨0, .slice none 0 0, Nat.zero_le _, rfl, rfl, rfl, rfl, rfl, Turned.refl _ _, World.ownsRow_nil _ _ _ _⟩
  rintro a2 w2 ⟨t, v, ht, hs2, hd2, x0, x3, x4, hT, hv⟩
  obtain ⟨cc, rfl, hcc⟩ := expand38 hs2 hd2
  have y0 : cc 0 = .pointer (some ⟨r.q, 0, none⟩) := (hcc 0).trans x0
  have y3 : cc 3 = v := (hcc 3).trans x3
  have y4 : cc 4 = .int .i64 ((t : Int) + 1) := (hcc 4).trans (x4.trans (by simp))
  have hm0 : (intOf (.int .i64 ((t + 1 : Nat) : Int))).toNat = t + 1 := by simp [intOf]
  rw [x4, hm0]
  clear hcc x0 x3 x4 hs2 hd2
  obtain ⟨va, vc, rfl⟩ := Row.shape hv
  have hR2 := HR.out.turned hT (by simp)
  have p3 := hR2.c3
  have HT : Hid _ := hT
  have HV : Hid _ := hv
  unfold lit38
  simp only [y0, y3, y4]
  clear y0 y3 y4
  by_cases hlt : t < s.n
  · have dl : decide ((t : Int) + 1 ≤ (s.n : Int)) = true := decide_eq_true (by omega)
    have p4 := hR2.c4
    have hlt2 : (t : Int) + 1 < (s.n : Int) + 1 := by omega
    have q0 : w2.cell? ⟨r.b, (t + 1) * 7, none⟩ = some (.int .i64 0) := hR2.sl (i := t + 1) (by omega) (k := 0) (by decide)
    have q1 : w2.cell? ⟨r.b, (t + 1) * 7 + 1, none⟩ = some (.int .i64 (s.slot (t + 1)).a) := hR2.sl (i := t + 1) (by omega) (k := 1) (by decide)
    have q2 : w2.cell? ⟨r.b, (t + 1) * 7 + 2, none⟩ = some (.int .i64 (s.slot (t + 1)).b) := hR2.sl (i := t + 1) (by omega) (k := 2) (by decide)
    have q3 : w2.cell? ⟨r.b, (t + 1) * 7 + 3, none⟩ = some (.int .i64 (s.slot (t + 1)).c) := hR2.sl (i := t + 1) (by omega) (k := 3) (by decide)
    have q4 : w2.cell? ⟨r.b, (t + 1) * 7 + 4, none⟩ = some (.int .i64 (s.slot (t + 1)).d) := hR2.sl (i := t + 1) (by omega) (k := 4) (by decide)
    have q5 : w2.cell? ⟨r.b, (t + 1) * 7 + 5, none⟩ = some (.int .i64 (s.slot (t + 1)).mark) := hR2.sl (i := t + 1) (by omega) (k := 5) (by decide)
    have q6 : w2.cell? ⟨r.b, (t + 1) * 7 + 6, none⟩ = some (.int .i64 (s.slot (t + 1)).link) := hR2.sl (i := t + 1) (by omega) (k := 6) (by decide)
    clear hR2 hT hv
    go_wp2
    rename_i K1 hK1 K2 hK2
    have hO := blk_new w2 (.cells #[.int .i64 0, .int .i64 (s.slot (t + 1)).a, .int .i64 (s.slot (t + 1)).b, .int .i64 (s.slot (t + 1)).c, .int .i64 (s.slot (t + 1)).d, .int .i64 (s.slot (t + 1)).mark, .int .i64 (s.slot (t + 1)).link] 64)
    refine rslots_r6 (i := t + 1) (xb := w2.heap.size) rfl rfl (by show Value.int .i64 ((t : Int) + 1) = .int .i64 ((t + 1 : Nat) : Int); simp) rfl ((HR.out.turned HT.out (by simp)).alloc _) hn (by omega) (u := .int .i64 0) (by simp) (froz_at hO 0) ?_
    rintro a3 w3 s3 d3 e3 rfl
    have hO3 : (((w2.alloc (.cells #[.int .i64 0, .int .i64 (s.slot (t + 1)).a, .int .i64 (s.slot (t + 1)).b, .int .i64 (s.slot (t + 1)).c, .int .i64 (s.slot (t + 1)).d, .int .i64 (s.slot (t + 1)).mark, .int .i64 (s.slot (t + 1)).link] 64)).drew).setCell ⟨w2.heap.size, 0, none⟩ (.int .i64 (s.slot (t + 1)).gen)).heap[w2.heap.size]? = some (.cells (toldC (s.slot (t + 1))) 64 (0, 0)) := by
      have := blk_set (w := (w2.alloc (.cells #[.int .i64 0, .int .i64 (s.slot (t + 1)).a, .int .i64 (s.slot (t + 1)).b, .int .i64 (s.slot (t + 1)).c, .int .i64 (s.slot (t + 1)).d, .int .i64 (s.slot (t + 1)).mark, .int .i64 (s.slot (t + 1)).link] 64)).drew) hO 0 (.int .i64 (s.slot (t + 1)).gen)
      simpa using this
    have hT3 : Turned [] w2 (((w2.alloc (.cells #[.int .i64 0, .int .i64 (s.slot (t + 1)).a, .int .i64 (s.slot (t + 1)).b, .int .i64 (s.slot (t + 1)).c, .int .i64 (s.slot (t + 1)).d, .int .i64 (s.slot (t + 1)).mark, .int .i64 (s.slot (t + 1)).link] 64)).drew).setCell ⟨w2.heap.size, 0, none⟩ (.int .i64 (s.slot (t + 1)).gen)) := (((Turned.refl [] w2).alloc _).drew).set (.inr (Nat.le_refl _)) _ _
    generalize (((w2.alloc (.cells #[.int .i64 0, .int .i64 (s.slot (t + 1)).a, .int .i64 (s.slot (t + 1)).b, .int .i64 (s.slot (t + 1)).c, .int .i64 (s.slot (t + 1)).d, .int .i64 (s.slot (t + 1)).mark, .int .i64 (s.slot (t + 1)).link] 64)).drew).setCell ⟨w2.heap.size, 0, none⟩ (.int .i64 (s.slot (t + 1)).gen)) = w3 at hO3 hT3 ⊢
    have hv3 := Row.keep HV.out hT3 (by simp)
    have HT3 : Hid (Turned [] w w3) := HT.out.trans hT3
    have sb : Hid (w.heap.size ≤ w3.heap.size) := HT3.out.size
    obtain ⟨c2, rfl, hcc⟩ := expand38 s3 d3
    have y0 : c2 0 = .pointer (some ⟨r.q, 0, none⟩) := (hcc 0).trans (e3 0 (by omega))
    have y3 : c2 3 = .slice va t vc := (hcc 3).trans (e3 3 (by omega))
    have y4 : c2 4 = .int .i64 ((t : Int) + 1) := (hcc 4).trans (e3 4 (by omega))
    have y5 : c2 5 = .pointer (some ⟨w2.heap.size, 0, none⟩) := (hcc 5).trans (e3 5 (by omega))
    generalize w2.heap.size = xb at *
    have n0 := cell_at hO3 0
    have n1 := cell_at hO3 1
    have n2 := cell_at hO3 2
    have n3 := cell_at hO3 3
    have n4 := cell_at hO3 4
    have n5 := cell_at hO3 5
    have n6 := cell_at hO3 6
    simp only [List.getElem?_toArray, List.getElem?_cons_zero, List.getElem?_cons_succ] at n0 n1 n2 n3 n4 n5 n6
    have HV3 : Hid _ := hv3
    clear hO hO3 hT3 hcc e3 s3 d3 q0 q1 q2 q3 q4 q5 q6 p3 p4 HV HT hv3
    refine hK2 _ _ ?_
    unfold lit38
    simp only [y0, y3, y4, y5]
    clear y0 y3 y4 y5
    go_wp2_with (at_builtin; refine wpList_pushSlot (xs := (slotNums s.slot t).map (.int .i64 ·)) rfl _ _ rfl rfl (Row.alloc HV3.out _) w3.heap.size 1 (s.slot (t + 1)) rfl (blk_new w3 _) (by omega) (by have := sb.out; simp; omega) ?_; intro v' w4 hr4 hG4; obtain ⟨va4, vc4, rfl⟩ := Row.shape hr4; have HR4 : Hid _ := hr4; have HG4 : Hid _ := hG4; clear hr4 hG4)
    refine ⟨⟨t + 1, _, by omega, rfl, rfl, rfl, rfl, by show Value.int .i64 ((t : Int) + 1 + 1) = _; simp, ?_, ?_⟩, ?_⟩
    · exact (HT3.out.alloc _).grown HG4.out (fun g hg => .inr (Row.ge HV3.out hg))
    · have := HR4.out
      show World.ownsRow _ _ _ _ _ _ ((slotNums s.slot t ++ srow (s.slot (t + 1))).map (.int .i64 ·))
      rw [List.map_append]
      exact this
    · simp [intOf]
      omega
  · obtain rfl : t = s.n := by omega
    have dl : decide ((s.n : Int) + 1 ≤ (s.n : Int)) = false := decide_eq_false (by omega)
    clear hR2 hT hv
    go_wp2
    go_ret
    exact ⟨_, rfl, HT.out, HV.out⟩
end
end Go.Proofs.YtjbhnpofdafmbaaGreatDoor
/- A frame, spelled out. -/
namespace Go.Proofs.YtjbhnpofdafmbaaGreatDoor
open Go.RowKit
def lit49 (c : Nat → Value) : Array Value := #[c 0, c 1, c 2, c 3, c 4, c 5, c 6, c 7, c 8, c 9, c 10, c 11, c 12, c 13, c 14, c 15, c 16, c 17, c 18, c 19, c 20, c 21, c 22, c 23, c 24, c 25, c 26, c 27, c 28, c 29, c 30, c 31, c 32, c 33, c 34, c 35, c 36, c 37, c 38, c 39, c 40, c 41, c 42, c 43, c 44, c 45, c 46, c 47, c 48]
set_option maxRecDepth 100000 in
theorem lit49_eq (c : Nat → Value) : lit49 c = ((List.range 49).map c).toArray := by rfl
theorem expand49 {a : Act} (hs : a.tmps.size = 49) (hd : a.defers = []) : ∃ c : Nat → Value, a = ⟨lit49 c, []⟩ ∧ ∀ s, c s = a.eval (.tmp s) := by
  refine ⟨fun s => a.tmps.getD s undef, ?_, fun s => rfl⟩
  obtain ⟨t, d⟩ := a
  simp only at hs hd
  subst hd
  congr 1
  rw [lit49_eq]
  refine Array.ext (by simp [hs]) fun i h1 h2 => ?_
  simp [Array.getD, h1]
end Go.Proofs.YtjbhnpofdafmbaaGreatDoor
/- The document's pool alone: Gens. -/
namespace Go.Proofs.YtjbhnpofdafmbaaGreatDoor
open Go.RowKit
/-- The first t numbers that f tells. -/
def numsOf (f : Nat → Int) (t : Nat) : List Int := (List.range t).map fun k => f (k + 1)
theorem numsOf_succ (f : Nat → Int) (t : Nat) : (numsOf f (t + 1)).map (Value.int .i64 ·) = (numsOf f t).map (Value.int .i64 ·) ++ [.int .i64 (f (t + 1))] := by
  unfold numsOf
  rw [List.range_succ, List.map_append, List.map_append]
  rfl
section
variable {w x x' x2 : World} {r : RB} {s s0 : PSt} {T T1 T2 l : List Nat} {tb c c2 : Nat}
/-- What is neither the pool's nor the thread's turned. -/
theorem RGo.beside (h : RGo r T w tb c s T1 x) (hR : RP w r s0) (ht : Turned l x x') (hl : ∀ g, g ∈ l → w.heap.size ≤ g ∧ g ∉ T1) : RGo r T w tb c s T1 x' :=
  ⟨h.rp.turned ht (fun g hg hm => by have := (hl g hg).1; have := hR.lt g hm; omega), h.out, h.did.th.turned ht (fun g hg => (hl g hg).2), h.did.wide, h.did.turned.inner ht (fun g hg => .inr (hl g hg).1)⟩
/-- A row of one's own beside the thread. -/
structure Mine (w : World) (T1 : List Nat) (x : World) (v : Value) (n : Nat) (xs : List Value) : Prop where
  row : x.ownsRow 0 3 1 v n xs
  new : ∀ g, v.ownBlock = some g → w.heap.size ≤ g ∧ g ∉ T1
theorem Mine.nil (w : World) (T1 : List Nat) (x : World) : Mine w T1 x (.slice none 0 0) 0 [] := ⟨World.ownsRow_nil _ _ _ _, fun g hg => by simp [Value.ownBlock] at hg⟩
theorem Mine.did {mb : Nat} {v : Value} {n : Nat} {xs : List Value} (h : Mine w T1 x v n xs) (hd : Did [] T1 x tb mb c T2 x2) : Mine w T2 x2 v n xs :=
  ⟨Row.keep h.row hd.turned (fun g hg hm => (h.new g hg).2 (by simpa using hm)), fun g hg => ⟨(h.new g hg).1, by
    obtain ⟨cur, hc⟩ := Row.obj h.row hg
    exact hd.wide.out (lt_of_heap hc) (h.new g hg).2⟩⟩
theorem Mine.turned {v : Value} {n : Nat} {xs : List Value} (h : Mine w T1 x v n xs) (ht : Turned l x x2) (hl : ∀ g, v.ownBlock = some g → g ∉ l) : Mine w T1 x2 v n xs := ⟨Row.keep h.row ht hl, h.new⟩
/-- One more. -/
theorem Mine.push {v v' u : Value} {n : Nat} {xs : List Value} {o : Obj} (h : Mine w T1 x v n xs) (hs : w.heap.size ≤ x.heap.size) (hT : ∀ g, g ∈ T1 → g < x.heap.size) (hr : x2.ownsRow 0 3 1 v' (n + 1) (xs ++ [u])) (hG : Grew (x.alloc o) x2 v v') :
    Mine w T1 x2 v' (n + 1) (xs ++ [u]) ∧ Turned v.ownBlock.toList x x2 ∧ (∀ g, v'.ownBlock = some g → v.ownBlock = some g ∨ x.heap.size ≤ g) := by
  have hn : ∀ g, v'.ownBlock = some g → v.ownBlock = some g ∨ x.heap.size ≤ g := fun g hg => by
    rcases hG.2 with e | ⟨g', e, e2⟩
    · exact .inl (e ▸ hg)
    · rw [hg] at e
      injection e with e
      subst e
      simp at e2
      exact .inr (by omega)
  refine ⟨⟨hr, fun g hg => ?_⟩, ((Turned.refl _ x).alloc o).trans (Turned.grew hG.1), hn⟩
  rcases hn g hg with h1 | h1
  · exact h.new g h1
  · exact ⟨by omega, fun hm => by have := hT g hm; omega⟩
structure GI (w : World) (r : RB) (s : PSt) (T : List Nat) (tb c : Nat) (a' : Act) (w' : World) : Prop where
  ex : ∃ (t : Nat) (T1 : List Nat) (v6 v7 : Value), t ≤ s.n ∧ a'.tmps.size = 49 ∧ a'.defers = [] ∧ a'.eval (.tmp 0) = pv r.q 0 ∧ a'.eval (.tmp 1) = pv tb 0 ∧ a'.eval (.tmp 6) = v6 ∧ a'.eval (.tmp 7) = v7 ∧ a'.eval (.tmp 8) = .int .i64 ((t + 1 : Nat) : Int) ∧ RGo r T w tb (c + 4 * t) s T1 w' ∧ Mine w T1 w' v6 t ((numsOf (fun k => (s.slot k).gen) t).map (.int .i64 ·)) ∧ Mine w T1 w' v7 t ((numsOf (fun k => (s.slot k).mark) t).map (.int .i64 ·)) ∧ (∀ g, v6.ownBlock = some g → v7.ownBlock ≠ some g)
set_option maxRecDepth 100000 in
set_option maxHeartbeats 3200000 in
theorem cRGens (hT : Th T w tb r.m c) (hR : RP w r s) (hn : s.n ≤ 4096) (hc : c ≤ 600000) (hg : r.g ∉ T) : Calls Tryz.prog 86 #[.pointer (some ⟨r.q, 0, none⟩), .pointer (some ⟨tb, 0, none⟩)] w fun e w' => ∃ v6 v7 T1, e = .returned (.tuple #[v6, v7]) ∧ RGo r T w tb (c + 4 * s.n) s T1 w' ∧ Mine w T1 w' v6 s.n ((numsOf (fun k => (s.slot k).gen) s.n).map (.int .i64 ·)) ∧ Mine w T1 w' v7 s.n ((numsOf (fun k => (s.slot k).mark) s.n).map (.int .i64 ·)) ∧ (∀ g, v6.ownBlock = some g → v7.ownBlock ≠ some g) := by
  have HG0 : Hid (RGo r T w tb c s T w) := ⟨hR, hg, Did.refl hT⟩
  have HR : Hid _ := hR
  clear hR hT
  go_enter Tryz.func86, Tryz.ntmps86
  go_wp2
  rename_i K hK
  refine wp_loop (GI w r s T tb c) (fun a' _ => s.n + 1 - (intOf (a'.eval (.tmp 8))).toNat) ?_ ?_
  · exact ⟨0, T, .slice none 0 0, .slice none 0 0, Nat.zero_le _, rfl, rfl, rfl, rfl, rfl, rfl, rfl, HG0.out, Mine.nil _ _ _, Mine.nil _ _ _, fun g hg => by simp [Value.ownBlock] at hg⟩
  rintro a2 w2 ⟨t, T1, v6, v7, ht, hs2, hd2, x0, x1, x6, x7, x8, hgo, m6, m7, m67⟩
  obtain ⟨cc, rfl, hcc⟩ := expand49 hs2 hd2
  have y0 : cc 0 = .pointer (some ⟨r.q, 0, none⟩) := (hcc 0).trans x0
  have y1 : cc 1 = .pointer (some ⟨tb, 0, none⟩) := (hcc 1).trans x1
  have y6 : cc 6 = v6 := (hcc 6).trans x6
  have y7 : cc 7 = v7 := (hcc 7).trans x7
  have y8 : cc 8 = .int .i64 ((t : Int) + 1) := (hcc 8).trans (x8.trans (by simp))
  have hm0 : (intOf (.int .i64 ((t + 1 : Nat) : Int))).toNat = t + 1 := by simp [intOf]
  rw [x8, hm0]
  clear hcc x0 x1 x6 x7 x8 hs2 hd2 HG0
  obtain ⟨a6, c6, rfl⟩ := Row.shape m6.row
  obtain ⟨a7, c7, rfl⟩ := Row.shape m7.row
  have p3 := hgo.rp.c3
  have HGo : Hid _ := hgo
  have M6 : Hid _ := m6
  have M7 : Hid _ := m7
  have M67 : Hid _ := m67
  clear m6 m7 m67
  unfold lit49
  simp only [y0, y1, y6, y7, y8]
  clear y0 y1 y6 y7 y8
  by_cases hlt : t < s.n
  · have dl : decide ((t : Int) + 1 ≤ (s.n : Int)) = true := decide_eq_true (by omega)
    have p2 := hgo.rp.c2
    have hlt2 : (t : Int) + 1 < (s.n : Int) + 1 := by omega
    have HL := cRLoad (a := s.n + 2 + (t + 1)) hgo.did.th hgo.rp.mem (by omega) hgo.out (by omega)
    rw [memF_g, show ((s.n + 2 + (t + 1) : Nat) : Int) = (s.n : Int) + 2 + ((t : Int) + 1) by omega] at HL
    clear hgo
    go_wp2_with (first
      | (go_at_call 117; refine HL.mono ?_; clear HL p2 p3; rintro e w3 ⟨rfl, T3, d3⟩; have o3 := d3.th.m2; have HGo3 : Hid _ := HGo.out.trans (RGo.read HGo.out.did.th HGo.out.rp HGo.out.out d3); have M63 : Hid _ := M6.out.did d3; have M73 : Hid _ := M7.out.did d3; clear d3 M6 M7 HGo)
      | (at_builtin; refine wpList_push rfl _ _ 29 rfl 0 3 (.int .i64 0) 8 rUndInts rInfoInt rfl (.slice a6 t c6) t ((numsOf (fun k => (s.slot k).gen) t).map (.int .i64 ·)) rfl (Row.alloc M63.out.row _) ⟨_, 0, none⟩ 1 (.int .i64 (s.slot (t + 1)).gen) rfl (by go_simp) rfl (by unfold maxLen; omega) (by omega) (by omega) ?_; intro v' w4 hr4 hG4; obtain ⟨m64, t4, n64⟩ := M63.out.push HGo3.out.did.turned.size HGo3.out.did.th.lt hr4 hG4; obtain ⟨a64, c64, rfl⟩ := Row.shape m64.row; have g4 := HGo3.out.beside HR.out t4 (fun g hg => M63.out.new g (by simpa using hg)); have M64 : Hid _ := m64; have M74 : Hid _ := M73.out.turned t4 (fun g hg hm => M67.out g (by simpa using hm) hg); have M674 : Hid (∀ g, (Value.slice a64 (t + 1) c64).ownBlock = some g → (Value.slice a7 t c7).ownBlock ≠ some g) := (fun g hg h7 => by rcases n64 g hg with h1 | h1; exact M67.out g h1 h7; obtain ⟨cur, hc⟩ := Row.obj M73.out.row h7; have := lt_of_heap hc; omega); have o4 := g4.did.th.m2; have p4 := g4.rp.c4; have q5 : w4.cell? ⟨r.b, (t + 1) * 7 + 5, none⟩ = some (.int .i64 (s.slot (t + 1)).mark) := g4.rp.sl (i := t + 1) (by omega) (k := 5) (by decide); have HKp := cRKept (v := (s.slot (t + 1)).mark) g4.did.th (by omega); have HGo4 : Hid _ := g4; clear g4 t4 n64 m64 hr4 hG4 M63 M73 M67 HGo3 o3)
      | (go_at_call 75; refine HKp.mono ?_; clear HKp p4 q5; rintro e w5 ⟨rfl, T5, d5⟩; have HGo5 : Hid _ := HGo4.out.trans (RGo.read HGo4.out.did.th HGo4.out.rp HGo4.out.out d5); have M65 : Hid _ := M64.out.did d5; have M75 : Hid _ := M74.out.did d5; clear d5 M64 M74 HGo4 o4)
      | (at_builtin; refine wpList_push rfl _ _ 29 rfl 0 3 (.int .i64 0) 8 rUndInts rInfoInt rfl (.slice a7 t c7) t ((numsOf (fun k => (s.slot k).mark) t).map (.int .i64 ·)) rfl (Row.alloc M75.out.row _) ⟨_, 0, none⟩ 1 (.int .i64 (s.slot (t + 1)).mark) rfl (by go_simp) rfl (by unfold maxLen; omega) (by omega) (by omega) ?_; intro v' w6 hr6 hG6; obtain ⟨m76, t6, n76⟩ := M75.out.push HGo5.out.did.turned.size HGo5.out.did.th.lt hr6 hG6; obtain ⟨a76, c76, rfl⟩ := Row.shape m76.row; have HGo6 : Hid _ := HGo5.out.beside HR.out t6 (fun g hg => M75.out.new g (by simpa using hg)); have M76 : Hid _ := m76; have M66 : Hid _ := M65.out.turned t6 (fun g hg hm => M674.out g hg (by simpa using hm)); have M676 : Hid (∀ g, (Value.slice a64 (t + 1) c64).ownBlock = some g → (Value.slice a76 (t + 1) c76).ownBlock ≠ some g) := (fun g hg h7 => by rcases n76 g h7 with h1 | h1; exact M674.out g hg h1; obtain ⟨cur, hc⟩ := Row.obj M65.out.row hg; have := lt_of_heap hc; omega); clear t6 n76 m76 hr6 hG6 M75 M65 M674 HGo5))
    refine ⟨⟨t + 1, _, _, _, by omega, rfl, rfl, rfl, rfl, rfl, rfl, by show Value.int .i64 ((t : Int) + 1 + 1) = _; simp, HGo6.out.up (by omega), ?_, ?_, M676.out⟩, ?_⟩
    · rw [numsOf_succ]
      exact M66.out
    · rw [numsOf_succ]
      exact M76.out
    · have e : (intOf (Value.int .i64 ((t : Int) + 1 + 1))).toNat = t + 2 := by simp [intOf]; omega
      change s.n + 1 - (intOf (Value.int .i64 ((t : Int) + 1 + 1))).toNat < _
      rw [e]
      omega
  · obtain rfl : t = s.n := by omega
    have dl : decide ((s.n : Int) + 1 ≤ (s.n : Int)) = false := decide_eq_false (by omega)
    clear hgo
    go_wp2
    go_ret2
    exact ⟨_, _, _, rfl, HGo.out, M6.out, M7.out, M67.out⟩
end
end Go.Proofs.YtjbhnpofdafmbaaGreatDoor
/- The document's pile alone: Look. -/
namespace Go.Proofs.YtjbhnpofdafmbaaGreatDoor
open Go.RowKit
/-- From i0 on the places L came; now comes i. -/
structure Walked (n : Nat) (f : Nat → Nat) (i0 i : Nat) (L : List Nat) : Prop where
  nodup : L.Nodup
  small : ∀ x ∈ L, 1 ≤ x ∧ x ≤ n
  le : i ≤ n
  rest : chain f (n + 1) i0 [] = chain f (n + 1 - L.length) i L
section
variable {n i0 i : Nat} {f : Nat → Nat} {L : List Nat}
theorem Walked.start (h : i0 ≤ n) : Walked n f i0 i0 [] := ⟨by simp, by simp, h, by simp⟩
theorem Walked.few (h : Walked n f i0 i L) : L.length ≤ n := few_places h.nodup h.small
theorem Walked.next (h : Walked n f i0 i L) (h0 : i ≠ 0) (hi : i ∉ L) (hf : f i ≤ n) : Walked n f i0 (f i) (L ++ [i]) := by
  have hnd : (L ++ [i]).Nodup := List.nodup_append.2 ⟨h.nodup, by simp, fun a ha b hb => by simp at hb; subst hb; exact fun e => hi (e ▸ ha)⟩
  have hsm : ∀ x ∈ L ++ [i], 1 ≤ x ∧ x ≤ n := fun x hx => by
    rcases List.mem_append.1 hx with hx | hx
    · exact h.small x hx
    · simp at hx; subst hx; exact ⟨by omega, h.le⟩
  refine ⟨hnd, hsm, hf, ?_⟩
  have := few_places hnd hsm
  simp at this
  rw [h.rest, show n + 1 - L.length = (n + 1 - (L ++ [i]).length) + 1 by simp; omega, chain_go f _ i L h0 hi]
theorem Walked.done (h : Walked n f i0 i L) (hs : i = 0 ∨ i ∈ L) : chain f (n + 1) i0 [] = L := by rw [h.rest, chain_stop _ _ _ _ hs]
end
abbrev cameObj (L : List Nat) (n : Nat) : Obj := .cells ((List.range (n + 1)).map fun j => Value.bool (decide (j ∈ L))).toArray 4 (0, 0)
theorem infoBool : (Tryz.prog.info? 4).map (fun i => (i.zero, i.size, i.bytes)) = some (some (.bool false), 1, 1) := by kernel_rfl
theorem undBools : Tryz.prog.underlying 208 = some (.slice 4) := by kernel_rfl
theorem made_came (n : Nat) : (.cells (madeCells #[.bool false] (n + 1)) 4 : Obj) = cameObj [] n := by
  unfold cameObj
  congr 1
  apply Array.ext
  · simp [madeCells]
  · intro i h1 h2
    simp [madeCells, Nat.mod_one]
theorem run_makeCame (n : Nat) (h : n ≤ 1000000) (w : World) :
    (Instr.makeSlice 208 (.int .i64 ((n : Int) + 1)) (.int .i64 ((n : Int) + 1))).run Tryz.prog w = .ok (.slice (some ⟨w.heap.size, 0, none⟩) (n + 1) (n + 1)) (w.alloc (cameObj [] n)) := by
  obtain ⟨i, hi, hzz⟩ := Option.map_eq_some_iff.1 infoBool
  simp only [Prod.mk.injEq] at hzz
  obtain ⟨hz, hs, hb⟩ := hzz
  have hr := run_make (P := Tryz.prog) w 208 4 i _ undBools hi hz .i64 .i64 ((n + 1 : Nat) : Int) ((n + 1 : Nat) : Int) (by omega) (Int.le_refl _) (by rw [hb]; omega) (by omega)
  simp only [Int.toNat_natCast, hs, Nat.mul_one] at hr
  rw [← made_came]
  exact hr
theorem came_cell {w : World} {cb n j : Nat} {L : List Nat} (h : w.heap[cb]? = some (cameObj L n)) (hj : j ≤ n) : w.cell? ⟨cb, j, none⟩ = some (.bool (decide (j ∈ L))) := by
  rw [cell_at h, List.getElem?_toArray, List.getElem?_map, List.getElem?_range (by omega)]; rfl
theorem came_put {w : World} {cb n j : Nat} {L : List Nat} (h : w.heap[cb]? = some (cameObj L n)) : (w.setCell ⟨cb, j, none⟩ (.bool true)).heap[cb]? = some (cameObj (L ++ [j]) n) := by
  rw [blk_set h]
  congr 2
  apply Array.ext
  · simp
  · intro i h1 h2
    simp only [List.size_toArray, List.length_map, List.length_range] at h2
    by_cases e : j = i
    · subst e
      simp
    · have e' : ¬ i = j := fun x => e x.symm
      simp [e, e']
theorem places_succ (L : List Nat) (i : Nat) : placesV (L ++ [i]) = placesV L ++ [.int .i64 (i : Nat)] := by simp [placesV]
/-- The walk's state. -/
structure LI (w : World) (r : RB) (s : PSt) (T : List Nat) (tb c i0 : Nat) (a' : Act) (w' : World) : Prop where
  ex : ∃ (k cb : Nat) (L T1 : List Nat) (v6 : Value), a'.tmps.size = 70 ∧ a'.defers = [] ∧ a'.eval (.tmp 0) = pv r.p 0 ∧ a'.eval (.tmp 1) = pv tb 0 ∧ a'.eval (.tmp 5) = .int .i64 s.h ∧ a'.eval (.tmp 6) = v6 ∧ a'.eval (.tmp 7) = .slice (some ⟨cb, 0, none⟩) (s.n + 1) (s.n + 1) ∧ a'.eval (.tmp 8) = .int .i64 (k : Nat) ∧ Walked s.n s.f i0 k L ∧ RGo r T w tb (c + 2 + 2 * L.length) s T1 w' ∧ Mine w T1 w' v6 L.length (placesV L) ∧ w.heap.size ≤ cb ∧ w'.heap[cb]? = some (cameObj L s.n)
section
variable {w : World} {r : RB} {s : PSt} {T : List Nat} {tb c i0 : Nat}
def lenS (v : Value) : Nat := match v with | .slice _ n _ => n | _ => 0
set_option maxRecDepth 100000 in
set_option maxHeartbeats 3200000 in
theorem cRLook8 (hT : Th T w tb r.m c) (hR : RP w r s) (hc : c ≤ 600000) (hg : r.g ∉ T) (ho : s.Ok) : Calls Tryz.prog 127 #[.pointer (some ⟨r.p, 0, none⟩), .pointer (some ⟨tb, 0, none⟩)] w fun e w' => ∃ v T1, e = .returned v ∧ RGo r T w tb (c + 2 * s.n + 6) s T1 w' ∧ Mine w T1 w' v s.places.length (placesV s.places) := by
  have hn := ho.n2
  have ht := ho.top
  have hp := idx_nat ho.h0
  obtain ⟨i0, hi0⟩ : ∃ i0 : Nat, idxV s.h = i0 := ⟨(idxV s.h).toNat, by omega⟩
  have hi0n : i0 ≤ s.n := by omega
  unfold PSt.places
  rw [hi0, Int.toNat_natCast]
  have HI := rIndex s.h
  rw [hi0] at HI
  have HL := cRLoad (a := 0) hT hR.mem (by omega) hg (by omega)
  rw [memF_h] at HL
  have p1 := RPile.c1 hR.pile
  have hmk := run_makeCame s.n (by omega)
  have HD : Hid (∀ T1 w1, Did [] T w tb r.m (c + 2) T1 w1 → RGo r T w tb (c + 2) s T1 w1) := fun T1 w1 d => RGo.read hT hR hg d
  have HR : Hid _ := hR
  clear hT hR
  go_enter Tryz.func127, Tryz.ntmps127
  go_wp2
  refine wp_loop_once ?_
  go_wp2_with (first
    | (go_at_call 117; refine HL.mono ?_; clear HL p1; rintro e w1 ⟨rfl, T1, d1⟩; have k1 := HD.out T1 w1 d1; have o1 := d1.th.m2; have p3 := RPile.c3 k1.rp.pile; have HK1 : Hid _ := k1; clear d1 HD k1)
    | (go_at_call 118; refine (HI _).mono ?_; rintro e w' ⟨rfl, hw⟩; obtain rfl := hw.symm))
  refine wp_loop (LI w r s T tb c i0) (fun a' _ => s.n + 1 - lenS (a'.eval (.tmp 6))) ?_ ?_
  · exact ⟨i0, w1.heap.size, [], T1, .slice none 0 0, rfl, rfl, rfl, rfl, rfl, rfl, rfl, rfl, Walked.start hi0n, HK1.out.beside HR.out ((Turned.refl [] w1).alloc _) (by simp), Mine.nil _ _ _, HK1.out.did.turned.size, blk_new w1 _⟩
  rintro a2 w2 ⟨k, cb, L, T2, v6, hs2, hd2, x0, x1, x5, x6, x7, x8, hW, hgo, m6, hcb, hcame⟩
  obtain ⟨cc, rfl, hcc⟩ := expand70 hs2 hd2
  have y0 : cc 0 = .pointer (some ⟨r.p, 0, none⟩) := (hcc 0).trans x0
  have y1 : cc 1 = .pointer (some ⟨tb, 0, none⟩) := (hcc 1).trans x1
  have y5 : cc 5 = .int .i64 s.h := (hcc 5).trans x5
  have y6 : cc 6 = v6 := (hcc 6).trans x6
  have y7 : cc 7 = .slice (some ⟨cb, 0, none⟩) (s.n + 1) (s.n + 1) := (hcc 7).trans x7
  have y8 : cc 8 = .int .i64 (k : Nat) := (hcc 8).trans x8
  obtain ⟨a6, c6, rfl⟩ := Row.shape m6.row
  rw [x6, show lenS (.slice a6 L.length c6) = L.length from rfl]
  have hfew := hW.few
  have hle := hW.le
  clear hcc x0 x1 x5 x6 x7 x8 hs2 hd2 hmk o1 p3 HK1
  have HGo : Hid _ := hgo
  have M6 : Hid _ := m6
  clear m6
  unfold lit70
  simp only [y0, y1, y5, y6, y7, y8]
  clear y0 y1 y5 y6 y7 y8
  by_cases hstop : k = 0 ∨ k ∈ L
  · have HDone : Hid _ := hW.done hstop
    clear hW
    have HL2 := cRLoad (a := 0) hgo.did.th hgo.rp.mem (by omega) hgo.out (by omega)
    rw [memF_h] at HL2
    have p1 := RPile.c1 hgo.rp.pile
    clear hgo
    rcases Nat.eq_zero_or_pos k with h0 | h0
    · subst h0
      clear hcame
      go_wp2_with (go_at_call 117; refine HL2.mono ?_; clear HL2 p1; rintro e w3 ⟨rfl, T3, d3⟩; have o3 := d3.th.m2; have HGo3 : Hid _ := HGo.out.trans (RGo.read HGo.out.did.th HGo.out.rp HGo.out.out d3); have M63 : Hid _ := M6.out.did d3; clear d3)
      go_ret
      rw [HDone.out]
      exact ⟨_, _, rfl, HGo3.out.up (by omega), M63.out⟩
    · have hin : k ∈ L := hstop.resolve_left (by omega)
      have hz : ((k : Int) != 0) = true := by simp; omega
      have hlt : (k : Int) < (s.n : Int) + 1 := by omega
      have cc1 := came_cell hcame hle
      rw [show decide (k ∈ L) = true from decide_eq_true hin] at cc1
      clear hcame
      go_wp2_with (go_at_call 117; refine HL2.mono ?_; clear HL2 p1; rintro e w3 ⟨rfl, T3, d3⟩; have o3 := d3.th.m2; have HGo3 : Hid _ := HGo.out.trans (RGo.read HGo.out.did.th HGo.out.rp HGo.out.out d3); have M63 : Hid _ := M6.out.did d3; clear d3)
      go_ret
      rw [HDone.out]
      exact ⟨_, _, rfl, HGo3.out.up (by omega), M63.out⟩
  · have h0 : k ≠ 0 := fun e => hstop (.inl e)
    have hin : k ∉ L := fun e => hstop (.inr e)
    have hz : ((k : Int) != 0) = true := by simp; omega
    have hlt : (k : Int) < (s.n : Int) + 1 := by omega
    have cc1 := came_cell hcame hle
    rw [show decide (k ∈ L) = false from decide_eq_false hin] at cc1
    have z1 := froz_at hcame k
    have hW2 := hW.next h0 hin (ho.low k hle)
    have hfew2 := hW2.few
    simp at hfew2
    have tS : Turned [cb] w2 (w2.setCell ⟨cb, k, none⟩ (.bool true)) := (Turned.refl [cb] w2).set (.inl (by simp)) _ _
    have hcT : cb ∉ T2 := hgo.did.th.ty hcame (by decide) (by decide)
    have HGoS : Hid (RGo r T w tb (c + 2 + 2 * L.length) s T2 (w2.setCell ⟨cb, k, none⟩ (.bool true))) := hgo.beside HR.out tS (by simp; exact ⟨hcb, hcT⟩)
    have HMS : Hid (Mine w T2 (w2.setCell ⟨cb, k, none⟩ (.bool true)) (.slice a6 L.length c6) L.length (placesV L)) := M6.out.turned tS (fun g hg => by
      have := Row.apart M6.out.row hcame (by decide)
      simp
      intro e
      subst e
      exact this hg)
    have HCS : Hid ((w2.setCell ⟨cb, k, none⟩ (.bool true)).heap[cb]? = some (cameObj (L ++ [k]) s.n)) := came_put hcame
    clear hgo hcame tS
    have HW2 : Hid _ := hW2
    clear hW hW2 M6 HGo
    go_wp2_with (first
      | (at_builtin; refine wpList_push rfl _ _ 29 rfl 0 3 (.int .i64 0) 8 rUndInts rInfoInt rfl (.slice a6 L.length c6) L.length (placesV L) rfl (Row.alloc HMS.out.row _) ⟨_, 0, none⟩ 1 (.int .i64 (k : Nat)) rfl (by go_simp) rfl (by unfold maxLen; omega) (by omega) (by omega) ?_; intro v' w4 hr4 hG4; obtain ⟨m64, t4, n64⟩ := HMS.out.push HGoS.out.did.turned.size HGoS.out.did.th.lt hr4 hG4; obtain ⟨a64, c64, rfl⟩ := Row.shape m64.row; have g4 := HGoS.out.beside HR.out t4 (fun g hg => HMS.out.new g (by simpa using hg)); have h4 := t4.heap HCS.out (fun hm => Row.apart HMS.out.row HCS.out (by decide) (by simpa using hm)); have p2 := RPile.c2 g4.rp.pile; have HL4 := cRLoad (a := 1 + k) g4.did.th g4.rp.mem (by omega) g4.out (by omega); rw [memF_f s hle, show ((1 + k : Nat) : Int) = 1 + (k : Int) by omega] at HL4; have HGo4 : Hid _ := g4; have M64 : Hid _ := m64; have HC4 : Hid _ := h4; clear g4 m64 t4 n64 h4 hr4 hG4 HGoS HMS HCS)
      | (go_at_call 117; refine HL4.mono ?_; clear HL4 p2; rintro e w5 ⟨rfl, T5, d5⟩; have o5 := d5.th.m2; have HGo5 : Hid _ := HGo4.out.trans (RGo.read HGo4.out.did.th HGo4.out.rp HGo4.out.out d5); have M65 : Hid _ := M64.out.did d5; have HC5 : Hid _ := d5.turned.heap HC4.out (fun hm => HGo4.out.did.th.ty HC4.out (by decide) (by decide) (by simpa using hm)); clear d5 HGo4 M64 HC4))
    refine ⟨⟨s.f k, cb, L ++ [k], _, _, rfl, rfl, rfl, rfl, rfl, rfl, rfl, rfl, HW2.out, HGo5.out.up (by simp; omega), ?_, hcb, HC5.out⟩, ?_⟩
    · rw [places_succ, List.length_append]
      exact M65.out
    · change s.n + 1 - (L.length + 1) < _
      omega
theorem cRLook (hT : Th T w tb r.m c) (hR : RP w r s) (hc : c ≤ 600000) (hg : r.g ∉ T) (ho : s.Ok) : Calls Tryz.prog 88 #[.pointer (some ⟨r.q, 0, none⟩), .pointer (some ⟨tb, 0, none⟩)] w fun e w' => ∃ v T1, e = .returned v ∧ RGo r T w tb (c + 2 * s.n + 6) s T1 w' ∧ Mine w T1 w' v s.places.length (placesV s.places) := by
  have HP := cRLook8 hT hR hc hg ho
  have p1 := hR.c1
  clear hT hR
  go_enter Tryz.func88, Tryz.ntmps88
  go_wp2_with (go_at_call 127; refine HP.mono ?_; rintro e w1 ⟨v, T1, rfl, h1, h2⟩; have H1 : Hid _ := h1; have H2 : Hid _ := h2; clear h1 h2)
  go_ret
  exact ⟨_, _, rfl, H1.out, H2.out⟩
end
end Go.Proofs.YtjbhnpofdafmbaaGreatDoor
/- A frame, spelled out. -/
namespace Go.Proofs.YtjbhnpofdafmbaaGreatDoor
open Go.RowKit
def lit36 (c : Nat → Value) : Array Value := #[c 0, c 1, c 2, c 3, c 4, c 5, c 6, c 7, c 8, c 9, c 10, c 11, c 12, c 13, c 14, c 15, c 16, c 17, c 18, c 19, c 20, c 21, c 22, c 23, c 24, c 25, c 26, c 27, c 28, c 29, c 30, c 31, c 32, c 33, c 34, c 35]
set_option maxRecDepth 100000 in
theorem lit36_eq (c : Nat → Value) : lit36 c = ((List.range 36).map c).toArray := by rfl
theorem expand36 {a : Act} (hs : a.tmps.size = 36) (hd : a.defers = []) : ∃ c : Nat → Value, a = ⟨lit36 c, []⟩ ∧ ∀ s, c s = a.eval (.tmp s) := by
  refine ⟨fun s => a.tmps.getD s undef, ?_, fun s => rfl⟩
  obtain ⟨t, d⟩ := a
  simp only at hs hd
  subst hd
  congr 1
  rw [lit36_eq]
  refine Array.ext (by simp [hs]) fun i h1 h2 => ?_
  simp [Array.getD, h1]
end Go.Proofs.YtjbhnpofdafmbaaGreatDoor
/- A frame, spelled out. -/
namespace Go.Proofs.YtjbhnpofdafmbaaGreatDoor
open Go.RowKit
def lit12 (c : Nat → Value) : Array Value := #[c 0, c 1, c 2, c 3, c 4, c 5, c 6, c 7, c 8, c 9, c 10, c 11]
set_option maxRecDepth 100000 in
theorem lit12_eq (c : Nat → Value) : lit12 c = ((List.range 12).map c).toArray := by rfl
theorem expand12 {a : Act} (hs : a.tmps.size = 12) (hd : a.defers = []) : ∃ c : Nat → Value, a = ⟨lit12 c, []⟩ ∧ ∀ s, c s = a.eval (.tmp s) := by
  refine ⟨fun s => a.tmps.getD s undef, ?_, fun s => rfl⟩
  obtain ⟨t, d⟩ := a
  simp only at hs hd
  subst hd
  congr 1
  rw [lit12_eq]
  refine Array.ext (by simp [hs]) fun i h1 h2 => ?_
  simp [Array.getD, h1]
end Go.Proofs.YtjbhnpofdafmbaaGreatDoor

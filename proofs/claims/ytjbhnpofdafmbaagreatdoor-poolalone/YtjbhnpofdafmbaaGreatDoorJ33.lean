/- The document's pile alone: Head, Places. -/
import Derived.Test.YtjbhnpofdafmbaaGreatDoorJ32
import Derived.Maps.Own
import Derived.Maps.OwnOps
import Derived.Maps.Views
import Derived.Test.YtjbhnpofdafmbaaGreatDoorJ26
import Derived.Test.YtjbhnpofdafmbaaGreatDoorJ09
import Derived.Test.YtjbhnpofdafmbaaGreatDoorJ13
import Derived.Test.YtjbhnpofdafmbaaGreatDoorJ30
import Derived.Test.YtjbhnpofdafmbaaGreatDoorJ27
namespace Go.Proofs.YtjbhnpofdafmbaaGreatDoor
open Go.RowKit
open Go.Maps
set_option maxRecDepth 100000 in
set_option maxHeartbeats 1600000 in
theorem rhead_r1 {K : Act → World → Prop} {Q : Exit → Act → World → Prop} {a : Act} {w : World} {r : RB} {s : PSt} (hs : a.tmps.size = 12) (x0 : a.eval (.tmp 0) = pv r.p 0) (hR : RP w r s)
    (hEnd : ∀ a1 w1, a1.tmps.size = a.tmps.size → a1.defers = a.defers → (∀ s : Nat, s < 2 → a1.eval (.tmp s) = a.eval (.tmp s)) → a1.eval (.tmp 2) = vi s.h → (w1 = w.drew) → K a1 w1) :
    (Code.region 1 (opsOf 1 Tryz.f129.body) true).wp Tryz.prog (Exit.then K Q) a w := by
  refine wp_region_chainP (by kernel_rfl) [some 3, some 4, some 5, some 6, some 7, some 8, some 9, some 10, some 11, some 2] (fun kk => match kk with
      | 0 => pv r.p 0
      | 1 => pv r.p 0
      | 2 => pv r.p 0
      | 3 => pv r.m 0
      | 4 => pv r.p 0
      | 5 => pv r.p 0
      | 6 => pv r.p 1
      | 7 => vi ((0 : Nat) : Int)
      | 8 => vi s.h
      | 9 => vi s.h
      | _ => undef) (by rw [hs]; kernel_rfl) [] (fun jj => match jj with
      | _ => fun x => x = w.drew) rfl (by decide) (by decide +kernel) ?_ ?_ ?_
  · intro kk gg bq h
    exact (no_guard (by kernel_rfl) h).elim
  · intro kk hk _ o ac wa M K ho hd _ hoff hv hpre hL hK
    rcases (by simp at hk; omega : kk = 0 ∨ kk = 1 ∨ kk = 2 ∨ kk = 3 ∨ kk = 4 ∨ kk = 5 ∨ kk = 6 ∨ kk = 7 ∨ kk = 8 ∨ kk = 9) with rfl | rfl | rfl | rfl | rfl | rfl | rfl | rfl | rfl | rfl
    · obtain ⟨hM, jw, hjw, hW, hjR⟩ := hL.off (by decide)
      replace hK := hK _ hM
      exact l_val hd ((x_move (op_is rfl ho)).trans (by rw [(hoff 0 (by decide)).trans x0]; rfl)) hK
    · obtain ⟨hM, jw, hjw, hW, hjR⟩ := hL.off (by decide)
      replace hK := hK _ hM
      exact l_val hd (x_nil (op_is rfl ho) (hv 0 3 rfl (by kernel_rfl))) hK
    · obtain ⟨hM, jw, hjw, hW, hjR⟩ := hL.off (by decide)
      replace hK := hK _ hM
      exact l_val hd (x_field (op_is rfl ho) (by rw [hv 1 4 rfl (by kernel_rfl)]; unfold pv; go_simp)) hK
    · obtain ⟨hM, jw, hjw, hW, hjR⟩ := hL.off (by decide)
      replace hK := hK _ hM
      have hj : jw ≤ 0 := hjw
      obtain rfl : jw = 0 := by omega
      exact l_val hd (x_load (op_is rfl ho) (by rw [hv 2 5 rfl (by kernel_rfl)]; refine ld_mem ?_; exact (show wa = w.drew from hW) ▸ RPile.c0 hR.pile)) hK
    · obtain ⟨hM, jw, hjw, hW, hjR⟩ := hL.off (by decide)
      replace hK := hK _ hM
      exact l_val hd ((x_move (op_is rfl ho)).trans (by rw [(hoff 0 (by decide)).trans x0]; rfl)) hK
    · obtain ⟨hM, jw, hjw, hW, hjR⟩ := hL.off (by decide)
      replace hK := hK _ hM
      exact l_val hd (x_nil (op_is rfl ho) (hv 4 7 rfl (by kernel_rfl))) hK
    · obtain ⟨hM, jw, hjw, hW, hjR⟩ := hL.off (by decide)
      replace hK := hK _ hM
      exact l_val hd (x_field (op_is rfl ho) (by rw [hv 5 8 rfl (by kernel_rfl)]; unfold pv; go_simp)) hK
    · obtain ⟨hM, jw, hjw, hW, hjR⟩ := hL.off (by decide)
      replace hK := hK _ hM
      have hj : jw ≤ 0 := hjw
      obtain rfl : jw = 0 := by omega
      exact l_val hd (x_load (op_is rfl ho) (by rw [hv 6 9 rfl (by kernel_rfl)]; refine ld_int ?_; exact (show wa = w.drew from hW) ▸ RPile.c1 hR.pile)) hK
    · obtain ⟨hM, jw, hjw, hW, hjR⟩ := hL.off (by decide)
      replace hK := hK _ hM
      have hW : wa = w.drew := hW
      subst hW
      exact l_call hd (op_is rfl ho) (by simp only [List.map_toArray, List.map_cons, List.map_nil, hv 3 6 rfl (by kernel_rfl), hv 7 10 rfl (by kernel_rfl)] <;> rfl) Tryz.func73 (by kernel_rfl) (by rfl) ((by have h := cRGet (a := 0) hR.drew.mem (by omega); rwa [memF_h] at h)) hK
    · obtain ⟨hM, jw, hjw, hW, hjR⟩ := hL.off (by decide)
      replace hK := hK _ hM
      exact l_val hd ((x_assign (op_is rfl ho)).trans (by rw [hv 8 11 rfl (by kernel_rfl)]; rfl)) hK
  · intro a1 g1 g2 g3 g4 w1 hW
    exact hEnd a1 w1 g1 g2 (fun s hs'  => ev_same (g3 s (fun hm => by simp at hm; omega))) (g4 9 2 rfl) hW
set_option maxRecDepth 100000 in
set_option maxHeartbeats 1600000 in
theorem rplaces_r7 {K : Act → World → Prop} {Q : Exit → Act → World → Prop} {a : Act} {w : World} {i : Nat} {r : RB} {s : PSt} (hs : a.tmps.size = 36) (x0 : a.eval (.tmp 0) = pv r.p 0) (x5 : a.eval (.tmp 5) = vi (i : Nat)) (hR : RP w r s) (hi : i ≤ s.n) (hn : s.n ≤ 4096)
    (hEnd : ∀ a1 w1, a1.tmps.size = a.tmps.size → a1.defers = a.defers → (∀ s : Nat, s < 6 → s ≠ 5 → a1.eval (.tmp s) = a.eval (.tmp s)) → a1.eval (.tmp 5) = vi (s.f i : Nat) → (w1 = w.drew) → K a1 w1) :
    (Code.region 7 (opsOf 7 Tryz.f92.body) true).wp Tryz.prog (Exit.then K Q) a w := by
  refine wp_region_chainP (by kernel_rfl) [some 24, some 25, some 26, some 27, some 28, some 29, some 30, some 31, some 32, some 33, some 34, some 5] (fun kk => match kk with
      | 0 => pv r.p 0
      | 1 => pv r.p 0
      | 2 => pv r.p 0
      | 3 => pv r.m 0
      | 4 => pv r.p 0
      | 5 => pv r.p 0
      | 6 => pv r.p 2
      | 7 => vi ((1 : Nat) : Int)
      | 8 => vi (i : Nat)
      | 9 => vi ((1 + i : Nat) : Int)
      | 10 => vi (s.f i : Nat)
      | 11 => vi (s.f i : Nat)
      | _ => undef) (by rw [hs]; kernel_rfl) [] (fun jj => match jj with
      | _ => fun x => x = w.drew) rfl (by decide) (by decide +kernel) ?_ ?_ ?_
  · intro kk gg bq h
    exact (no_guard (by kernel_rfl) h).elim
  · intro kk hk _ o ac wa M K ho hd _ hoff hv hpre hL hK
    rcases (by simp at hk; omega : kk = 0 ∨ kk = 1 ∨ kk = 2 ∨ kk = 3 ∨ kk = 4 ∨ kk = 5 ∨ kk = 6 ∨ kk = 7 ∨ kk = 8 ∨ kk = 9 ∨ kk = 10 ∨ kk = 11) with rfl | rfl | rfl | rfl | rfl | rfl | rfl | rfl | rfl | rfl | rfl | rfl
    · obtain ⟨hM, jw, hjw, hW, hjR⟩ := hL.off (by decide)
      replace hK := hK _ hM
      exact l_val hd ((x_move (op_is rfl ho)).trans (by rw [(hoff 0 (by decide)).trans x0]; rfl)) hK
    · obtain ⟨hM, jw, hjw, hW, hjR⟩ := hL.off (by decide)
      replace hK := hK _ hM
      exact l_val hd (x_nil (op_is rfl ho) (hv 0 24 rfl (by kernel_rfl))) hK
    · obtain ⟨hM, jw, hjw, hW, hjR⟩ := hL.off (by decide)
      replace hK := hK _ hM
      exact l_val hd (x_field (op_is rfl ho) (by rw [hv 1 25 rfl (by kernel_rfl)]; unfold pv; go_simp)) hK
    · obtain ⟨hM, jw, hjw, hW, hjR⟩ := hL.off (by decide)
      replace hK := hK _ hM
      have hj : jw ≤ 0 := hjw
      obtain rfl : jw = 0 := by omega
      exact l_val hd (x_load (op_is rfl ho) (by rw [hv 2 26 rfl (by kernel_rfl)]; refine ld_mem ?_; exact (show wa = w.drew from hW) ▸ RPile.c0 hR.pile)) hK
    · obtain ⟨hM, jw, hjw, hW, hjR⟩ := hL.off (by decide)
      replace hK := hK _ hM
      exact l_val hd ((x_move (op_is rfl ho)).trans (by rw [(hoff 0 (by decide)).trans x0]; rfl)) hK
    · obtain ⟨hM, jw, hjw, hW, hjR⟩ := hL.off (by decide)
      replace hK := hK _ hM
      exact l_val hd (x_nil (op_is rfl ho) (hv 4 28 rfl (by kernel_rfl))) hK
    · obtain ⟨hM, jw, hjw, hW, hjR⟩ := hL.off (by decide)
      replace hK := hK _ hM
      exact l_val hd (x_field (op_is rfl ho) (by rw [hv 5 29 rfl (by kernel_rfl)]; unfold pv; go_simp)) hK
    · obtain ⟨hM, jw, hjw, hW, hjR⟩ := hL.off (by decide)
      replace hK := hK _ hM
      have hj : jw ≤ 0 := hjw
      obtain rfl : jw = 0 := by omega
      exact l_val hd (x_load (op_is rfl ho) (by rw [hv 6 30 rfl (by kernel_rfl)]; refine ld_int ?_; exact (show wa = w.drew from hW) ▸ RPile.c2 hR.pile)) hK
    · obtain ⟨hM, jw, hjw, hW, hjR⟩ := hL.off (by decide)
      replace hK := hK _ hM
      exact l_val hd ((x_move (op_is rfl ho)).trans (by rw [(hpre 11 5 rfl (by kernel_rfl)).trans x5]; rfl)) hK
    · obtain ⟨hM, jw, hjw, hW, hjR⟩ := hL.off (by decide)
      replace hK := hK _ hM
      exact l_val (v := vi ((1 + i : Nat) : Int)) hd ((x_addc (op_is rfl ho) (hv 7 31 rfl (by kernel_rfl)) (hv 8 32 rfl (by kernel_rfl)) (by omega) (by omega)).trans (by rw [show (((1 : Nat) : Int) + (i : Int)) = ((1 + i : Nat) : Int) by omega])) hK
    · obtain ⟨hM, jw, hjw, hW, hjR⟩ := hL.off (by decide)
      replace hK := hK _ hM
      have hW : wa = w.drew := hW
      subst hW
      exact l_call hd (op_is rfl ho) (by simp only [List.map_toArray, List.map_cons, List.map_nil, hv 3 27 rfl (by kernel_rfl), hv 9 33 rfl (by kernel_rfl)] <;> rfl) Tryz.func73 (by kernel_rfl) (by rfl) ((by have h := cRGet (a := 1 + i) hR.drew.mem (by omega); rwa [memF_f s hi] at h)) hK
    · obtain ⟨hM, jw, hjw, hW, hjR⟩ := hL.off (by decide)
      replace hK := hK _ hM
      exact l_val hd ((x_assign (op_is rfl ho)).trans (by rw [hv 10 34 rfl (by kernel_rfl)]; rfl)) hK
  · intro a1 g1 g2 g3 g4 w1 hW
    exact hEnd a1 w1 g1 g2 (fun s hs' h5 => ev_same (g3 s (fun hm => by simp at hm; omega))) (g4 11 5 rfl) hW
theorem pUndInt : Tryz.prog.underlying 3 = some (.int .i64) := by kernel_rfl
theorem pUndBool : Tryz.prog.underlying 4 = some .bool := by kernel_rfl
theorem pUndMap : Tryz.prog.underlying 187 = some (.map 3 4) := by kernel_rfl
theorem pKeyed : Keyed Tryz.prog 3 := int_keyed pUndInt
theorem pZero (w : World) : (zeroValue 4).run Tryz.prog w = .ok (.bool false) w := by kernel_rfl
/-- The map tells which places came. -/
def Cames (w : World) (mb : Nat) (L : List Nat) : Prop := ∃ D : DataW Unit, w.ownsMap Tryz.prog 3 (plainElem Tryz.prog 4) mb L.length D ∧ IsMap D ∧ ∀ i : Nat, i ≤ 1000000 → D.atKey (.int .i64 (i : Nat)) (.lit (.bool false)) = .lit (.bool (decide (i ∈ L)))
theorem plainElem_bool_inv {v : Value} {z : DataW Unit × List MemPlace} (h : plainElem Tryz.prog 4 v = some z) : ∃ x, v = .bool x ∧ z = (.lit (.bool x), []) := by
  unfold plainElem at h
  rw [pUndBool] at h
  cases v <;> simp at h
  exact ⟨_, rfl, h.symm⟩
theorem wfNat (i : Nat) (h : i ≤ 1000000) : (Lit.int .i64 (i : Nat)).wf = true := WalkArith.wf_i64 (by omega)
theorem Cames.look {w : World} {mb : Nat} {L : List Nat} (h : Cames w mb L) {i : Nat} (hi : i ≤ 1000000) : (Instr.lookup 187 (.map (some mb)) (.int .i64 (i : Nat)) false).run Tryz.prog w = .ok (.bool (decide (i ∈ L))) w := by
  obtain ⟨D, h1, h2, h3⟩ := h
  obtain ⟨v, ps, hrun, hv⟩ := h1.lookup pKeyed pUndMap (pZero w) (plainElem_bool pUndBool false) (keyOf_int_mk pUndInt (wfNat i hi))
  obtain ⟨x, rfl, hx⟩ := plainElem_bool_inv hv
  rw [h3 i hi] at hx
  simp at hx
  rw [hrun, hx.1]
theorem Cames.made (w : World) : Cames (w.alloc (.map #[] 0)) w.heap.size [] := ⟨.map [], World.ownsMap_made _ _ _ _, by first | trivial | exact ⟨_, rfl⟩ | simp [IsMap], fun i _ => by simp [DataW.atKey]⟩
theorem Cames.kept {w w' : World} {mb : Nat} {L : List Nat} (h : Cames w mb L) {row : Option Nat} (hg : w.grownBy w' row) (hne : some mb ≠ row) : Cames w' mb L := by
  obtain ⟨D, h1, h2⟩ := h
  exact ⟨D, h1.kept hg hne, h2⟩
theorem Cames.put {w' : World} {mb : Nat} {L : List Nat} {D : DataW Unit} (h2 : IsMap D) (h3 : ∀ i : Nat, i ≤ 1000000 → D.atKey (.int .i64 (i : Nat)) (.lit (.bool false)) = .lit (.bool (decide (i ∈ L)))) {k : Nat} (hk : k ≤ 1000000) (h : w'.ownsMap Tryz.prog 3 (plainElem Tryz.prog 4) mb (L.length + 1) (D.put (.int .i64 (k : Nat)) (.lit (.bool true)))) : Cames w' mb (L ++ [k]) := by
  refine ⟨_, by rw [List.length_append]; exact h, ?_, fun i hi => ?_⟩
  · exact h2.put _ _
  · by_cases e : i = k
    · subst e
      rw [atKey_put_same h2 (by trivial)]
      simp
    · rw [atKey_put_other (by simp; omega), h3 i hi]
      simp [e]
section
variable {w : World} {r : RB} {s : PSt}
set_option maxRecDepth 100000 in
theorem cRHead (hR : RP w r s) : Calls Tryz.prog 129 #[.pointer (some ⟨r.p, 0, none⟩)] w fun e w' => e = .returned (.int .i64 s.h) ∧ w' = w.drew := by
  have HR : Hid _ := hR
  clear hR
  go_enter Tryz.func129, Tryz.ntmps129
  go_wp2
  rename_i K hK
  refine rhead_r1 rfl rfl HR.out ?_
  rintro a1 w1 s1 d1 e1 x2 rfl
  obtain ⟨cc, rfl, hcc⟩ := expand12 s1 d1
  have y2 : cc 2 = .int .i64 s.h := (hcc 2).trans x2
  clear hcc x2 e1 s1 d1
  refine hK _ _ ?_
  unfold lit12
  simp only [y2]
  clear y2
  go_wp2
  go_ret
  exact ⟨rfl, rfl⟩
structure PlI (w : World) (r : RB) (s : PSt) (i0 : Nat) (a' : Act) (w' : World) : Prop where
  ex : ∃ (k mb : Nat) (L : List Nat) (v3 : Value), a'.tmps.size = 36 ∧ a'.defers = [] ∧ a'.eval (.tmp 0) = pv r.p 0 ∧ a'.eval (.tmp 3) = v3 ∧ a'.eval (.tmp 4) = .map (some mb) ∧ a'.eval (.tmp 5) = .int .i64 (k : Nat) ∧ Walked s.n s.f i0 k L ∧ Turned [] w w' ∧ w'.ownsRow w.heap.size 3 1 v3 L.length (placesV L) ∧ w.heap.size ≤ mb ∧ v3.ownBlock ≠ some mb ∧ Cames w' mb L
set_option maxRecDepth 100000 in
set_option maxHeartbeats 3200000 in
theorem cRPlaces (hR : RP w r s) (ho : s.Ok) : Calls Tryz.prog 92 #[.pointer (some ⟨r.p, 0, none⟩)] w fun e w' => ∃ v, e = .returned v ∧ Turned [] w w' ∧ w'.ownsRow w.heap.size 3 1 v s.places.length (placesV s.places) := by
  have hn := ho.n2
  have ht := ho.top
  have hp := idx_nat ho.h0
  obtain ⟨i0, hi0⟩ : ∃ i0 : Nat, idxV s.h = i0 := ⟨(idxV s.h).toNat, by omega⟩
  have hi0n : i0 ≤ s.n := by omega
  unfold PSt.places
  rw [hi0, Int.toNat_natCast]
  have HI := rIndex s.h
  rw [hi0] at HI
  have hmm := @run_makeMap Tryz.prog
  have HH := cRHead (hR.alloc (.map #[] 0))
  have HR : Hid _ := hR
  clear hR
  go_enter Tryz.func92, Tryz.ntmps92
  go_wp2_with (first
    | (go_at_call 129; refine HH.mono ?_; rintro e w1 ⟨rfl, rfl⟩)
    | (go_at_call 118; refine (HI _).mono ?_; rintro e w' ⟨rfl, hw⟩; obtain rfl := hw.symm))
  rename_i K hK
  refine wp_loop (PlI w r s i0) (fun a' _ => s.n + 1 - lenS (a'.eval (.tmp 3))) ?_ ?_
  · exact ⟨i0, w.heap.size, [], .slice none 0 0, rfl, rfl, rfl, rfl, rfl, rfl, Walked.start hi0n, ((Turned.refl [] w).alloc _).drew, World.ownsRow_nil _ _ _ _, Nat.le_refl _, by simp [Value.ownBlock], Cames.made w⟩
  rintro a2 w2 ⟨k, mb, L, v3, hs2, hd2, x0, x3, x4, x5, hW, hT, m3, hmb, hne, hcame⟩
  obtain ⟨cc, rfl, hcc⟩ := expand36 hs2 hd2
  have y0 : cc 0 = .pointer (some ⟨r.p, 0, none⟩) := (hcc 0).trans x0
  have y3 : cc 3 = v3 := (hcc 3).trans x3
  have y4 : cc 4 = .map (some mb) := (hcc 4).trans x4
  have y5 : cc 5 = .int .i64 (k : Nat) := (hcc 5).trans x5
  obtain ⟨a3, c3, rfl⟩ := Row.shape m3
  rw [x3, show lenS (.slice a3 L.length c3) = L.length from rfl]
  have hfew := hW.few
  have hle := hW.le
  clear hcc x0 x3 x4 x5 hs2 hd2 hmm HH
  have HT : Hid _ := hT
  have M3 : Hid _ := m3
  have HN : Hid _ := hne
  clear m3 hT hne
  unfold lit36
  simp only [y0, y3, y4, y5]
  clear y0 y3 y4 y5
  have hlook := hcame.look (i := k) (by omega)
  by_cases hstop : k = 0 ∨ k ∈ L
  · have HDone : Hid _ := hW.done hstop
    clear hW hcame
    rcases Nat.eq_zero_or_pos k with h0 | h0
    · subst h0
      go_wp2
      go_ret
      rw [HDone.out]
      exact ⟨_, rfl, HT.out, M3.out⟩
    · have hin : k ∈ L := hstop.resolve_left (by omega)
      have hz : ((k : Int) != 0) = true := by simp; omega
      rw [show decide (k ∈ L) = true from decide_eq_true hin] at hlook
      go_wp2
      go_ret
      rw [HDone.out]
      exact ⟨_, rfl, HT.out, M3.out⟩
  · have h0 : k ≠ 0 := fun e => hstop (.inl e)
    have hin : k ∉ L := fun e => hstop (.inr e)
    have hz : ((k : Int) != 0) = true := by simp; omega
    rw [show decide (k ∈ L) = false from decide_eq_false hin] at hlook
    have hW2 := hW.next h0 hin (ho.low k hle)
    have hfew2 := hW2.few
    simp at hfew2
    have HW2 : Hid _ := hW2
    obtain ⟨D, hown, hD2, hD3⟩ := hcame
    have HD3 : Hid _ := hD3
    clear hW hW2 hD3
    go_wp2_with (first
      | (at_mapUpdate; refine wpList_mapUpdate_own _ rfl _ _ _ 187 rfl 3 4 pKeyed pUndMap _ mb L.length _ rfl hown (by unfold maxLen; omega) _ _ _ rfl rfl (keyOf_int_mk pUndInt (wfNat k (by omega))) _ [] (plainElem_bool pUndBool true) ?_; intro w3 hown3 hgrow3; have HC3 : Hid _ := Cames.put hD2 HD3.out (by omega) hown3; have HM3 : Hid (w3.ownsRow w.heap.size 3 1 (.slice a3 L.length c3) L.length (placesV L)) := World.ownsRow.kept M3.out hgrow3 (.inr HN.out); have HT3 : Hid (Turned [] w w3) := HT.out.inner (m := [mb]) ⟨hgrow3.os, hgrow3.tape, hgrow3.output, hgrow3.size, fun j hj hn => hgrow3.block j hj (fun e => hn (by simpa using e))⟩ (by simp; omega); clear hown3 hgrow3 hown hD2 HD3 hlook M3 HT)
      | (at_builtin; refine wpList_push rfl _ _ 29 rfl w.heap.size 3 (.int .i64 0) 8 rUndInts rInfoInt rfl (.slice a3 L.length c3) L.length (placesV L) rfl (Row.alloc HM3.out _) ⟨_, 0, none⟩ 1 (.int .i64 (k : Nat)) rfl (by go_simp) rfl (by unfold maxLen; omega) (by omega) (by have := HT3.out.size; simp; omega) ?_; intro v' w4 hr4 hG4; obtain ⟨a4, c4, rfl⟩ := Row.shape hr4; have HR4 : Hid _ := hr4; have HG4 : Hid _ := hG4; clear hr4 hG4))
    have hT4 : Turned [] w w4 := (HT3.out.alloc _).grown HG4.out.1 (fun g hg => .inr (Row.ge HM3.out hg))
    have hC4 : Cames w4 mb (L ++ [k]) := (Cames.kept HC3.out (World.grownBy_alloc _ _ none) (by simp)).kept HG4.out.1 (fun e => HN.out e.symm)
    have hN4 : (Value.slice a4 (L.length + 1) c4).ownBlock ≠ some mb := fun e => by
      rcases HG4.out.2 with h1 | ⟨g, h1, h2⟩
      · rw [h1] at e
        exact HN.out e
      · rw [e] at h1
        injection h1 with h1
        subst h1
        obtain ⟨D3, hD3, -⟩ := HC3.out
        have := hD3.lt
        simp at h2
        omega
    have hR4 : RP w4 r s := HR.out.turned hT4 (by simp)
    refine wp_fall ?_
    refine rplaces_r7 (i := k) rfl rfl rfl hR4 hle hn ?_
    rintro a5 w5 s5 d5 e5 x5 rfl
    change PlI w r s i0 a5 w4.drew ∧ s.n + 1 - lenS (a5.eval (.tmp 3)) < s.n + 1 - L.length
    refine ⟨⟨s.f k, mb, L ++ [k], .slice a4 (L.length + 1) c4, s5.trans rfl, d5.trans rfl, (e5 0 (by omega) (by omega)).trans rfl, (e5 3 (by omega) (by omega)).trans rfl, (e5 4 (by omega) (by omega)).trans rfl, x5, HW2.out, hT4.drew, ?_, hmb, hN4, hC4⟩, ?_⟩
    · rw [places_succ, List.length_append]
      exact Row.keep HR4.out (Turned.refl [] w4).drew (by simp)
    · rw [show a5.eval (.tmp 3) = .slice a4 (L.length + 1) c4 from (e5 3 (by omega) (by omega)).trans rfl]
      change s.n + 1 - (L.length + 1) < _
      omega
theorem cRList (hR : RP w r s) (ho : s.Ok) : Calls Tryz.prog 38 #[.pointer (some ⟨r.q, 0, none⟩)] w fun e w' => ∃ v, e = .returned v ∧ Turned [] w w' ∧ w'.ownsRow w.heap.size 3 1 v s.places.length (placesV s.places) := by
  have HP := cRPlaces hR ho
  have p1 := hR.c1
  clear hR
  go_enter Tryz.func38, Tryz.ntmps38
  go_wp2_with (go_at_call 92; refine HP.mono ?_; rintro e w1 ⟨v, rfl, h1, h2⟩; have H1 : Hid _ := h1; have H2 : Hid _ := h2; clear h1 h2)
  go_ret
  exact ⟨_, rfl, H1.out, H2.out⟩
end
end Go.Proofs.YtjbhnpofdafmbaaGreatDoor
/- Package pool's New, by contract. -/
namespace Go.Proofs.YtjbhnpofdafmbaaGreatDoor
open Go.RowKit
theorem infoPtr : (Tryz.prog.info? 111).map (fun i => (i.zero, i.size, i.bytes)) = some (some (.agg #[.pointer none]), 1, 8) := by kernel_rfl
theorem undPtrs : Tryz.prog.underlying 97 = some (.slice 111) := by kernel_rfl
theorem run_makePtrs (n : Nat) (h : n ≤ 1000000) (w : World) :
    (Instr.makeSlice 97 (.int .i64 (n + 1)) (.int .i64 (n + 1))).run Tryz.prog w = .ok (.slice (some ⟨w.heap.size, 0, none⟩) (n + 1) (n + 1)) (w.alloc (.cells (madeCells #[.pointer none] (n + 1)) 111)) := by
  obtain ⟨i, hi, hzz⟩ := Option.map_eq_some_iff.1 infoPtr
  simp only [Prod.mk.injEq] at hzz
  obtain ⟨hz, hs, hb⟩ := hzz
  have hr := run_make (P := Tryz.prog) w 97 111 i _ undPtrs hi hz .i64 .i64 ((n + 1 : Nat) : Int) ((n + 1 : Nat) : Int) (by omega) (Int.le_refl _) (by rw [hb]; omega) (by omega)
  simp only [Int.toNat_natCast, hs, Nat.mul_one] at hr
  exact hr
/-- The first k lead to b. -/
def ptrTab (b k j : Nat) : Value := if j < k then .pointer (some ⟨b, 0, none⟩) else .pointer none
abbrev tabObj (b k n : Nat) : Obj := .cells ((List.range (n + 1)).map (ptrTab b k)).toArray 111 (0, 0)
theorem made_tab (b n : Nat) : (.cells (madeCells #[.pointer none] (n + 1)) 111 : Obj) = tabObj b 0 n := by
  unfold tabObj
  congr 1
  apply Array.ext
  · simp [madeCells]
  · intro i h1 h2
    simp [madeCells, ptrTab, Nat.mod_one]
theorem tab_cell {w : World} {sb b k n : Nat} (h : w.heap[sb]? = some (tabObj b k n)) {j : Nat} (hj : j ≤ n) : w.cell? ⟨sb, j, none⟩ = some (ptrTab b k j) := by
  rw [cell_at h, List.getElem?_toArray, List.getElem?_map, List.getElem?_range (by omega)]; rfl
theorem tab_put {w : World} {sb b k n : Nat} (h : w.heap[sb]? = some (tabObj b k n)) : (w.setCell ⟨sb, k, none⟩ (.pointer (some ⟨b, 0, none⟩))).heap[sb]? = some (tabObj b (k + 1) n) := by
  rw [blk_set h]
  congr 2
  apply Array.ext
  · simp
  · intro i h1 h2
    simp only [List.size_toArray, List.length_map, List.length_range] at h2
    by_cases e : i = k
    · subst e; simp [ptrTab]
    · have e' : ¬ k = i := fun x => e x.symm
      have : (i < k + 1) = (i < k) := propext ⟨fun h => by omega, fun h => by omega⟩
      simp [ptrTab, e', this]
structure PNewing (W w : World) (n k : Nat) : Prop where
  turned : Turned [] W w
  head : w.heap[W.heap.size + 1]? = some (pileObj 1099511627776 W.heap.size n)
  next : w.heap[W.heap.size]? = some (nextObj (fNew n) n)
  slots : w.heap[W.heap.size + 2]? = some (tabObj (W.heap.size + 4) k n)
  pool : w.heap[W.heap.size + 3]? = some (poolObj (W.heap.size + 2) (W.heap.size + 1) n 0)
  life : w.heap[W.heap.size + 4]? = some (lifeObj ⟨0, 0, 0, 0, 0, 0, 0⟩)
theorem PNewing.put {W w : World} {n k : Nat} (H : PNewing W w n k) : PNewing W (w.setCell ⟨W.heap.size + 2, k, none⟩ (.pointer (some ⟨W.heap.size + 4, 0, none⟩))) n (k + 1) :=
  ⟨H.turned.set (.inr (by omega)) _ _, (blk_other (by omega) _ _).trans H.head, (blk_other (by omega) _ _).trans H.next, tab_put H.slots, (blk_other (by omega) _ _).trans H.pool, (blk_other (by omega) _ _).trans H.life⟩
theorem PNewing.start {W w2 : World} {n : Nat} (hN : Newing W w2 n n (1099511627776 + 0)) : PNewing W (((w2.alloc (.cells (madeCells #[.pointer none] (n + 1)) 111)).alloc (poolObj (W.heap.size + 2) (W.heap.size + 1) n 0)).alloc (lifeObj ⟨0, 0, 0, 0, 0, 0, 0⟩)) n 0 := by
  have hsz := hN.size
  have e3 : (w2.alloc (.cells (madeCells #[.pointer none] (n + 1)) 111)).heap.size = W.heap.size + 3 := by simp [hsz]
  have e4 : ((w2.alloc (.cells (madeCells #[.pointer none] (n + 1)) 111)).alloc (poolObj (W.heap.size + 2) (W.heap.size + 1) n 0)).heap.size = W.heap.size + 4 := by simp [hsz]
  refine ⟨((hN.turned.alloc _).alloc _).alloc _, blk_old (blk_old (blk_old hN.head _) _) _, blk_old (blk_old (blk_old hN.next _) _) _, ?_, ?_, ?_⟩
  · have := blk_new w2 (.cells (madeCells #[.pointer none] (n + 1)) 111)
    rw [hsz] at this
    exact (blk_old (blk_old this _) _).trans (congrArg some (made_tab _ n))
  · have := blk_new (w2.alloc (.cells (madeCells #[.pointer none] (n + 1)) 111)) (poolObj (W.heap.size + 2) (W.heap.size + 1) n 0)
    rw [e3] at this
    exact blk_old this _
  · have := blk_new ((w2.alloc (.cells (madeCells #[.pointer none] (n + 1)) 111)).alloc (poolObj (W.heap.size + 2) (W.heap.size + 1) n 0)) (lifeObj ⟨0, 0, 0, 0, 0, 0, 0⟩)
    rwa [e4] at this
theorem PNewing.end_ {W w : World} {n : Nat} (H : PNewing W w n (n + 1)) : PA w (W.heap.size + 3) (W.heap.size + 2) (W.heap.size + 1) W.heap.size (fun _ => W.heap.size + 4) (PSt.new n) := by
  refine ⟨H.pool, H.slots.trans ?_, fun i _ => H.life, ⟨H.head, H.next.trans ?_, by omega⟩, fun _ _ _ _ _ _ => rfl⟩
  · show some (tabObj (W.heap.size + 4) (n + 1) n) = some (ptrObj (fun _ => W.heap.size + 4) n)
    unfold tabObj ptrObj
    congr 3
    refine List.map_congr_left fun t ht => ?_
    unfold ptrTab
    rw [if_pos (List.mem_range.1 ht)]
  · congr 2
    congr 1
    congr 1
    funext k
    show fNew n k = (((if 1 ≤ k ∧ k < n then k + 1 else 0 : Nat)) : Int)
    unfold fNew
    by_cases e : 1 ≤ k ∧ k < n
    · rw [if_pos e, if_pos e]; omega
    · rw [if_neg e, if_neg e]; rfl
set_option maxRecDepth 100000 in
set_option maxHeartbeats 1600000 in
theorem cPNew (w : World) (n : Nat) (h1 : 1 ≤ n) (h2 : n ≤ 4096) : Calls Tryz.prog 9 #[.int .i64 n] w fun e w' => e = .returned (.tuple #[.pointer (some ⟨w.heap.size + 3, 0, none⟩), .int .i64 0]) ∧ Turned [] w w' ∧ PA w' (w.heap.size + 3) (w.heap.size + 2) (w.heap.size + 1) w.heap.size (fun _ => w.heap.size + 4) (PSt.new n) := by
  have HN := cNewPile w n 0 h1 h2 (by omega) (by omega)
  have hmk := run_makePtrs n (by omega)
  go_enter Tryz.func9, Tryz.ntmps9
  go_wp2_with (go_at_call 53; refine HN.mono ?_; rintro e w2 ⟨rfl, hN⟩; have hsz := hN.size; have H0 : Hid _ := PNewing.start hN)
  go_loopw [29] (fun i wx => ∃ k : Nat, k ≤ n + 1 ∧ i = .int .i64 k ∧ Hid (PNewing w wx n k)) (fun i _ => n + 1 - (intOf i).toNat)
  case atStart => exact ⟨0, Nat.zero_le _, rfl, H0⟩
  case round =>
    obtain ⟨k, hk, rfl, HT⟩ := hrel
    clear H0 hN hmk
    have cp : wr.cell? ⟨w.heap.size + 2 + 1, 0, none⟩ = some (.slice (some ⟨w.heap.size + 2, 0, none⟩) (n + 1) (n + 1)) := (cell_at HT.out.pool 0).trans (by simp)
    by_cases hkn : k < n + 1
    · have hlt : (k : Int) < (n : Int) + 1 := by omega
      have HSt := cPStore (a := ⟨w.heap.size + 2, k, none⟩) (b := w.heap.size + 2 + 1 + 1) (tab_cell HT.out.slots (by omega)) (froz_at HT.out.slots k) HT.out.life rfl
      go_wp2_with (go_at_call 54; refine HSt.mono ?_; rintro e w' ⟨rfl, rfl⟩)
      exact ⟨⟨k + 1, by omega, by go_num, HT.out.put⟩, by simp [intOf]; omega⟩
    · have : k = n + 1 := by omega
      subst this
      go_wp2
      go_ret2
      exact ⟨rfl, HT.out.turned, HT.out.end_⟩
end Go.Proofs.YtjbhnpofdafmbaaGreatDoor
/- A frame, spelled out. -/
namespace Go.Proofs.YtjbhnpofdafmbaaGreatDoor
open Go.RowKit
def lit30 (c : Nat → Value) : Array Value := #[c 0, c 1, c 2, c 3, c 4, c 5, c 6, c 7, c 8, c 9, c 10, c 11, c 12, c 13, c 14, c 15, c 16, c 17, c 18, c 19, c 20, c 21, c 22, c 23, c 24, c 25, c 26, c 27, c 28, c 29]
set_option maxRecDepth 100000 in
theorem lit30_eq (c : Nat → Value) : lit30 c = ((List.range 30).map c).toArray := by rfl
theorem expand30 {a : Act} (hs : a.tmps.size = 30) (hd : a.defers = []) : ∃ c : Nat → Value, a = ⟨lit30 c, []⟩ ∧ ∀ s, c s = a.eval (.tmp s) := by
  refine ⟨fun s => a.tmps.getD s undef, ?_, fun s => rfl⟩
  obtain ⟨t, d⟩ := a
  simp only at hs hd
  subst hd
  congr 1
  rw [lit30_eq]
  refine Array.ext (by simp [hs]) fun i h1 h2 => ?_
  simp [Array.getD, h1]
end Go.Proofs.YtjbhnpofdafmbaaGreatDoor
/- The document's thread, words, pile and pool: made. -/
namespace Go.Proofs.YtjbhnpofdafmbaaGreatDoor
open Go.RowKit
set_option maxRecDepth 100000 in
theorem cRAlone (w : World) (mb : Nat) : Calls Tryz.prog 19 #[.pointer (some ⟨mb, 0, none⟩), .int .i64 0] w fun e w' => e = .returned (.pointer (some ⟨w.heap.size, 0, none⟩)) ∧ Th [w.heap.size] w' w.heap.size mb 0 ∧ Turned [] w w' := by
  have HT : Hid (Th [w.heap.size] (w.alloc (.cells #[.pointer (some ⟨mb, 0, none⟩), .int .i64 0, .bool false, .int .i64 0, .slice none 0 0, .int .i64 0, .int .i64 4611686018427387904] 134 (0, 0))) w.heap.size mb 0 ∧ Turned [] w (w.alloc (.cells #[.pointer (some ⟨mb, 0, none⟩), .int .i64 0, .bool false, .int .i64 0, .slice none 0 0, .int .i64 0, .int .i64 4611686018427387904] 134 (0, 0)))) := ⟨Th.start (blk_new w _), (Turned.refl [] w).alloc _⟩
  go_enter Tryz.func19, Tryz.ntmps19
  go_wp2
  go_ret
  exact ⟨rfl, HT.out⟩
/-- The document's words, their row one's own. -/
structure MemF (w : World) (mb : Nat) (lv : Value) (N : Nat) (ws : Nat → Int) : Prop where
  obj : w.heap[mb]? = some (.cells #[lv] 128 (0, 0))
  row : w.ownsRow 0 3 1 lv N ((List.range N).map fun j => .int .i64 (ws j))
section
variable {w w' : World} {mb N : Nat} {lv : Value} {ws : Nat → Int}
theorem cRMem (w : World) : Calls Tryz.prog 17 #[] w fun e w' => e = .returned (.pointer (some ⟨w.heap.size, 0, none⟩)) ∧ MemF w' w.heap.size (.slice none 0 0) 0 (fun _ => 0) ∧ w' = w.alloc (.cells #[.slice none 0 0] 128 (0, 0)) := by
  have HM : Hid (MemF (w.alloc (.cells #[.slice none 0 0] 128 (0, 0))) w.heap.size (.slice none 0 0) 0 (fun _ => 0)) := ⟨blk_new w _, World.ownsRow_nil _ _ _ _⟩
  go_enter Tryz.func17, Tryz.ntmps17
  go_wp2
  go_ret
  exact ⟨rfl, HM.out, rfl⟩
theorem MemF.at_ (h : MemF w mb lv N ws) (hN : 0 < N) : ∃ g, lv.ownBlock = some g ∧ MemAt w mb g N ws := by
  obtain ⟨g, cap, cur, rfl, hg, hc⟩ := Row.form h.row hN
  have h1 := h.obj
  refine ⟨g, rfl, cap, cur, h1, hg, ?_, fun j hj => ?_⟩
  · obtain ⟨-, h2⟩ := h.row
    rcases h2 with ⟨e, -⟩ | ⟨g', cap', cur', e, -, e3, e4, e5, e6, -⟩
    · cases e
    · simp only [Value.slice.injEq, Option.some.injEq, Addr.mk.injEq] at e
      obtain ⟨⟨rfl, -⟩, -, rfl⟩ := e
      rw [hg] at e3
      simp at e3
      subst e3
      omega
  · have := World.ownsRow.cellAt h.row j (by omega)
    rw [cell_at hg] at this
    rw [this]
    simp [hj]
theorem MemF.keep (h : MemF w mb lv N ws) {l : List Nat} (ht : Turned l w w') (h1 : mb ∉ l) (h2 : ∀ g, lv.ownBlock = some g → g ∉ l) : MemF w' mb lv N ws := ⟨ht.heap h.obj h1, Row.keep h.row ht h2⟩
theorem MemF.congr {ws' : Nat → Int} (h : MemF w mb lv N ws) (he : ∀ j, j < N → ws' j = ws j) : MemF w mb lv N ws' := ⟨h.obj, by
  have : ((List.range N).map fun j => Value.int .i64 (ws' j)) = ((List.range N).map fun j => Value.int .i64 (ws j)) := List.map_congr_left fun j hj => by rw [he j (List.mem_range.1 hj)]
  rw [this]
  exact h.row⟩
theorem MemF.apart (h : MemF w mb lv N ws) : lv.ownBlock ≠ some mb := Row.apart h.row h.obj (by decide)
/-- So many more words, each v. -/
def wordsF (ws : Nat → Int) (N : Nat) (v : Int) (j : Nat) : Int := if j < N then ws j else v
structure WI (w : World) (mb N n : Nat) (v : Int) (ws : Nat → Int) (lv : Value) (a' : Act) (w' : World) : Prop where
  ex : ∃ (k : Nat) (lv' : Value), k ≤ n ∧ a'.tmps.size = 30 ∧ a'.defers = [] ∧ a'.eval (.tmp 0) = pv mb 0 ∧ a'.eval (.tmp 1) = .int .i64 (n : Nat) ∧ a'.eval (.tmp 2) = .int .i64 v ∧ a'.eval (.tmp 7) = .int .i64 (N : Nat) ∧ a'.eval (.tmp 8) = .int .i64 (k : Nat) ∧ MemF w' mb lv' (N + k) (wordsF ws N v) ∧ Turned (mb :: lv.ownBlock.toList) w w' ∧ (∀ g, lv'.ownBlock = some g → lv.ownBlock = some g ∨ w.heap.size ≤ g)
set_option maxRecDepth 100000 in
set_option maxHeartbeats 3200000 in
theorem cRWords {n : Nat} {v : Int} (h : MemF w mb lv N ws) (hn : n ≤ 5000) (hN : N ≤ 10000) : Calls Tryz.prog 69 #[.pointer (some ⟨mb, 0, none⟩), .int .i64 (n : Nat), .int .i64 v] w fun e w' => e = .returned (.int .i64 (N : Nat)) ∧ ∃ lv', MemF w' mb lv' (N + n) (wordsF ws N v) ∧ Turned (mb :: lv.ownBlock.toList) w w' ∧ (∀ g, lv'.ownBlock = some g → lv.ownBlock = some g ∨ w.heap.size ≤ g) := by
  obtain ⟨la, lc, rfl⟩ := Row.shape h.row
  have c0 := cell_at h.obj 0
  simp at c0
  have HM : Hid (MemF w mb (.slice la N lc) (N + 0) (wordsF ws N v)) := h.congr (fun j hj => by unfold wordsF; rw [if_pos (by omega)])
  clear h
  go_enter Tryz.func69, Tryz.ntmps69
  go_wp2
  rename_i K hK
  refine wp_loop (WI w mb N n v ws (.slice la N lc)) (fun a' _ => n - (intOf (a'.eval (.tmp 8))).toNat) ?_ ?_
  · exact ⟨0, _, Nat.zero_le _, rfl, rfl, rfl, rfl, rfl, rfl, rfl, HM.out, Turned.refl _ _, fun g hg => .inl hg⟩
  rintro a2 w2 ⟨k, lv', hk, hs2, hd2, x0, x1, x2, x7, x8, hm, hT, hnew⟩
  obtain ⟨cc, rfl, hcc⟩ := expand30 hs2 hd2
  have y0 : cc 0 = .pointer (some ⟨mb, 0, none⟩) := (hcc 0).trans x0
  have y1 : cc 1 = .int .i64 (n : Nat) := (hcc 1).trans x1
  have y2 : cc 2 = .int .i64 v := (hcc 2).trans x2
  have y7 : cc 7 = .int .i64 (N : Nat) := (hcc 7).trans x7
  have y8 : cc 8 = .int .i64 (k : Nat) := (hcc 8).trans x8
  rw [x8, show (intOf (.int .i64 (k : Nat))).toNat = k by simp [intOf]]
  obtain ⟨lb, lc2, rfl⟩ := Row.shape hm.row
  have q0 := cell_at hm.obj 0
  simp at q0
  have hap := hm.apart
  have HM2 : Hid _ := hm
  have HT : Hid _ := hT
  have HN : Hid _ := hnew
  have HA : Hid _ := hap
  clear hcc x0 x1 x2 x7 x8 hs2 hd2 hm hT hnew hap c0 HM
  unfold lit30
  simp only [y0, y1, y2, y7, y8]
  clear y0 y1 y2 y7 y8
  by_cases hlt : k < n
  · have hl : (k : Int) < (n : Int) := by omega
    go_wp2_with (at_builtin; refine wpList_push rfl _ _ 29 rfl 0 3 (.int .i64 0) 8 rUndInts rInfoInt rfl (.slice lb (N + k) lc2) (N + k) _ rfl (Row.alloc HM2.out.row _) ⟨_, 0, none⟩ 1 (.int .i64 v) rfl (by go_simp) rfl (by unfold maxLen; omega) (by omega) (by omega) ?_; intro v' w4 hr4 hG4; obtain ⟨a4, c4, rfl⟩ := Row.shape hr4; have ho4 := hG4.heap (blk_old HM2.out.obj _) HA.out; have q4 := cell_at ho4 0; simp at q4; have z4 := froz_at ho4 0; have HR4 : Hid _ := hr4; have HG4 : Hid _ := hG4; have HO4 : Hid _ := ho4; clear hr4 hG4 ho4)
    have hne4 : (Value.slice a4 (N + k + 1) c4).ownBlock ≠ some mb := Row.apart HR4.out HO4.out (by decide)
    refine ⟨⟨k + 1, .slice a4 (N + k + 1) c4, by omega, rfl, rfl, rfl, rfl, rfl, rfl, by show Value.int .i64 ((k : Int) + 1) = .int .i64 ((k + 1 : Nat) : Int); simp, ⟨?_, ?_⟩, ?_, ?_⟩, ?_⟩
    · have := blk_set HO4.out 0 (.slice a4 (N + k + 1) c4)
      simpa using this
    · have h1 := Row.keep HR4.out (((Turned.refl [mb] w4).set (r := mb) (.inl (by simp)) 0 (.slice a4 (N + k + 1) c4))) (fun g hg e => by
        simp at e
        subst e
        exact hne4 hg)
      have h2 : ((List.range (N + (k + 1))).map fun j => Value.int .i64 (wordsF ws N v j)) = ((List.range (N + k)).map fun j => Value.int .i64 (wordsF ws N v j)) ++ [.int .i64 v] := by
        rw [show N + (k + 1) = (N + k) + 1 by omega, List.range_succ, List.map_append]
        have : wordsF ws N v (N + k) = v := by unfold wordsF; rw [if_neg (by omega)]
        simp [this]
      rw [h2]
      exact h1
    · refine Turned.set ?_ (.inl (by simp)) _ _
      refine (HT.out.alloc _).grown HG4.out.1 (fun g hg => ?_)
      rcases HN.out g hg with h1 | h1
      · exact .inl (by simp [h1])
      · exact .inr h1
    · intro g hg
      rcases HG4.out.2 with e | ⟨g', e, e2⟩
      · exact HN.out g (e ▸ hg)
      · have : g = g' := by
          have := hg.symm.trans e
          simpa using this
        subst this
        have := HT.out.size
        simp at e2
        exact .inr (by omega)
    · have e : (intOf (Value.int .i64 ((k : Int) + 1))).toNat = k + 1 := by simp [intOf]
      change n - (intOf (Value.int .i64 ((k : Int) + 1))).toNat < _
      rw [e]
      omega
  · obtain rfl : k = n := by omega
    have hl : ¬ (k : Int) < (k : Int) := by omega
    go_wp2
    go_ret
    exact ⟨rfl, _, HM2.out, HT.out, HN.out⟩
end
end Go.Proofs.YtjbhnpofdafmbaaGreatDoor
/- The document's pile and pool: made. -/
namespace Go.Proofs.YtjbhnpofdafmbaaGreatDoor
open Go.RowKit
/-- The pile's words, when k of its places lead on. -/
def w8 (k j : Nat) : Int := if j = 0 then 1099511627776 else if 2 ≤ j ∧ j < 2 + k then (j : Int) else 0
section
variable {w : World} {mb n : Nat}
theorem MemF.put {w : World} {lv : Value} {N g : Nat} {ws : Nat → Int} (h : MemF w mb lv N ws) (hg : lv.ownBlock = some g) {j : Nat} (hj : j < N) (v : Int) : MemF (w.setCell ⟨g, j, none⟩ (.int .i64 v)) mb lv N (updI ws j v) := by
  obtain ⟨g', cap, cur, rfl, hgo, hc⟩ := Row.form h.row (by omega)
  simp [Value.ownBlock] at hg
  subst hg
  have hne : mb ≠ g' := fun e => h.apart (by simp [Value.ownBlock, e])
  refine ⟨(blk_other hne _ _).trans h.obj, ?_⟩
  have := (World.ownsRow.stored h.row j (.int .i64 v)).1
  have e : ((List.range N).map fun i => Value.int .i64 (updI ws j v i)) = ((List.range N).map fun i => Value.int .i64 (ws i)).set j (.int .i64 v) := by
    apply List.ext_getElem?
    intro i
    rw [List.getElem?_set]
    by_cases e1 : j = i
    · subst e1
      simp [updI, hj]
    · rw [if_neg e1]
      by_cases e2 : i < N
      · have e3 : ¬ i = j := fun x => e1 x.symm
        simp [updI, e2, e3]
      · simp [e2]
  rw [e]
  exact this
structure NI (w : World) (mb n : Nat) (a' : Act) (w' : World) : Prop where
  ex : ∃ (k pb : Nat) (lv : Value), 1 ≤ k ∧ k ≤ n ∧ a'.tmps.size = 53 ∧ a'.defers = [] ∧ a'.eval (.tmp 0) = pv mb 0 ∧ a'.eval (.tmp 1) = .int .i64 (n : Nat) ∧ a'.eval (.tmp 9) = pv pb 0 ∧ a'.eval (.tmp 10) = .int .i64 (k : Nat) ∧ w.heap.size ≤ pb ∧ RPile w' pb mb 0 1 n ∧ MemF w' mb lv (n + 2) (w8 (k - 1)) ∧ Turned [mb] w w' ∧ (∀ g, lv.ownBlock = some g → w.heap.size ≤ g)
theorem cRNew8Bad {x : Int} (hx : x < 1 ∨ 4096 < x) : Calls Tryz.prog 68 #[.pointer (some ⟨mb, 0, none⟩), .int .i64 x, .int .i64 0] w fun e w' => e = .returned (.pointer none) ∧ w' = w := by
  have HP := fun w => rPack 1 0 w
  rw [(pack_ok 1 0 (by omega) (by omega) (by omega) (by omega)).1, (pack_ok 1 0 (by omega) (by omega) (by omega) (by omega)).2] at HP
  rcases (by omega : x < 1 ∨ (1 ≤ x ∧ 4096 < x)) with h | ⟨h1, h2⟩
  · go_enter Tryz.func68, Tryz.ntmps68
    go_wp2_with (go_at_call 74; refine (HP _).mono ?_; rintro e w' ⟨rfl, hw⟩; obtain rfl := hw.symm)
    go_ret
    exact ⟨rfl, rfl⟩
  · have hd : decide (x < 1) = false := decide_eq_false (by omega)
    have hd2 : decide (4096 < x) = true := decide_eq_true (by omega)
    go_enter Tryz.func68, Tryz.ntmps68
    go_wp2_with (go_at_call 74; refine (HP _).mono ?_; rintro e w' ⟨rfl, hw⟩; obtain rfl := hw.symm)
    go_ret
    exact ⟨rfl, rfl⟩
set_option maxRecDepth 100000 in
set_option maxHeartbeats 3200000 in
theorem cRNew8 (h : MemF w mb (.slice none 0 0) 0 (fun _ => 0)) (h1 : 1 ≤ n) (h2 : n ≤ 4096) : Calls Tryz.prog 68 #[.pointer (some ⟨mb, 0, none⟩), .int .i64 (n : Nat), .int .i64 0] w fun e w' => ∃ pb lv, e = .returned (.pointer (some ⟨pb, 0, none⟩)) ∧ w.heap.size ≤ pb ∧ RPile w' pb mb 0 1 n ∧ MemF w' mb lv (n + 2) (w8 (n - 1)) ∧ Turned [mb] w w' ∧ (∀ g, lv.ownBlock = some g → w.heap.size ≤ g) := by
  have HP := fun w => rPack 1 0 w
  rw [(pack_ok 1 0 (by omega) (by omega) (by omega) (by omega)).1, (pack_ok 1 0 (by omega) (by omega) (by omega) (by omega)).2] at HP
  simp only [Int.one_mul, Int.add_zero] at HP
  have hd : decide ((n : Int) < 1) = false := decide_eq_false (by omega)
  have hd2 : decide (4096 < (n : Int)) = false := decide_eq_false (by omega)
  have HW := cRWords (n := 1) (v := 1099511627776) h (by omega) (by omega)
  have hmb := lt_of_heap h.obj
  clear h
  go_enter Tryz.func68, Tryz.ntmps68
  go_wp2_with (first
    | (go_at_call 74; refine (HP _).mono ?_; rintro e w' ⟨rfl, hw⟩; obtain rfl := hw.symm)
    | (go_at_call 69; refine HW.mono ?_; clear HW; rintro e w1 ⟨rfl, lv1, m1, t1, n1⟩; have HW2 := cRWords (n := n + 1) (v := 0) m1 (by omega) (by omega); rw [show ((n + 1 : Nat) : Int) = (n : Int) + 1 by omega] at HW2; have HT1 : Hid _ := t1; have HN1 : Hid _ := n1; clear m1 t1 n1)
    | (go_at_call 69; refine HW2.mono ?_; clear HW2; rintro e w2 ⟨rfl, lv2, m2, t2, n2⟩; have HM2 : Hid _ := m2; have HT2 : Hid _ := t2; have HN2 : Hid _ := n2; clear m2 t2 n2))
  rename_i K hK
  have HPM : Hid (RPile (w2.alloc (.cells #[.pointer (some ⟨mb, 0, none⟩), .int .i64 0, .int .i64 1, .int .i64 (n : Nat)] 181 (0, 0))) w2.heap.size mb 0 1 n) := blk_new w2 _
  have HN2' : Hid (∀ g, lv2.ownBlock = some g → w.heap.size ≤ g) := fun g hg => by
    have s1 := HT1.out.size
    rcases HN2.out g hg with e | e
    · rcases HN1.out g e with e | e
      · simp [Value.ownBlock] at e
      · exact e
    · omega
  have HT2' : Hid (Turned [mb] w w2) := (HT1.out.mono (by simp [Value.ownBlock])).inner HT2.out (fun x hx => by
    rcases List.mem_cons.1 hx with e | e
    · exact .inl (by simp [e])
    · rcases HN1.out x (by simpa using e) with e | e
      · simp [Value.ownBlock] at e
      · exact .inr e)
  have HM2' : Hid (MemF (w2.alloc (.cells #[.pointer (some ⟨mb, 0, none⟩), .int .i64 0, .int .i64 1, .int .i64 (n : Nat)] 181 (0, 0))) mb lv2 (n + 2) (w8 (1 - 1))) := by
    have h := (HM2.out.keep ((Turned.refl [] w2).alloc (.cells #[.pointer (some ⟨mb, 0, none⟩), .int .i64 0, .int .i64 1, .int .i64 (n : Nat)] 181 (0, 0))) (by simp) (by simp)).congr (ws' := w8 (1 - 1)) (fun j hj => by
      unfold w8 wordsF
      by_cases e : j = 0
      · subst e; simp
      · rw [if_neg e, if_neg (by omega), if_neg (by omega)])
    rwa [show 0 + 1 + (n + 1) = n + 2 by omega] at h
  refine wp_loop (NI w mb n) (fun a' _ => n - (intOf (a'.eval (.tmp 10))).toNat) ?_ ?_
  · exact ⟨1, w2.heap.size, lv2, Nat.le_refl _, h1, rfl, rfl, rfl, rfl, rfl, rfl, HT2'.out.size, HPM.out, HM2'.out, HT2'.out.alloc _, HN2'.out⟩
  clear HPM HN2' HT2' HM2' HM2 HT1 HT2 HN1 HN2 HP
  rintro a2 w3 ⟨k, pb, lv, hk1, hk, hs2, hd2, x0, x1, x9, x10, hpb, hp, hm, hT, hnew⟩
  obtain ⟨cc, rfl, hcc⟩ := expand53 hs2 hd2
  have y0 : cc 0 = .pointer (some ⟨mb, 0, none⟩) := (hcc 0).trans x0
  have y1 : cc 1 = .int .i64 (n : Nat) := (hcc 1).trans x1
  have y9 : cc 9 = .pointer (some ⟨pb, 0, none⟩) := (hcc 9).trans x9
  have y10 : cc 10 = .int .i64 (k : Nat) := (hcc 10).trans x10
  rw [x10, show (intOf (.int .i64 (k : Nat))).toNat = k by simp [intOf]]
  obtain ⟨g, hg, hat⟩ := hm.at_ (by omega)
  have p2 := RPile.c2 hp
  have HM : Hid _ := hm
  have HP : Hid _ := hp
  have HT : Hid _ := hT
  have HN : Hid _ := hnew
  have HG : Hid _ := hg
  have hpg : Hid (pb ≠ g) := by
    obtain ⟨cap, cs, e1, e2, -⟩ := hat.ex
    exact other_type hp e2 (by decide)
  clear hcc x0 x1 x9 x10 hs2 hd2 hm hT hnew hp hg
  unfold lit53
  simp only [y0, y1, y9, y10]
  clear y0 y1 y9 y10
  by_cases hlt : k < n
  · have hl : (k : Int) < (n : Int) := by omega
    have HPu := cRPut (a := 1 + k) (v := (k : Int) + 1) hat (by omega)
    rw [show ((1 + k : Nat) : Int) = 1 + (k : Int) by omega] at HPu
    clear hat
    go_wp2_with (go_at_call 72; refine HPu.mono ?_; rintro e w4 ⟨rfl, rfl, -⟩)
    refine ⟨⟨k + 1, pb, lv, by omega, by omega, rfl, rfl, rfl, rfl, rfl, by show Value.int .i64 ((k : Int) + 1) = .int .i64 ((k + 1 : Nat) : Int); simp, hpb, (blk_other hpg.out _ _).trans HP.out, ?_, HT.out.set (.inr (HN.out g HG.out)) _ _, HN.out⟩, ?_⟩
    · refine (HM.out.put HG.out (j := 1 + k) (by omega) ((k : Int) + 1)).congr (fun j hj => ?_)
      unfold updI w8
      by_cases e : j = 1 + k
      · subst e
        rw [if_pos rfl, if_neg (by omega), if_pos (by omega)]
        omega
      · rw [if_neg e]
        by_cases e2 : j = 0
        · rw [if_pos e2, if_pos e2]
        · rw [if_neg e2, if_neg e2]
          by_cases e3 : 2 ≤ j ∧ j < 2 + (k - 1)
          · rw [if_pos e3, if_pos (by omega)]
          · rw [if_neg e3, if_neg (by omega)]
    · have e : (intOf (Value.int .i64 ((k : Int) + 1))).toNat = k + 1 := by simp [intOf]
      change n - (intOf (Value.int .i64 ((k : Int) + 1))).toNat < _
      rw [e]
      omega
  · obtain rfl : k = n := by omega
    have hl : ¬ (k : Int) < (k : Int) := by omega
    clear hat
    go_wp2
    go_ret
    exact ⟨pb, rfl, hpb, HP.out, _, HM.out, HT.out, HN.out⟩
/-- What a new pool's words are. -/
theorem memF_new (h1 : 1 ≤ n) {j : Nat} (hj : j < 2 * n + 3) : memF (PSt.new n) j = wordsF (w8 (n - 1)) (n + 2) 0 j := by
  unfold memF wordsF w8 PSt.new
  by_cases e : j = 0
  · subst e
    simp
  · rw [if_neg e]
    by_cases e2 : j < n + 2
    · rw [if_pos e2, if_pos e2, if_neg e]
      by_cases e3 : 2 ≤ j ∧ j < 2 + (n - 1)
      · rw [if_pos e3]
        show ((if 1 ≤ j - 1 ∧ j - 1 < n then j - 1 + 1 else 0 : Nat) : Int) = j
        rw [if_pos (by omega)]
        omega
      · rw [if_neg e3]
        show ((if 1 ≤ j - 1 ∧ j - 1 < n then j - 1 + 1 else 0 : Nat) : Int) = 0
        rw [if_neg (by omega)]
        rfl
    · rw [if_neg e2, if_neg e2]
theorem zero_rows (n : Nat) : (.cells (madeCells zeros7 ((n + 1) * 7)) 64 : Obj) = recObj 64 7 (fun i k => rfld ((PSt.new n).slot i) k) (n + 1) := by
  rw [show (n + 1) * 7 = (n + 1) * zeros7.size from rfl, rec_made]
  exact rec_congr (by decide) fun j k hk => by
    match k, hk with
    | 0, _ => rfl
    | 1, _ => rfl
    | 2, _ => rfl
    | 3, _ => rfl
    | 4, _ => rfl
    | 5, _ => rfl
    | 6, _ => rfl
theorem cRNew10Bad {x : Int} (hx : x < 1 ∨ 4096 < x) : Calls Tryz.prog 18 #[.pointer (some ⟨mb, 0, none⟩), .int .i64 x] w fun e w' => e = .returned (.pointer none) ∧ w' = w := by
  have HN := cRNew8Bad (w := w) (mb := mb) hx
  go_enter Tryz.func18, Tryz.ntmps18
  go_wp2_with (go_at_call 68; refine HN.mono ?_; rintro e w' ⟨rfl, hw⟩; obtain rfl := hw.symm)
  go_ret
  exact ⟨rfl, rfl⟩
end
end Go.Proofs.YtjbhnpofdafmbaaGreatDoor
/- A region in whatever order; what its turning operations leave, and what they answer, hangs on the order: a ghost tells it. -/
namespace Go.Proofs.YtjbhnpofdafmbaaGreatDoor
open Go.RowKit
section
variable {P : Program} {ops : Array Oper} {Q : Exit → Act → World → Prop} {G : Type}
structure IGhost (ops : Array Oper) (D : List (Option Nat)) (V : G → Nat → Value) (a0 : Act) (As : List Nat) (done : G → Nat → Bool) (St : G → World → Prop) (l : Array Bool) (a : Act) (w : World) : Prop where
  size : l.size = D.length
  tsize : a.tmps.size = a0.tmps.size
  defers : a.defers = a0.defers
  off : ∀ s, some s ∉ D → a.tmps[s]? = a0.tmps[s]?
  closed : ∀ i j, on l i = true → waitsB ops i j = true → on l j = true
  g : ∃ g, St g w ∧ (∀ x ∈ As, done g x = on l x) ∧ ∀ i d, D.getD i none = some d → on l i = true → a.eval (.tmp d) = V g i
def YieldsG (P : Program) (ops : Array Oper) (D : List (Option Nat)) (V : G → Nat → Value) (a0 : Act) (As : List Nat) (done : G → Nat → Bool) (St : G → World → Prop) (Q : Exit → Act → World → Prop) (i : Nat) : Prop :=
  ∀ (o : Oper) (a : Act) (w : World) (g : G) (K : Act → World → Prop), ops[i]? = some o → o.dst = D.getD i none → a.tmps.size = a0.tmps.size → (∀ s, some s ∉ D → a.eval (.tmp s) = a0.eval (.tmp s)) → (∀ j d, D.getD j none = some d → waitsB ops i j = true → a.eval (.tmp d) = V g j) → St g w → (∀ x ∈ As, reachB ops ops.size i x = true → done g x = true) → (i ∈ As → done g i = false) → (∀ x ∈ As, reachB ops ops.size x i = true → done g x = false) →
    (∀ g' w', St g' w' → (∀ x ∈ As, done g' x = (done g x || x == i)) → (∀ j, j ≠ i → reachB ops ops.size j i = false → V g' j = V g j) → K (a.put (D.getD i none) (V g' i)) w') → o.wp P a w K Q
theorem wp_region_ghost {id : Nat} {a0 : Act} {w : World} (hm : P.follows .mixedOrders = true) (D : List (Option Nat)) (hok : regOk ops D a0.tmps.size = true) (hng : ops.all (fun o => o.guard.isNone) = true) (V : G → Nat → Value) (As : List Nat) (done : G → Nat → Bool) (St : G → World → Prop) (g0 : G) (h0 : St g0 w.drew) (hd0 : ∀ x ∈ As, done g0 x = false) (hlt : As.all (fun x => decide (x < D.length)) = true)
    (hstep : ∀ i, i < D.length → YieldsG P ops D V a0 As done St Q i)
    (hend : ∀ a' w' g, a'.tmps.size = a0.tmps.size → a'.defers = a0.defers → (∀ s, some s ∉ D → a'.tmps[s]? = a0.tmps[s]?) → St g w' → (∀ x ∈ As, done g x = true) → (∀ i d, D.getD i none = some d → a'.eval (.tmp d) = V g i) → Q .normal a' w') :
    (Code.region id ops true).wp P Q a0 w := by
  have hn : ops.size = D.length := by
    unfold regOk at hok
    simp only [Bool.and_eq_true, beq_iff_eq] at hok
    exact hok.1
  have mem : ∀ s i, D.getD i none = some s → some s ∈ D := fun s i e => by
    have hi : i < D.length := by
      apply Classical.byContradiction
      intro h
      rw [List.getD_eq_getElem?_getD, List.getElem?_eq_none (by omega)] at e
      cases e
    rw [List.getD_eq_getElem?_getD, List.getElem?_eq_getElem hi] at e
    have := List.getElem_mem hi
    rw [show D[i] = some s from e] at this
    exact this
  have lt : ∀ i d, D.getD i none = some d → i < D.length := fun i d e => by
    apply Classical.byContradiction
    intro h
    rw [List.getD_eq_getElem?_getD, List.getElem?_eq_none (by omega)] at e
    cases e
  have hoff : ∀ i, on (Array.replicate ops.size false) i = false := fun i => by
    simp only [on, Array.getD_eq_getD_getElem?, Array.getElem?_replicate]
    split <;> rfl
  refine wp_region_inv hm (fun i o ho => (reg_at hok ho).2.2.1) (IGhost ops D V a0 As done St) (fun l a w h => by rw [hn]; exact h.size) ?_ ?_ ?_
  · exact ⟨by simp [hn], rfl, rfl, fun _ _ => rfl, fun i j hh => (by rw [hoff] at hh; cases hh), g0, h0, fun x hx => by rw [hoff, hd0 x hx], fun i d _ hh => (by rw [hoff] at hh; cases hh)⟩
  · intro l a w' h i hi
    obtain ⟨hu, o, ho, hall⟩ := mem_ready.1 hi
    obtain ⟨r1, r2, r3, r4, r5, r6⟩ := reg_at hok ho
    have hoi : on l i = false := by simp only [on]; simp [Array.getD, h.size, r1] at hu ⊢; exact hu
    have hset : ∀ j, on (l.setIfInBounds i true) j = if i = j then true else on l j := fun j => on_set i j (by rw [h.size]; exact r1)
    obtain ⟨g, hg1, hg2, hg3⟩ := h.g
    have hgd : o.guard = none := by
      have := Array.all_eq_true.1 hng i (by rw [hn]; exact r1)
      rw [(Array.getElem?_eq_some_iff.1 ho).2] at this
      simpa using this
    refine wpOp_of ho hgd ?_
    refine hstep i r1 o a w' g _ ho r2 h.tsize (fun s hs => ?_) (fun j d hjd hh => hg3 j d hjd (dep_of hi (waits_map hh))) hg1 (fun x hx hr => ?_) (fun hm => ?_) (fun x hx hr => ?_) ?_
    · simp only [Act.eval, Array.getD_eq_getD_getElem?, h.off s hs]
    · rw [hg2 x hx]
      exact reach_on_ready hi hr h.closed
    · rw [hg2 i hm, hoi]
    · rw [hg2 x hx]
      cases hx2 : on l x with
      | false => rfl
      | true =>
        have := reach_on h.closed ops.size x i hx2 hr
        rw [hoi] at this
        cases this
    · intro g' w2 hS hdn hV
      have hputs : (a.put (D.getD i none) (V g' i)).tmps.size = a0.tmps.size := by
        cases hD : D.getD i none <;> simp [Act.put, h.tsize]
      have hputd : (a.put (D.getD i none) (V g' i)).defers = a0.defers := by
        cases hD : D.getD i none <;> simp [Act.put, h.defers]
      refine ⟨by simp [h.size], hputs, hputd, fun s hs => ?_, fun x y hx hy => ?_, g', hS, fun x hx => ?_, fun j d hjd hh => ?_⟩
      · cases hD : D.getD i none with
        | none => exact h.off s hs
        | some d =>
          have : d ≠ s := fun e => hs (mem s i (by rw [hD, e]))
          simp only [Act.put, Array.getElem?_setIfInBounds, this, if_false]
          exact h.off s hs
      · rw [hset] at hx ⊢
        by_cases e2 : i = y
        · rw [if_pos e2]
        · rw [if_neg e2]
          by_cases e1 : i = x
          · subst e1
            exact dep_of hi (waits_map hy)
          · rw [if_neg e1] at hx
            exact h.closed x y hx hy
      · rw [hdn x hx, hg2 x hx, hset]
        by_cases e : i = x
        · subst e
          simp
        · have e' : ¬ x = i := fun z => e z.symm
          simp [e, e']
      · rw [hset] at hh
        by_cases e : i = j
        · subst e
          rw [hjd, ev_put _ _ _ (by rw [h.tsize]; exact r4 d hjd), if_pos rfl]
        · rw [if_neg e] at hh
          have hVj : V g' j = V g j := hV j (fun z => e z.symm) (by
            cases hr : reachB ops ops.size j i with
            | false => rfl
            | true =>
              have := reach_on h.closed ops.size j i hh hr
              rw [hoi] at this
              cases this)
          rw [hVj]
          cases hD : D.getD i none with
          | none => exact hg3 j d hjd hh
          | some d' =>
            rw [ev_put _ _ _ (by rw [h.tsize]; exact r4 d' hD), if_neg (fun e2 => e (r5 j d (lt j d hjd) (by rw [hD, e2]) hjd))]
            exact hg3 j d hjd hh
  · intro l a w' h hall
    have hal : ∀ i, i < D.length → on l i = true := fun i hi => by
      have := hall i (by rw [hn]; exact hi)
      simp only [on, Array.getD, h.size, hi, dite_true] at this ⊢
      exact this
    obtain ⟨g, hg1, hg2, hg3⟩ := h.g
    exact hend a w' g h.tsize h.defers h.off hg1 (fun x hx => by
      rw [hg2 x hx]
      exact hal x (by simpa using List.all_eq_true.1 hlt x hx)) fun i d hD => hg3 i d hD (hal i (lt i d hD))
end
end Go.Proofs.YtjbhnpofdafmbaaGreatDoor

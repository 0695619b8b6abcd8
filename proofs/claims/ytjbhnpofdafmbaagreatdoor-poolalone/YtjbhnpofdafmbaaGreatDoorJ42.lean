/- The law. -/
import Derived.Test.YtjbhnpofdafmbaaGreatDoorJ41
namespace Go.Proofs.YtjbhnpofdafmbaaGreatDoor
open Go.RowKit
section
variable {W w : World}
/-- The list of calls, as it lies in memory. -/
structure Ops (W : World) (v : Value) (N : Nat) : Prop where
  ex : ∃ (oa : Option Addr) (oc : Nat) (O : Nat → OpV), v = .slice oa N oc ∧ (0 < N → ∃ mb mo, oa = some ⟨mb, mo, none⟩ ∧ ∀ k, k < N → ∀ j, j < 9 → W.cell? ⟨mb, mo + k * 9 + j, none⟩ = (opC (O k))[j]?)
structure LAI (W : World) (v : Value) (N x1 x2 bb : Nat) (a' : Act) (w' : World) : Prop where
  ex : ∃ k : Nat, k ≤ N ∧ a'.tmps.size = 103 ∧ a'.defers = [] ∧ a'.eval (.tmp 2) = v ∧ a'.eval (.tmp 7) = pv x1 0 ∧ a'.eval (.tmp 9) = pv x2 0 ∧ a'.eval (.tmp 11) = pv bb 0 ∧ a'.eval (.tmp 12) = .int .i64 (k : Nat) ∧ LM W x1 x2 bb k (8 * k) w'
theorem Beg.ptr {w w' : World} {n : Nat} {v : Value} (h : Beg w n v w') : ∃ x, v = .pointer (some ⟨x, 0, none⟩) := by
  obtain ⟨b, e, -⟩ := h.ex
  exact ⟨_, e⟩
theorem Ops.cells {w : World} {mb mo N : Nat} {O : Nat → OpV} (h : ∀ k, k < N → ∀ j, j < 9 → W.cell? ⟨mb, mo + k * 9 + j, none⟩ = (opC (O k))[j]?) (hb : Below W.heap.size W w) {k : Nat} (hk : k < N) {j : Nat} (hj : j < 9) : w.cell? ⟨mb, mo + k * 9 + j, none⟩ = (opC (O k))[j]? := by
  have h1 := h k hk j hj
  have h2 : ∃ v, (opC (O k))[j]? = some v := ⟨(opC (O k))[j]'(by simp; omega), Array.getElem?_eq_getElem _⟩
  obtain ⟨v, hv⟩ := h2
  rw [hv] at h1
  rw [hv]
  exact (World.cell?_of_block (hb.block mb (World.block_lt_of_cell? W _ h1))).trans h1
set_option maxRecDepth 100000 in
set_option maxHeartbeats 3200000 in
theorem law_all {v : Value} {N : Nat} (hO : Ops W v N) (n m : Int) : Calls Tryz.prog 3 #[.int .i64 n, .int .i64 m, v] W fun e w' => e = .returned (.bool true) ∧ Below W.heap.size W w' := by
  obtain ⟨oa, oc, O, rfl, HO⟩ := hO.ex
  clear hO
  have hO : Hid _ := HO
  clear HO
  have HK := known_all poolLaws W
  by_cases hN : 300 < N
  · have d1 : (300 : Int) < (N : Int) := by omega
    go_enter Tryz.func3, Tryz.ntmps3
    go_wp2_with (go_at_call 4; refine HK.mono ?_; clear HK; rintro e w1 ⟨rfl, hb⟩; have HB : Hid _ := hb; clear hb)
    go_ret
    exact ⟨rfl, HB.out⟩
  have d1 : ¬ (300 : Int) < (N : Int) := by omega
  by_cases hn : 1 ≤ n ∧ n ≤ 4096
  · obtain ⟨n, rfl⟩ : ∃ n' : Nat, n = (n' : Int) := ⟨n.toNat, by omega⟩
    have h1 : 1 ≤ n := by omega
    have h2 : n ≤ 4096 := by omega
    clear hn
    by_cases hm : 1 ≤ m ∧ m ≤ 4096
    · obtain ⟨m, rfl⟩ : ∃ m' : Nat, m = (m' : Int) := ⟨m.toNat, by omega⟩
      have h3 : 1 ≤ m := by omega
      have h4 : m ≤ 4096 := by omega
      clear hm
      have HA : ∀ w, Calls Tryz.prog 5 #[.int .i64 (n : Nat)] w fun e w' => ∃ v, e = .returned (.tuple #[v, .bool true]) ∧ Beg w n v w' := fun w => cBegun n h1 h2
      have HC : ∀ w, Calls Tryz.prog 5 #[.int .i64 (m : Nat)] w fun e w' => ∃ v, e = .returned (.tuple #[v, .bool true]) ∧ Beg w m v w' := fun w => cBegun m h3 h4
      go_enter Tryz.func3, Tryz.ntmps3
      go_wp2_with (first
        | (go_at_call 4; refine HK.mono ?_; clear HK; rintro e w1 ⟨rfl, hb⟩; have HB : Hid _ := hb; clear hb)
        | (go_at_call 5; first
          | (refine (HA _).mono ?_; clear HA; rintro e w2 ⟨v1, rfl, b1⟩; obtain ⟨x1, rfl⟩ := b1.ptr; have HB1 : Hid _ := b1; clear b1)
          | (refine (HC _).mono ?_; clear HC; rintro e w3 ⟨v2, rfl, b2⟩; obtain ⟨x1', x2, hx1, rfl, hM⟩ := LM.start HB.out HB1.out b2; simp only [Value.pointer.injEq, Option.some.injEq, Addr.mk.injEq, and_true] at hx1; subst hx1; have HM : Hid _ := hM; clear hM b2 HB HB1)))
      clear h1 h2 h3 h4
      refine wp_book rfl ?_
      go_wp2
      refine wp_loop (LAI W (.slice oa N oc) N x1 x2 w3.heap.size) (fun a' _ => N - (intOf (a'.eval (.tmp 12))).toNat) ?_ ?_
      · exact ⟨0, Nat.zero_le _, rfl, rfl, rfl, rfl, rfl, rfl, rfl, HM.out⟩
      clear HM
      generalize w3.heap.size = bb
      rintro a2 w2 ⟨k, hk, hs2, hd2, z2, z7, z9, z11, z12, hM⟩
      obtain ⟨cc, rfl, hcc⟩ := expand103 hs2 hd2
      have y2 : cc 2 = .slice oa N oc := (hcc 2).trans z2
      have y7 : cc 7 = .pointer (some ⟨x1, 0, none⟩) := (hcc 7).trans z7
      have y9 : cc 9 = .pointer (some ⟨x2, 0, none⟩) := (hcc 9).trans z9
      have y11 : cc 11 = .pointer (some ⟨bb, 0, none⟩) := (hcc 11).trans z11
      have y12 : cc 12 = .int .i64 (k : Nat) := (hcc 12).trans z12
      rw [z12, show (intOf (.int .i64 (k : Nat))).toNat = k by simp [intOf]]
      clear hcc z2 z7 z9 z11 z12 hs2 hd2
      unfold lit103
      simp only [y2, y7, y9, y11, y12]
      clear y2 y7 y9 y11 y12
      have HM : Hid _ := hM
      clear hM
      by_cases hlk : k < N
      · have hl2 : (k : Int) < (N : Int) := by omega
        obtain ⟨mb, mo, rfl, hO2⟩ := hO.out (by omega)
        clear hO
        have c0 := Ops.cells hO2 HM.out.below hlk (j := 0) (by omega)
        have c1 := Ops.cells hO2 HM.out.below hlk (j := 1) (by omega)
        have c2 := Ops.cells hO2 HM.out.below hlk (j := 2) (by omega)
        have c3 := Ops.cells hO2 HM.out.below hlk (j := 3) (by omega)
        have c4 := Ops.cells hO2 HM.out.below hlk (j := 4) (by omega)
        have c5 := Ops.cells hO2 HM.out.below hlk (j := 5) (by omega)
        have c6 := Ops.cells hO2 HM.out.below hlk (j := 6) (by omega)
        have c7 := Ops.cells hO2 HM.out.below hlk (j := 7) (by omega)
        have c8 := Ops.cells hO2 HM.out.below hlk (j := 8) (by omega)
        simp at c0 c1 c2 c3 c4 c5 c6 c7 c8
        have hD : ∀ x, x = x1 ∨ x = x2 → Calls Tryz.prog 6 #[.pointer (some ⟨x, 0, none⟩), .agg (opC (O k))] w2 fun e w' => e = .returned (.bool true) ∧ LM W x1 x2 bb (k + 1) (8 * k) w' := fun x hx => by
          rcases hx with rfl | rfl
          · exact HM.out.does (by omega) _
          · exact HM.out.does2 (by omega) _
        clear hO2 HM
        generalize O k = o at *
        obtain ⟨o0, o1, o2, o3, o4, o5, o6, o7, sec⟩ := o
        simp only at c0 c1 c2 c3 c4 c5 c6 c7 c8
        have e : (intOf (Value.int .i64 ((k : Int) + 1))).toNat = k + 1 := by simp [intOf]
        have hfin : ∀ (a' : Act) (w' : World), a'.tmps.size = 103 → a'.defers = [] → a'.eval (.tmp 2) = .slice (some ⟨mb, mo, none⟩) N oc → a'.eval (.tmp 7) = pv x1 0 → a'.eval (.tmp 9) = pv x2 0 → a'.eval (.tmp 11) = pv bb 0 → a'.eval (.tmp 12) = .int .i64 ((k : Int) + 1) → LM W x1 x2 bb (k + 1) (8 * k + 8) w' → LAI W (.slice (some ⟨mb, mo, none⟩) N oc) N x1 x2 bb a' w' ∧ N - (intOf (a'.eval (.tmp 12))).toNat < N - k := fun a' w' h1 h2 h3 h4 h5 h6 h7 h8 => by
          refine ⟨⟨k + 1, by omega, h1, h2, h3, h4, h5, h6, by rw [h7]; simp, h8⟩, ?_⟩
          rw [h7, e]
          omega
        have HF : Hid _ := hfin
        clear hfin e
        have hk3 : (k : Int) < 300 := by omega
        by_cases h10 : k % 10 = 0
        · have r1 : (k : Int).tmod 10 = 0 := by rw [Int.tmod_eq_emod_of_nonneg (by omega)]; omega
          cases sec
          all_goals
            go_wp2_with (first
              | (go_at_call 6; refine (hD _ (by simp)).mono ?_; clear hD; rintro e w4 ⟨rfl, hM4⟩; have hS := hM4.stands (mark := 1000 * (k : Int)) (by omega) (by omega); clear hM4)
              | (go_at_call 7; first
                | (refine hS.mono ?_; clear hS; rintro e w5 ⟨rfl, hM5⟩; have hS2 := hM5.stands2 (mark := 1000 * (k : Int) + 500) (by omega) (by omega); clear hM5)
                | (refine hS2.mono ?_; clear hS2; rintro e w6 ⟨rfl, hM6⟩; have HM6 : Hid _ := hM6; clear hM6)))
            exact HF.out _ _ rfl rfl rfl rfl rfl rfl rfl (HM6.out.upto (by omega))
        · have r1 : (k : Int).tmod 10 ≠ 0 := by rw [Int.tmod_eq_emod_of_nonneg (by omega)]; omega
          cases sec
          all_goals
            go_wp2_with (go_at_call 6; refine (hD _ (by simp)).mono ?_; clear hD; rintro e w4 ⟨rfl, hM4⟩; have HM6 : Hid _ := hM4; clear hM4)
            exact HF.out _ _ rfl rfl rfl rfl rfl rfl rfl (HM6.out.upto (by omega))
      · obtain rfl : k = N := by omega
        have hl2 : ¬ (k : Int) < (k : Int) := by omega
        clear hO
        have hS := HM.out.stands (mark := 800000) (by omega) (by omega)
        go_wp2_with (first
          | (go_at_call 7; first
            | (refine hS.mono ?_; clear hS; rintro e w4 ⟨rfl, hM4⟩; have hS2 := hM4.stands2 (mark := 900000) (by omega) (by omega); clear hM4)
            | (refine hS2.mono ?_; clear hS2; rintro e w5 ⟨rfl, hM5⟩; have hH := hM5.hold (by omega); clear hM5))
          | (go_at_call 8; refine hH.mono ?_; clear hH; rintro e w6 ⟨rfl, hb⟩; have HB : Hid _ := hb; clear hb))
        go_ret
        exact ⟨rfl, HB.out⟩
    · have hm' : m < 1 ∨ 4096 < m := by omega
      clear hm
      have HA : ∀ w, Calls Tryz.prog 5 #[.int .i64 (n : Nat)] w fun e w' => ∃ v, e = .returned (.tuple #[v, .bool true]) ∧ Beg w n v w' := fun w => cBegun n h1 h2
      have HC : ∀ w, Calls Tryz.prog 5 #[.int .i64 m] w fun e w' => e = .returned (.tuple #[.pointer none, .bool true]) ∧ Turned [] w w' := fun w => cBegunBad m hm'
      go_enter Tryz.func3, Tryz.ntmps3
      go_wp2_with (first
        | (go_at_call 4; refine HK.mono ?_; clear HK; rintro e w1 ⟨rfl, hb⟩; have HB : Hid _ := hb; clear hb)
        | (go_at_call 5; first
          | (refine (HA _).mono ?_; clear HA; rintro e w2 ⟨v1, rfl, b1⟩; obtain ⟨b, rfl, -, ht, -⟩ := b1.ex; have HB1 : Hid (Below W.heap.size W w2) := ht.below HB.out (by simp) HB.out.size; clear b1 ht HB)
          | (refine (HC _).mono ?_; clear HC; rintro e w3 ⟨rfl, b2⟩; have HB2 : Hid (Below W.heap.size W w3) := b2.below HB1.out (by simp) HB1.out.size; clear b2 HB1)))
      go_ret
      exact ⟨rfl, HB2.out⟩
  · have hn' : n < 1 ∨ 4096 < n := by omega
    clear hn
    have HA : ∀ w, Calls Tryz.prog 5 #[.int .i64 n] w fun e w' => e = .returned (.tuple #[.pointer none, .bool true]) ∧ Turned [] w w' := fun w => cBegunBad n hn'
    have HC : ∀ w, Calls Tryz.prog 5 #[.int .i64 m] w fun e w' => ∃ v, e = .returned (.tuple #[v, .bool true]) ∧ Turned [] w w' := fun w => by
      by_cases hm : 1 ≤ m ∧ m ≤ 4096
      · obtain ⟨m, rfl⟩ : ∃ m' : Nat, m = (m' : Int) := ⟨m.toNat, by omega⟩
        refine (cBegun m (by omega) (by omega)).mono ?_
        rintro e w' ⟨v, rfl, hb⟩
        obtain ⟨b, -, -, ht, -⟩ := hb.ex
        exact ⟨_, rfl, ht⟩
      · refine (cBegunBad m (by omega)).mono ?_
        rintro e w' ⟨rfl, hb⟩
        exact ⟨_, rfl, hb⟩
    go_enter Tryz.func3, Tryz.ntmps3
    go_wp2_with (first
      | (go_at_call 4; refine HK.mono ?_; clear HK; rintro e w1 ⟨rfl, hb⟩; have HB : Hid _ := hb; clear hb)
      | (go_at_call 5; first
        | (refine (HA _).mono ?_; clear HA; rintro e w2 ⟨rfl, ht⟩; have HB1 : Hid (Below W.heap.size W w2) := ht.below HB.out (by simp) HB.out.size; clear ht HB)
        | (refine (HC _).mono ?_; clear HC; rintro e w3 ⟨v2, rfl, b2⟩; have HB2 : Hid (Below W.heap.size W w3) := b2.below HB1.out (by simp) HB1.out.size; clear b2 HB1)))
    go_ret
    exact ⟨rfl, HB2.out⟩
end
end Go.Proofs.YtjbhnpofdafmbaaGreatDoor

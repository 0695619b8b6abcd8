/- The law's 'known', over the contracts of package pool. -/
import Derived.Test.YtjbhnpofdafmbaaGreatDoorJ26
import Derived.Test.YtjbhnpofdafmbaaGreatDoorJ02
import Derived.WalkKit
namespace Go.Proofs.YtjbhnpofdafmbaaGreatDoor
open Go.RowKit
theorem cNum (x : Int) (w : World) : Calls Tryz.prog 10 #[.int .i64 x] w fun e w' => e = .returned (.int .i64 x) ∧ w' = w := by
  go_enter Tryz.func10, Tryz.ntmps10
  go_wp2
  go_ret
  exact ⟨rfl, rfl⟩
def k0 : PSt := PSt.new 2
def k1 : PSt := k0.take 1 1 2 3 4 0
def k2 : PSt := k1.give 1 (-7777777)
def k3 : PSt := k2.fault
def k4 : PSt := k3.take 1 0 0 0 0 0
theorem ok0 : k0.Ok := (PL.new (n := 2) (by omega) (by omega) (fun _ => ⟨0, 0, 0, 0, 0, 0, 0⟩)).ok
theorem ok1 : k1.Ok := ok0.take (show 1 ≤ 2 by omega) _ _ _ _ _
theorem ok2 : k2.Ok := ok1.give (show 1 ≤ 2 by omega) _
theorem ok3 : k3.Ok := ⟨ok2.n1, ok2.n2, ok2.h0, ok2.h1, ok2.top, ok2.low⟩
theorem ok4 : k4.Ok := ok3.take (show 1 ≤ 2 by omega) _ _ _ _ _
section
variable {At : World → Nat → List Nat → PSt → Prop} {w : World} {p : Nat} {F : List Nat}
theorem kt1 (L : PoolLaws At) (h : At w p F k0) : Calls Tryz.prog 12 #[.pointer (some ⟨p, 0, none⟩), .pointer none, .agg #[.int .i64 1, .int .i64 2, .int .i64 3, .int .i64 4], .int .i64 0] w fun e w' => e = .returned (.tuple #[.int .i64 1099511627777, .int .i64 0]) ∧ Turned F w w' ∧ ∃ F', At w' p F' k1 ∧ Wider F F' w := by
  have := L.take (i := 1) h ok0 (by decide +kernel) (by decide) (by decide +kernel) (by decide +kernel) 1 2 3 4 0
  rwa [show hnd 1 ((k0.slot 1).gen + 1) = 1099511627777 by decide +kernel] at this
theorem kg1 (L : PoolLaws At) (h : At w p F k1) : Calls Tryz.prog 13 #[.pointer (some ⟨p, 0, none⟩), .pointer none, .int .i64 1099511627777] w fun e w' => e = .returned (.int .i64 0) ∧ Turned F w w' ∧ ∃ F', At w' p F' k2 ∧ Wider F F' w := by
  have := L.give (i := 1) (g := 1) h ok1 (by decide) (by decide +kernel) (by decide) (by decide) (by decide) (by decide +kernel)
  rwa [show hnd 1 1 = 1099511627777 by decide +kernel] at this
theorem kg2 (L : PoolLaws At) (h : At w p F k2) : Calls Tryz.prog 13 #[.pointer (some ⟨p, 0, none⟩), .pointer none, .int .i64 1099511627777] w fun e w' => e = .returned (.int .i64 104) ∧ Turned F w w' ∧ At w' p F k2 := by
  have := L.giveGone (i := 1) (g := 1) h ok2 (by decide) (by decide +kernel) (by decide) (by decide) (by decide) (by decide +kernel)
  rwa [show hnd 1 1 = 1099511627777 by decide +kernel] at this
theorem kr (L : PoolLaws At) (h : At w p F k2) : Calls Tryz.prog 15 #[.pointer (some ⟨p, 0, none⟩), .pointer none, .int .i64 1099511627777] w fun e w' => e = .returned (.tuple #[.agg #[.int .i64 0, .int .i64 0, .int .i64 0, .int .i64 0], .int .i64 104]) ∧ Turned F w w' ∧ At w' p F k3 := by
  have := L.readGone (i := 1) (g := 1) h ok2 (by decide) (by decide +kernel) (by decide) (by decide) (by decide) (by decide +kernel) (by decide +kernel) (by decide +kernel)
  rwa [show hnd 1 1 = 1099511627777 by decide +kernel] at this
theorem kt2 (L : PoolLaws At) (h : At w p F k3) : Calls Tryz.prog 12 #[.pointer (some ⟨p, 0, none⟩), .pointer none, .agg #[.int .i64 0, .int .i64 0, .int .i64 0, .int .i64 0], .int .i64 0] w fun e w' => e = .returned (.tuple #[.int .i64 1099511627779, .int .i64 0]) ∧ Turned F w w' ∧ ∃ F', At w' p F' k4 ∧ Wider F F' w := by
  have := L.take (i := 1) h ok3 (by decide +kernel) (by decide) (by decide +kernel) (by decide +kernel) 0 0 0 0 0
  rwa [show hnd 1 ((k3.slot 1).gen + 1) = 1099511627779 by decide +kernel] at this
theorem kf (L : PoolLaws At) (h : At w p F k4) : Calls Tryz.prog 16 #[.pointer (some ⟨p, 0, none⟩)] w fun e w' => e = .returned (.int .i64 1) ∧ Turned F w w' ∧ At w' p F k4 := by
  have := L.faults h
  rwa [show k4.faults = 1 by decide +kernel] at this
theorem kb (L : PoolLaws At) (h : At w p F k4) {x : Int} (hx : x = 5 ∨ x = 3298534883329 ∨ x = 1099511627778) : Calls Tryz.prog 15 #[.pointer (some ⟨p, 0, none⟩), .pointer none, .int .i64 x] w fun e w' => e = .returned (.tuple #[.agg #[.int .i64 0, .int .i64 0, .int .i64 0, .int .i64 0], .int .i64 103]) ∧ Turned F w w' ∧ At w' p F k4 := by
  refine L.readBad h ok4 ?_
  rcases hx with rfl | rfl | rfl
  · exact .inl (by decide +kernel)
  · exact .inr (.inl (by decide +kernel))
  · exact .inr (.inr (by decide +kernel))
theorem ks (L : PoolLaws At) (h : At w p F k2) : Calls Tryz.prog 14 #[.pointer (some ⟨p, 0, none⟩)] w fun e w' => Turned F w w' ∧ At w' p F k2 ∧ ∃ g c, e = .returned (.slice (some ⟨g, 0, none⟩) 2 c) ∧ g ∉ F ∧ w'.cell? ⟨g, 0, none⟩ = some (.int .i64 (2)) ∧ w'.cell? ⟨g, 1, none⟩ = some (.int .i64 (-7777777)) ∧ w'.cell? ⟨g, 2, none⟩ = some (.int .i64 (-7777777)) ∧ w'.cell? ⟨g, 3, none⟩ = some (.int .i64 (-7777777)) ∧ w'.cell? ⟨g, 4, none⟩ = some (.int .i64 (-7777777)) ∧ w'.cell? ⟨g, 5, none⟩ = some (.int .i64 (-7777777)) ∧ w'.cell? ⟨g, 6, none⟩ = some (.int .i64 (-7777777)) ∧ w'.cell? ⟨g, 7, none⟩ = some (.int .i64 (0)) ∧ w'.cell? ⟨g, 8, none⟩ = some (.int .i64 (0)) ∧ w'.cell? ⟨g, 9, none⟩ = some (.int .i64 (0)) ∧ w'.cell? ⟨g, 10, none⟩ = some (.int .i64 (0)) ∧ w'.cell? ⟨g, 11, none⟩ = some (.int .i64 (0)) ∧ w'.cell? ⟨g, 12, none⟩ = some (.int .i64 (0)) ∧ w'.cell? ⟨g, 13, none⟩ = some (.int .i64 (0)) := by
  refine (L.slots h ok2).mono ?_
  rintro e w' ⟨hT, hA, g, c, cs, rfl, hg, hcs, hrow⟩
  exact ⟨hT, hA, g, c, rfl, fun x => (by have := L.lt h g x; omega), ((cell_at hcs 0).trans (hrow 0 0 (by decide) (by decide))), ((cell_at hcs 1).trans (hrow 0 1 (by decide) (by decide))), ((cell_at hcs 2).trans (hrow 0 2 (by decide) (by decide))), ((cell_at hcs 3).trans (hrow 0 3 (by decide) (by decide))), ((cell_at hcs 4).trans (hrow 0 4 (by decide) (by decide))), ((cell_at hcs 5).trans (hrow 0 5 (by decide) (by decide))), ((cell_at hcs 6).trans (hrow 0 6 (by decide) (by decide))), ((cell_at hcs 7).trans (hrow 1 0 (by decide) (by decide))), ((cell_at hcs 8).trans (hrow 1 1 (by decide) (by decide))), ((cell_at hcs 9).trans (hrow 1 2 (by decide) (by decide))), ((cell_at hcs 10).trans (hrow 1 3 (by decide) (by decide))), ((cell_at hcs 11).trans (hrow 1 4 (by decide) (by decide))), ((cell_at hcs 12).trans (hrow 1 5 (by decide) (by decide))), ((cell_at hcs 13).trans (hrow 1 6 (by decide) (by decide)))⟩
end
set_option maxRecDepth 100000 in
set_option maxHeartbeats 1600000 in
theorem known_all {At : World → Nat → List Nat → PSt → Prop} (L : PoolLaws At) (W : World) : Calls Tryz.prog 4 #[] W fun e w' => e = .returned (.bool true) ∧ Below W.heap.size W w' := by
  have p1 := cPack 1 1
  have p2 := cPack 1 3
  have p3 := cPack 3 1
  have p4 := cPack 1 2
  rw [show packV 1 1 = 1099511627777 by decide +kernel, show packE 1 1 = 0 by decide +kernel] at p1
  rw [show packV 1 3 = 1099511627779 by decide +kernel, show packE 1 3 = 0 by decide +kernel] at p2
  rw [show packV 3 1 = 3298534883329 by decide +kernel, show packE 3 1 = 0 by decide +kernel] at p3
  rw [show packV 1 2 = 1099511627778 by decide +kernel, show packE 1 2 = 0 by decide +kernel] at p4
  go_enter Tryz.func4, Tryz.ntmps4
  go_wp2_with (first
    | (go_at_call 9; refine (L.new _ 2 (by omega) (by omega)).mono ?_; rintro e w1 ⟨p, F, rfl, hT1, hA1, hF1⟩; have HT := kt1 L hA1)
    | (go_at_call 11; refine (p1 _).mono ?_; rintro e w' ⟨rfl, hw⟩; obtain rfl := hw.symm; clear p1)
    | (go_at_call 11; refine (p2 _).mono ?_; rintro e w' ⟨rfl, hw⟩; obtain rfl := hw.symm; clear p2)
    | (go_at_call 11; refine (p3 _).mono ?_; rintro e w' ⟨rfl, hw⟩; obtain rfl := hw.symm; clear p3)
    | (go_at_call 11; refine (p4 _).mono ?_; rintro e w' ⟨rfl, hw⟩; obtain rfl := hw.symm; clear p4)
    | (go_at_call 12; refine HT.mono ?_; rintro e w2 ⟨rfl, hT2, F2, hA2, hG2⟩; have HG := kg1 L hA2; clear HT)
    | (go_at_call 13; refine HG.mono ?_; rintro e w3 ⟨rfl, hT3, F3, hA3, hG3⟩; have HG2 := kg2 L hA3; clear HG)
    | (go_at_call 13; refine HG2.mono ?_; rintro e w4 ⟨rfl, hT4, hA4⟩; have HS := ks L hA4; clear HG2)
    | (go_at_call 14; refine HS.mono ?_; rintro e w5 ⟨hT5, hA5, g, sc, rfl, hgF, c0, c1, c2, c3, c4, c5, c6, c7, c8, c9, c10, c11, c12, c13⟩; have HR := kr L hA5; clear HS)
    | (go_at_call 15; refine HR.mono ?_; rintro e w6 ⟨rfl, hT6, hA6⟩; have d0 := hT6.cell c0 hgF; have d1 := hT6.cell c1 hgF; have d2 := hT6.cell c2 hgF; have d3 := hT6.cell c3 hgF; have d4 := hT6.cell c4 hgF; have d5 := hT6.cell c5 hgF; have d6 := hT6.cell c6 hgF; have d7 := hT6.cell c7 hgF; have d8 := hT6.cell c8 hgF; have d9 := hT6.cell c9 hgF; have d10 := hT6.cell c10 hgF; have d11 := hT6.cell c11 hgF; have d12 := hT6.cell c12 hgF; have d13 := hT6.cell c13 hgF; have HT2 := kt2 L (L.keep hA6 ((Turned.refl [] _).alloc (.cells #[.int .i64 0, .int .i64 0, .int .i64 0, .int .i64 0] 43)) (by simp)); clear HR c0 c1 c2 c3 c4 c5 c6 c7 c8 c9 c10 c11 c12 c13)
    | (go_at_call 12; refine HT2.mono ?_; rintro e w7 ⟨rfl, hT7, F7, hA7, hG7⟩; have hT7' := ((Turned.refl F3 w6).alloc (.cells #[.int .i64 0, .int .i64 0, .int .i64 0, .int .i64 0] 43)).trans hT7; have hgF7 : g ∉ F7 := (fun x => (hG7 g x).elim hgF (fun h1 => absurd (World.block_lt_of_cell? _ _ d0) (by simp at h1; simp; omega))); have f0 := hT7'.cell d0 hgF; have f1 := hT7'.cell d1 hgF; have f2 := hT7'.cell d2 hgF; have f3 := hT7'.cell d3 hgF; have f4 := hT7'.cell d4 hgF; have f5 := hT7'.cell d5 hgF; have f6 := hT7'.cell d6 hgF; have f7 := hT7'.cell d7 hgF; have f8 := hT7'.cell d8 hgF; have f9 := hT7'.cell d9 hgF; have f10 := hT7'.cell d10 hgF; have f11 := hT7'.cell d11 hgF; have f12 := hT7'.cell d12 hgF; have f13 := hT7'.cell d13 hgF; have HF := kf L hA7; clear HT2 d0 d1 d2 d3 d4 d5 d6 d7 d8 d9 d10 d11 d12 d13)
    | (go_at_call 16; refine HF.mono ?_; rintro e w8 ⟨rfl, hT8, hA8⟩; have y0 := hT8.cell f0 hgF7; have y1 := hT8.cell f1 hgF7; have y2 := hT8.cell f2 hgF7; have y3 := hT8.cell f3 hgF7; have y4 := hT8.cell f4 hgF7; have y5 := hT8.cell f5 hgF7; have y6 := hT8.cell f6 hgF7; have y7 := hT8.cell f7 hgF7; have y8 := hT8.cell f8 hgF7; have y9 := hT8.cell f9 hgF7; have y10 := hT8.cell f10 hgF7; have y11 := hT8.cell f11 hgF7; have y12 := hT8.cell f12 hgF7; have y13 := hT8.cell f13 hgF7; have HB1 := kb L hA8 (x := 5) (.inl rfl); clear HF f0 f1 f2 f3 f4 f5 f6 f7 f8 f9 f10 f11 f12 f13)
    | (go_at_call 15; refine HB1.mono ?_; rintro e w9 ⟨rfl, hT9, hA9⟩; have HB2 := kb L (L.keep hA9 ((Turned.refl [] _).alloc (.cells #[.int .i64 0, .int .i64 0, .int .i64 0, .int .i64 0] 43)) (by simp)) (x := 3298534883329) (.inr (.inl rfl)); clear HB1)
    | (go_at_call 15; refine HB2.mono ?_; rintro e wa ⟨rfl, hTa, hAa⟩; have HB3 := kb L (L.keep hAa ((Turned.refl [] _).alloc (.cells #[.int .i64 0, .int .i64 0, .int .i64 0, .int .i64 0] 43)) (by simp)) (x := 1099511627778) (.inr (.inr rfl)); clear HB2)
    | (go_at_call 15; refine HB3.mono ?_; rintro e wb ⟨rfl, hTb, hAb⟩; have HF2 := kf L (L.keep hAb ((Turned.refl [] _).alloc (.cells #[.int .i64 0, .int .i64 0, .int .i64 0, .int .i64 0] 43)) (by simp)); clear HB3)
    | (go_at_call 16; refine HF2.mono ?_; rintro e wc ⟨rfl, hTc, hAc⟩; clear HF2)
    | (go_at_call 10; refine (cNum _ _).mono ?_; rintro e w' ⟨rfl, hw⟩; obtain rfl := hw.symm))
  go_ret
  have f : ∀ x, x ∈ F → x ∈ ([] : List Nat) ∨ W.heap.size ≤ x := fun x hx => .inr (hF1 x hx)
  have f2 : ∀ x, x ∈ F2 → x ∈ ([] : List Nat) ∨ W.heap.size ≤ x := fun x hx => .inr ((hG2 x hx).elim (hF1 x) (fun h1 => Nat.le_trans hT1.size h1))
  have b3 := (hT1.inner hT2 f).inner hT3 f2
  have f3 : ∀ x, x ∈ F3 → x ∈ ([] : List Nat) ∨ W.heap.size ≤ x := fun x hx => (hG3 x hx).elim (f2 x) (fun h1 => .inr (Nat.le_trans (hT1.inner hT2 f).size h1))
  have b6 := ((b3.inner hT4 f3).inner hT5 f3).inner hT6 f3
  have f7 : ∀ x, x ∈ F7 → x ∈ ([] : List Nat) ∨ W.heap.size ≤ x := fun x hx => (hG7 x hx).elim (f3 x) (fun h1 => .inr (Nat.le_trans (b6.alloc _).size h1))
  have b8 := (b6.inner hT7' f3).inner hT8 f7
  have bc := ((((((b8.inner hT9 f7).alloc _).inner hTa f7).alloc _).inner hTb f7).alloc _).inner hTc f7
  exact ⟨rfl, bc.below (Below.refl _ _) (by simp) (Nat.le_refl _)⟩
end Go.Proofs.YtjbhnpofdafmbaaGreatDoor

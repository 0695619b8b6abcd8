/- PoolLong's round: a Take. -/
import Derived.Test.YtfebndolnnaiiabPoolFrame
import Derived.Deep.QuietTactic
namespace Go.Proofs.Ytfebndolnnaiiab
open Go.RowKit
section
variable {At : World → Nat → List Nat → PSt → Prop} {W : World} {q : QL} {F : List Nat} {s : PSt} {m : Nat} {HL : Nat → Held} {St : List Nat} {a : Act} {w : World} {K : Act → World → Prop} {Q : Exit → Act → World → Prop}
set_option maxRecDepth 100000 in
set_option maxHeartbeats 4000000 in
theorem long_take (L : PoolLaws At) (f : FP q a) (hsn : s.n = q.n) (hfa : q.fa = s.faults) (hk : q.k ≤ 32767) (hc : (q.k : Int) < q.count) (hx0 : 0 ≤ q.x) (hx1 : q.x < 2147483648) (H : Hid (PLW At W w q.p F s m HL St q.last q.k q.v)) {i0 : Nat} {S0 : List Nat} (hSt : St = i0 :: S0) (hk3 : nextX q.x / 16 % 8 < 3)
    (hK : ∀ a' w' q', FP q' a' → q'.n = q.n → q'.count = q.count → q'.p = q.p → q'.k = q.k + 1 → q'.x = nextX q.x → (∃ s' m' HL' St' F', s'.n = q.n ∧ q'.fa = s'.faults ∧ Hid (PLW At W w' q.p F' s' m' HL' St' q'.last q'.k q'.v)) → K a' w') : (atc Try.f3.body pB).wp Try.prog (Exit.then K Q) a w := by
  obtain ⟨c, rfl, x0, x2, x7, x9, x10, x11, x12, x13⟩ := f.lit
  clear f
  obtain ⟨n, count, p, v, last, fa, X, k⟩ := q
  simp only at *
  have HX := fun w => cNextX X w hx0 hx1
  have hY0 : 0 ≤ nextX X := by unfold nextX; omega
  have hY1 : nextX X < 2147483648 := by unfold nextX; omega
  generalize nextX X = Y at *
  have hpn1 := H.out.pl.ok.n1
  have hpn2 := H.out.pl.ok.n2
  subst hfa
  subst hSt
  obtain ⟨hi0, hi1, hi2, hmn⟩ := H.out.pl.some
  have hg := H.out.pl.gens i0 (by omega) hi2
  obtain ⟨la, lc, hl⟩ := H.out.row.shape
  subst hl
  subst hsn
  have hlt : ((m : Nat) : Int) < (s.n : Int) := by omega
  conv => arg 2; whnf
  unfold litOf
  simp only [x0, x2, x7, x9, x10, x11, x12, x13]
  clear x0 x2 x7 x9 x10 x11 x12 x13
  go_wp2_with (first
    | (go_at_call 7; refine (HX _).mono ?_; rintro e w' ⟨rfl, hw⟩; obtain rfl := hw.symm)
    | (go_at_call 8; refine (L.take (L.keep H.out.at_ ((Turned.refl [] _).alloc _) (by simp)) H.out.pl.ok hi0 hi1 hg.1 (by omega) _ _ _ _ _).mono ?_; rintro e w5 ⟨rfl, hT5, F5, hA5, hG5⟩; have hnF : w.heap.size ∉ F := fun x => Nat.lt_irrefl _ (L.lt H.out.at_ _ x); have hb5 := hT5.heap (blk_new w _) hnF; have c0 := cell_at hb5 0; have c1 := cell_at hb5 1; have c2 := cell_at hb5 2; have c3 := cell_at hb5 3; have c4 := cell_at hb5 4; have c5 := cell_at hb5 5; have c6 := cell_at hb5 6; have z0 := froz_at hb5 0; simp at c0 c1 c2 c3 c4 c5 c6; obtain ⟨r7, g7, b7⟩ := H.out.laid L hT5 (hnd i0 ((s.slot i0).gen + 1)) (Y / 9) k Y 0 0 (.int .i64 (hnd i0 ((s.slot i0).gen + 1))); clear hb5)
    | (go_at_call 6; refine (cNum _ _).mono ?_; rintro e w' ⟨rfl, hw⟩; obtain rfl := hw.symm)
    | (at_builtin; refine wpList_pushHeld rfl _ _ rfl rfl r7 w5.heap.size 1 ⟨hnd i0 ((s.slot i0).gen + 1), 0, Y / 9, k, Y, 0, 0⟩ rfl g7 (by omega) b7 ?_; intro v' w8 r8 hg8))
  exact hK _ _ ⟨s.n, count, p, v', last, s.faults, Y, k + 1⟩ ⟨rfl, rfl, rfl, rfl, rfl, rfl, rfl, rfl, rfl, rfl⟩ rfl rfl rfl rfl rfl ⟨s.take i0 k Y 0 0 (Y / 9), m + 1, upd HL m ⟨hnd i0 ((s.slot i0).gen + 1), 0, Y / 9, k, Y, 0, 0⟩, S0, F5, rfl, rfl, H.out.pushed L hT5 _ hA5 hG5 hg8 r8 (H.out.pl.take (by omega) k Y 0 0 (Y / 9)) H.out.f0 (le_step H.out.f1)⟩
end
end Go.Proofs.Ytfebndolnnaiiab

/- PoolLong's round: one that went. -/
import Derived.Test.YtfebndolnnaiiabPoolFrame
import Derived.Deep.QuietTactic
namespace Go.Proofs.Ytfebndolnnaiiab
open Go.RowKit
section
variable {At : World → Nat → List Nat → PSt → Prop} {W : World} {q : QL} {F : List Nat} {s : PSt} {m : Nat} {HL : Nat → Held} {St : List Nat} {a : Act} {w : World} {K : Act → World → Prop} {Q : Exit → Act → World → Prop}
set_option maxRecDepth 100000 in
set_option maxHeartbeats 4000000 in
theorem long_past (L : PoolLaws At) (f : FP q a) (hsn : s.n = q.n) (hfa : q.fa = s.faults) (hk : q.k ≤ 32767) (hc : (q.k : Int) < q.count) (hx0 : 0 ≤ q.x) (hx1 : q.x < 2147483648) (H : Hid (PLW At W w q.p F s m HL St q.last q.k q.v)) (hm0 : 0 < m) (hkd : nextX q.x / 16 % 8 = 7) (hl0 : q.last ≠ 0)
    (hK : ∀ a' w' q', FP q' a' → q'.n = q.n → q'.count = q.count → q'.p = q.p → q'.k = q.k + 1 → q'.x = nextX q.x → (∃ s' m' HL' St' F', s'.n = q.n ∧ q'.fa = s'.faults ∧ Hid (PLW At W w' q.p F' s' m' HL' St' q'.last q'.k q'.v)) → K a' w') : (atc Try.f3.body pB).wp Try.prog (Exit.then K Q) a w := by
  obtain ⟨c, rfl, x0, x2, x7, x9, x10, x11, x12, x13⟩ := f.lit
  clear f
  obtain ⟨n, count, p, v, last, fa, X, k⟩ := q
  simp only at *
  have HX := fun w => cNextX X w hx0 hx1
  have hY0 : 0 ≤ nextX X := by unfold nextX; omega
  have hY1 : nextX X < 2147483648 := by unfold nextX; omega
  generalize nextX X = Y at *
  have hpn1 := H.out.pl.ok.n1
  have hpn2 := H.out.pl.ok.n2
  subst hfa
  obtain ⟨g, cap, hl, hg1, hg2, hmc⟩ := H.out.row.form hm0
  subst hl
  subst hsn
  have hmz : (((m : Nat) : Int) == 0) = false := by simp; omega
  have hme := Int.emod_nonneg (Y / 128) (show (m : Int) ≠ 0 by omega)
  have hml := Int.emod_lt_of_pos (Y / 128) (show (0 : Int) < m by omega)
  obtain ⟨kk, hkk⟩ : ∃ kk : Nat, Y / 128 % (m : Int) = kk := ⟨(Y / 128 % (m : Int)).toNat, by omega⟩
  rw [hkk] at hme hml
  have hkm : kk < m := by omega
  obtain ⟨i, ge, e1, e2, e3, e4, e5, e6, e7, e8, e9⟩ := H.out.pl.at_held hkm
  have hgen : (s.slot i).gen = ge := by rw [e9]
  obtain ⟨i', g', p1, p2, p3, p4, p5, p6⟩ := H.out.pl.last.resolve_left hl0
  subst p1
  have hpg := H.out.pl.gens i' p2 p3
  have hl1 : (hnd i' g' == 0) = false := by simp; exact hl0
  have hff := H.out.f1
  have hff0 := H.out.f0
  have HM := L.readGone H.out.at_ H.out.pl.ok p2 p3 p4 (by omega) p5 (by omega) H.out.f0 (by omega)
  conv => arg 2; whnf
  unfold litOf
  simp only [x0, x2, x7, x9, x10, x11, x12, x13]
  clear x0 x2 x7 x9 x10 x11 x12 x13
  go_wp2_with (first
    | (go_at_call 7; refine (HX _).mono ?_; rintro e w' ⟨rfl, hw⟩; obtain rfl := hw.symm)
    | (go_at_call 10; refine HM.mono ?_; rintro e w5 ⟨rfl, hT5, hA5⟩)
    | (go_at_call 6; refine (cNum _ _).mono ?_; rintro e w' ⟨rfl, hw⟩; obtain rfl := hw.symm))
  exact hK _ _ ⟨s.n, count, p, .slice (some ⟨g, 0, none⟩) m cap, hnd i' g', s.faults + 1, Y, k + 1⟩ ⟨rfl, rfl, rfl, rfl, rfl, rfl, rfl, rfl, rfl, rfl⟩ rfl rfl rfl rfl rfl ⟨s.fault, m, HL, St, F, rfl, rfl, (H.out.called L hT5 hA5 (H.out.pl.fault (by omega)) (by show 0 ≤ s.faults + 1; have := H.out.f0; omega) (by show s.faults + 1 ≤ ((k + 1 : Nat) : Int); omega)).grown L ((Turned.refl _ _).alloc _)⟩
end
end Go.Proofs.Ytfebndolnnaiiab

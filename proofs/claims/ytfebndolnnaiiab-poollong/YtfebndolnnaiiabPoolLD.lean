/- PoolLong's round: a Read. -/
import Derived.Test.YtfebndolnnaiiabPoolFrame
import Derived.Deep.QuietTactic
namespace Go.Proofs.Ytfebndolnnaiiab
open Go.RowKit
section
variable {At : World → Nat → List Nat → PSt → Prop} {W : World} {q : QL} {F : List Nat} {s : PSt} {m : Nat} {HL : Nat → Held} {St : List Nat} {a : Act} {w : World} {K : Act → World → Prop} {Q : Exit → Act → World → Prop}
set_option maxRecDepth 100000 in
set_option maxHeartbeats 4000000 in
theorem long_read (L : PoolLaws At) (f : FP q a) (hsn : s.n = q.n) (hfa : q.fa = s.faults) (hk : q.k ≤ 32767) (hc : (q.k : Int) < q.count) (hx0 : 0 ≤ q.x) (hx1 : q.x < 2147483648) (H : Hid (PLW At W w q.p F s m HL St q.last q.k q.v)) (hm0 : 0 < m) (hkd : nextX q.x / 16 % 8 = 4)
    (hK : ∀ a' w' q', FP q' a' → q'.n = q.n → q'.count = q.count → q'.p = q.p → q'.k = q.k + 1 → q'.x = nextX q.x → (∃ s' m' HL' St' F', s'.n = q.n ∧ q'.fa = s'.faults ∧ Hid (PLW At W w' q.p F' s' m' HL' St' q'.last q'.k q'.v)) → K a' w') : (atc Try.f3.body pB).wp Try.prog (Exit.then K Q) a w := by
  obtain ⟨c, rfl, x0, x2, x7, x9, x10, x11, x12, x13⟩ := f.lit
  clear f
  obtain ⟨n, count, p, v, last, fa, X, k⟩ := q
  simp only at *
  have HX := fun w => cNextX X w hx0 hx1
  have hY0 : 0 ≤ nextX X := by unfold nextX; omega
  have hY1 : nextX X < 2147483648 := by unfold nextX; omega
  generalize nextX X = Y at *
  have hpn1 := H.out.pl.ok.n1
  have hpn2 := H.out.pl.ok.n2
  subst hfa
  obtain ⟨g, cap, hl, hg1, hg2, hmc⟩ := H.out.row.form hm0
  subst hl
  subst hsn
  have hmz : (((m : Nat) : Int) == 0) = false := by simp; omega
  have hme := Int.emod_nonneg (Y / 128) (show (m : Int) ≠ 0 by omega)
  have hml := Int.emod_lt_of_pos (Y / 128) (show (0 : Int) < m by omega)
  obtain ⟨kk, hkk⟩ : ∃ kk : Nat, Y / 128 % (m : Int) = kk := ⟨(Y / 128 % (m : Int)).toNat, by omega⟩
  rw [hkk] at hme hml
  have hkm : kk < m := by omega
  obtain ⟨i, ge, e1, e2, e3, e4, e5, e6, e7, e8, e9⟩ := H.out.pl.at_held hkm
  have hgen : (s.slot i).gen = ge := by rw [e9]
  have c0 : w.cell? ⟨g, kk * 7, none⟩ = some (.int .i64 (hnd i ge)) := (by have := H.out.row.cell hkm (show 0 < 7 by omega); rw [Nat.mul_comm]; rw [← e1]; exact this)
  have HR := L.read H.out.at_ H.out.pl.ok e2 e3 e5 (by omega) e7 hgen
  rw [e9] at HR
  conv => arg 2; whnf
  unfold litOf
  simp only [x0, x2, x7, x9, x10, x11, x12, x13]
  clear x0 x2 x7 x9 x10 x11 x12 x13
  go_wp2_with (first
    | (go_at_call 7; refine (HX _).mono ?_; rintro e w' ⟨rfl, hw⟩; obtain rfl := hw.symm)
    | (go_at_call 10; refine HR.mono ?_; rintro e w5 ⟨rfl, hT5, hA5⟩; have r5 := H.out.row.keep hT5 (H.out.sep L); have d3 : w5.cell? ⟨g, kk * 7 + 3, none⟩ = some (.int .i64 ((HL kk).a)) := (by have := r5.cell hkm (show 3 < 7 by omega); rw [Nat.mul_comm]; exact this); have d4 : w5.cell? ⟨g, kk * 7 + 4, none⟩ = some (.int .i64 ((HL kk).b)) := (by have := r5.cell hkm (show 4 < 7 by omega); rw [Nat.mul_comm]; exact this); have d5 : w5.cell? ⟨g, kk * 7 + 5, none⟩ = some (.int .i64 ((HL kk).c)) := (by have := r5.cell hkm (show 5 < 7 by omega); rw [Nat.mul_comm]; exact this); have d6 : w5.cell? ⟨g, kk * 7 + 6, none⟩ = some (.int .i64 ((HL kk).d)) := (by have := r5.cell hkm (show 6 < 7 by omega); rw [Nat.mul_comm]; exact this))
    | (go_at_call 6; refine (cNum _ _).mono ?_; rintro e w' ⟨rfl, hw⟩; obtain rfl := hw.symm))
  have hT6 : Turned [] w5 (w5.alloc (.cells #[.int .i64 (HL kk).a, .int .i64 (HL kk).b, .int .i64 (HL kk).c, .int .i64 (HL kk).d] 31)) := (Turned.refl _ _).alloc _
  have hb6 := blk_new w5 (.cells #[.int .i64 (HL kk).a, .int .i64 (HL kk).b, .int .i64 (HL kk).c, .int .i64 (HL kk).d] 31)
  have f3 := hT6.cell d3 (by simp)
  have f4 := hT6.cell d4 (by simp)
  have f5 := hT6.cell d5 (by simp)
  have f6 := hT6.cell d6 (by simp)
  have HT6 : Hid _ := hT6
  clear hT6 d3 d4 d5 d6 c0
  generalize w5.alloc (.cells #[.int .i64 (HL kk).a, .int .i64 (HL kk).b, .int .i64 (HL kk).c, .int .i64 (HL kk).d] 31) = w6 at *
  have y0 := cell_at hb6 0
  have y1 := cell_at hb6 1
  have y2 := cell_at hb6 2
  have y3 := cell_at hb6 3
  simp at y0 y1 y2 y3
  clear hb6
  go_quiet ((go_at_call 6; exact Calls.quiet_of_same (cNum _ _)))
  go_wp2
  exact hK _ _ ⟨s.n, count, p, .slice (some ⟨g, 0, none⟩) m cap, last, s.faults, Y, k + 1⟩ ⟨rfl, rfl, rfl, rfl, rfl, rfl, rfl, rfl, rfl, rfl⟩ rfl rfl rfl rfl rfl ⟨s, m, HL, St, F, rfl, rfl, ((H.out.called L hT5 hA5 (H.out.pl.more (by omega)) H.out.f0 (le_step H.out.f1)).grown L HT6.out).grown L (turned_drewN _ _)⟩
end
end Go.Proofs.Ytfebndolnnaiiab

/- PoolLong's round: a Give. -/
import Derived.Test.YtfebndolnnaiiabPoolFrame
import Derived.Deep.QuietTactic
namespace Go.Proofs.Ytfebndolnnaiiab
open Go.RowKit
section
variable {At : World → Nat → List Nat → PSt → Prop} {W : World} {q : QL} {F : List Nat} {s : PSt} {m : Nat} {HL : Nat → Held} {St : List Nat} {a : Act} {w : World} {K : Act → World → Prop} {Q : Exit → Act → World → Prop}
set_option maxRecDepth 100000 in
set_option maxHeartbeats 4000000 in
theorem long_give (L : PoolLaws At) (f : FP q a) (hsn : s.n = q.n) (hfa : q.fa = s.faults) (hk : q.k ≤ 32767) (hc : (q.k : Int) < q.count) (hx0 : 0 ≤ q.x) (hx1 : q.x < 2147483648) (H : Hid (PLW At W w q.p F s m HL St q.last q.k q.v)) (hm0 : 0 < m) (hkd : nextX q.x / 16 % 8 = 3)
    (hK : ∀ a' w' q', FP q' a' → q'.n = q.n → q'.count = q.count → q'.p = q.p → q'.k = q.k + 1 → q'.x = nextX q.x → (∃ s' m' HL' St' F', s'.n = q.n ∧ q'.fa = s'.faults ∧ Hid (PLW At W w' q.p F' s' m' HL' St' q'.last q'.k q'.v)) → K a' w') : (atc Try.f3.body pB).wp Try.prog (Exit.then K Q) a w := by
  obtain ⟨c, rfl, x0, x2, x7, x9, x10, x11, x12, x13⟩ := f.lit
  clear f
  obtain ⟨n, count, p, v, last, fa, X, k⟩ := q
  simp only at *
  have HX := fun w => cNextX X w hx0 hx1
  have hY0 : 0 ≤ nextX X := by unfold nextX; omega
  have hY1 : nextX X < 2147483648 := by unfold nextX; omega
  generalize nextX X = Y at *
  have hpn1 := H.out.pl.ok.n1
  have hpn2 := H.out.pl.ok.n2
  subst hfa
  obtain ⟨g, cap, hl, hg1, hg2, hmc⟩ := H.out.row.form hm0
  subst hl
  subst hsn
  have hmz : (((m : Nat) : Int) == 0) = false := by simp; omega
  have hme := Int.emod_nonneg (Y / 128) (show (m : Int) ≠ 0 by omega)
  have hml := Int.emod_lt_of_pos (Y / 128) (show (0 : Int) < m by omega)
  obtain ⟨kk, hkk⟩ : ∃ kk : Nat, Y / 128 % (m : Int) = kk := ⟨(Y / 128 % (m : Int)).toNat, by omega⟩
  rw [hkk] at hme hml
  have hkm : kk < m := by omega
  obtain ⟨i, ge, e1, e2, e3, e4, e5, e6, e7, e8, e9⟩ := H.out.pl.at_held hkm
  have hgen : (s.slot i).gen = ge := by rw [e9]
  have hmn : m ≤ 4096 := by have := H.out.pl.count; omega
  have c0 : w.cell? ⟨g, kk * 7, none⟩ = some (.int .i64 (hnd i ge)) := (by have := H.out.row.cell hkm (show 0 < 7 by omega); rw [Nat.mul_comm]; rw [← e1]; exact this)
  have HG1 := L.give H.out.at_ H.out.pl.ok e2 e3 e5 (by omega) e7 hgen
  have hok2 : (s.give i (-7777777)).Ok := H.out.pl.ok.give e3 _
  have hg2' : ((s.give i (-7777777)).slot i).gen ≠ ge := by show (upd s.slot i _ i).gen ≠ ge; rw [upd_same]; simp only; omega
  conv => arg 2; whnf
  unfold litOf
  simp only [x0, x2, x7, x9, x10, x11, x12, x13]
  clear x0 x2 x7 x9 x10 x11 x12 x13
  go_wp2_with (first
    | (go_at_call 7; refine (HX _).mono ?_; rintro e w' ⟨rfl, hw⟩; obtain rfl := hw.symm)
    | (go_at_call 9; refine HG1.mono ?_; rintro e w5 ⟨rfl, hT5, F5, hA5, hG5⟩; have hN5 := H.out.grew (Turned.refl _ _) hG5; have r5 := H.out.row.keep hT5 (H.out.sep L); have d0 : w5.cell? ⟨g, kk * 7, none⟩ = some (.int .i64 (hnd i ge)) := (by have := r5.cell hkm (show 0 < 7 by omega); rw [Nat.mul_comm]; rw [← e1]; exact this); have HG2 := L.giveGone hA5 hok2 e2 e3 e5 (by omega) e7 hg2'; clear HG1)
    | (go_at_call 9; refine HG2.mono ?_; rintro e w6 ⟨rfl, hT6, hA6⟩; have r6 := r5.keep hT6 (sep_of L hA5 r5); have f0 : w6.cell? ⟨g, kk * 7, none⟩ = some (.int .i64 (hnd i ge)) := (by have := r6.cell hkm (show 0 < 7 by omega); rw [Nat.mul_comm]; rw [← e1]; exact this); have f1 : w6.cell? ⟨g, kk * 7 + 1, none⟩ = some (.int .i64 ((HL kk).mark)) := (by have := r6.cell hkm (show 1 < 7 by omega); rw [Nat.mul_comm]; exact this); have f2 : w6.cell? ⟨g, kk * 7 + 2, none⟩ = some (.int .i64 ((HL kk).link)) := (by have := r6.cell hkm (show 2 < 7 by omega); rw [Nat.mul_comm]; exact this); have f3 : w6.cell? ⟨g, kk * 7 + 3, none⟩ = some (.int .i64 ((HL kk).a)) := (by have := r6.cell hkm (show 3 < 7 by omega); rw [Nat.mul_comm]; exact this); have f4 : w6.cell? ⟨g, kk * 7 + 4, none⟩ = some (.int .i64 ((HL kk).b)) := (by have := r6.cell hkm (show 4 < 7 by omega); rw [Nat.mul_comm]; exact this); have f5 : w6.cell? ⟨g, kk * 7 + 5, none⟩ = some (.int .i64 ((HL kk).c)) := (by have := r6.cell hkm (show 5 < 7 by omega); rw [Nat.mul_comm]; exact this); have f6 : w6.cell? ⟨g, kk * 7 + 6, none⟩ = some (.int .i64 ((HL kk).d)) := (by have := r6.cell hkm (show 6 < 7 by omega); rw [Nat.mul_comm]; exact this); have u0 : w6.cell? ⟨g, (m - 1) * 7, none⟩ = some (.int .i64 (HL (m - 1)).h) := (by have := r6.cell (p := m - 1) (by omega) (show 0 < 7 by omega); rw [Nat.mul_comm]; exact this); have u1 : w6.cell? ⟨g, (m - 1) * 7 + 1, none⟩ = some (.int .i64 (HL (m - 1)).mark) := (by have := r6.cell (p := m - 1) (by omega) (show 1 < 7 by omega); rw [Nat.mul_comm]; exact this); have u2 : w6.cell? ⟨g, (m - 1) * 7 + 2, none⟩ = some (.int .i64 (HL (m - 1)).link) := (by have := r6.cell (p := m - 1) (by omega) (show 2 < 7 by omega); rw [Nat.mul_comm]; exact this); have u3 : w6.cell? ⟨g, (m - 1) * 7 + 3, none⟩ = some (.int .i64 (HL (m - 1)).a) := (by have := r6.cell (p := m - 1) (by omega) (show 3 < 7 by omega); rw [Nat.mul_comm]; exact this); have u4 : w6.cell? ⟨g, (m - 1) * 7 + 4, none⟩ = some (.int .i64 (HL (m - 1)).b) := (by have := r6.cell (p := m - 1) (by omega) (show 4 < 7 by omega); rw [Nat.mul_comm]; exact this); have u5 : w6.cell? ⟨g, (m - 1) * 7 + 5, none⟩ = some (.int .i64 (HL (m - 1)).c) := (by have := r6.cell (p := m - 1) (by omega) (show 5 < 7 by omega); rw [Nat.mul_comm]; exact this); have u6 : w6.cell? ⟨g, (m - 1) * 7 + 6, none⟩ = some (.int .i64 (HL (m - 1)).d) := (by have := r6.cell (p := m - 1) (by omega) (show 6 < 7 by omega); rw [Nat.mul_comm]; exact this); have z := r6.froz)
    | (go_at_call 6; refine (cNum _ _).mono ?_; rintro e w' ⟨rfl, hw⟩; obtain rfl := hw.symm))
  exact hK _ _ ⟨s.n, count, p, .slice (some ⟨g, 0, none⟩) (m - 1) cap, hnd i ge, s.faults, Y, k + 1⟩ ⟨rfl, rfl, rfl, rfl, rfl, rfl, rfl, rfl, rfl, rfl⟩ rfl rfl rfl rfl rfl ⟨s.give i (-7777777), m - 1, fun p => if p = kk then HL (m - 1) else HL p, i :: St, F5, rfl, rfl, PLW.gave L ((H.out.base.inner hT5 (fun x hx => .inr (H.out.fnew x hx))).inner hT6 (fun x hx => .inr (hN5 x hx))) hN5 hA6 r6 hkm (e1 ▸ H.out.pl.give (by omega) hkm e8 (-7777777)) H.out.f0 (le_step H.out.f1)⟩
end
end Go.Proofs.Ytfebndolnnaiiab

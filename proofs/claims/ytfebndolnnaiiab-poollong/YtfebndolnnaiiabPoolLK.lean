/- PoolLong's round: the end. -/
import Derived.Test.YtfebndolnnaiiabPoolFrame
import Derived.Deep.QuietTactic
namespace Go.Proofs.Ytfebndolnnaiiab
open Go.RowKit
section
variable {At : World → Nat → List Nat → PSt → Prop} {W : World} {q : QL} {F : List Nat} {s : PSt} {m : Nat} {HL : Nat → Held} {St : List Nat} {a : Act} {w : World} {K : Act → World → Prop} {Q : Exit → Act → World → Prop}
set_option maxRecDepth 100000 in
set_option maxHeartbeats 4000000 in
theorem long_end (f : FP q a) (hc : ¬ (q.k : Int) < q.count) (HQ : Hid (∀ a', FP q a' → Q (.exit 0) a' w)) : (atc Try.f3.body pB).wp Try.prog (Exit.then K Q) a w := by
  obtain ⟨c, rfl, x0, x2, x7, x9, x10, x11, x12, x13⟩ := f.lit
  clear f
  obtain ⟨n, count, p, v, last, fa, X, k⟩ := q
  simp only at *
  conv => arg 2; whnf
  unfold litOf
  simp only [x0, x2, x7, x9, x10, x11, x12, x13]
  clear x0 x2 x7 x9 x10 x11 x12 x13
  go_wp2
  exact HQ.out _ ⟨rfl, rfl, rfl, rfl, rfl, rfl, rfl, rfl, rfl, rfl⟩
set_option maxRecDepth 100000 in
set_option maxHeartbeats 4000000 in
theorem long_tail (L : PoolLaws At) (f : FP q a) (hsn : s.n = q.n) (hfa : q.fa = s.faults) (H : Hid (PLW At W w q.p F s m HL St q.last q.k q.v)) :
    (atc Try.f3.body [1, 1, 1, 1, 1, 1, 1, 1, 1]).wp Try.prog (bodyPost Try.prog Try.f3 fun e w' => e = .returned (.bool true) ∧ Below W.heap.size W w') a w := by
  obtain ⟨c, rfl, x0, x2, x7, x9, x10, x11, x12, x13⟩ := f.lit
  clear f
  obtain ⟨n, count, p, v, last, fa, X, k⟩ := q
  simp only at *
  subst hfa
  subst hsn
  obtain ⟨la, lc, hl⟩ := H.out.row.shape
  subst hl
  have hcount := H.out.pl.count
  have hpn2 := H.out.pl.ok.n2
  have HF := L.faults H.out.at_
  conv => arg 2; whnf
  unfold litOf
  simp only [x0, x2, x7, x9, x10, x11, x12, x13]
  clear x0 x2 x7 x9 x10 x11 x12 x13
  go_wp2_with (first
    | (go_at_call 14; refine HF.mono ?_; rintro e w5 ⟨rfl, hT5, hA5⟩; have HR := L.free hA5 H.out.pl.ok H.out.pl.top H.out.pl.nodup H.out.pl.small)
    | (go_at_call 15; refine HR.mono ?_; rintro e w6 ⟨⟨fa, fc, rfl⟩, hT6, hA6⟩))
  go_ret
  have hb := (H.out.base.inner hT5 (fun x hx => .inr (H.out.fnew x hx))).inner hT6 (fun x hx => .inr (H.out.fnew x hx))
  refine ⟨?_, hb.below (Below.refl _ _) (by simp) (Nat.le_refl _)⟩
  have hv : (((St.length : Nat) : Int) == ((s.n : Nat) : Int) - ((m : Nat) : Int)) = true := by simp; omega
  show Ending.returned (.bool (((St.length : Nat) : Int) == ((s.n : Nat) : Int) - ((m : Nat) : Int))) = _
  rw [hv]
end
end Go.Proofs.Ytfebndolnnaiiab

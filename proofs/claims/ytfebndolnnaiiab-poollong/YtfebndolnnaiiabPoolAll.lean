/- PoolLong is proved: for every pool size, every first number and every count, the law answers true, whatever the order in which Go evaluates. (No condition.) -/
import Derived.Test.YtfebndolnnaiiabPoolGive
import Derived.Test.YtfebndolnnaiiabPoolSlots
import Derived.Test.YtfebndolnnaiiabPoolNew
import Derived.Test.YtfebndolnnaiiabPoolLongRow
namespace Go.Proofs.Ytfebndolnnaiiab
open Go.RowKit
/-- The program's pool. -/
def PoolAt (w : World) (p : Nat) (F : List Nat) (s : PSt) : Prop := ∃ sb pb nb L, PA w p sb pb nb L s ∧ F = blocks p sb pb nb L s.n
theorem PoolAt.same {w w' : World} {p sb pb nb : Nat} {L : Nat → Nat} {s : PSt} (h : PA w p sb pb nb L s) (ht : Turned [] w w') : Turned (blocks p sb pb nb L s.n) w w' ∧ PoolAt w' p (blocks p sb pb nb L s.n) s :=
  ⟨ht.mono (by simp), sb, pb, nb, L, h.keep ht (by simp), rfl⟩
theorem poolLaws : PoolLaws PoolAt where
  keep := by
    rintro w w' p F l s ⟨sb, pb, nb, L, h, rfl⟩ ht hl
    exact ⟨sb, pb, nb, L, h.keep ht hl, rfl⟩
  lt := by
    rintro w p F s ⟨sb, pb, nb, L, h, rfl⟩
    exact h.lt
  alien := by
    rintro w p F s ⟨sb, pb, nb, L, h, rfl⟩
    exact h.alien
  new := by
    intro w n h1 h2
    refine (cPNew w n h1 h2).mono ?_
    rintro e w' ⟨rfl, ht, h⟩
    refine ⟨_, _, rfl, ht, ⟨_, _, _, _, h, rfl⟩, fun x hx => ?_⟩
    rcases mem_blocks hx with rfl | rfl | rfl | rfl | ⟨k, hk, rfl⟩ <;> omega
  take := by
    rintro w p F s i ⟨sb, pb, nb, L, h, rfl⟩ ho hi h0 g0 g1 a b c d link
    refine (cPTake h ho hi h0 g0 g1 a b c d link).mono ?_
    rintro e w' ⟨rfl, ht, b', hb, h'⟩
    exact ⟨rfl, ht, _, ⟨sb, pb, nb, _, h', rfl⟩, wider_lead hb⟩
  takeFull := by
    rintro w p F s ⟨sb, pb, nb, L, h, rfl⟩ ho hi a b c d link
    refine (cPTakeFull h hi a b c d link).mono ?_
    rintro e w' ⟨rfl, ht, h'⟩
    exact ⟨rfl, PoolAt.same h ht⟩
  give := by
    rintro w p F s i g ⟨sb, pb, nb, L, h, rfl⟩ ho h1 h2 g0 g1 g2 hg
    refine (cPGive h h1 h2 ho.n2 g0 g1 g2 hg ho).mono ?_
    rintro e w' ⟨rfl, ht, b', hb, h'⟩
    exact ⟨rfl, ht, _, ⟨sb, pb, nb, _, h', rfl⟩, wider_lead hb⟩
  giveGone := by
    rintro w p F s i g ⟨sb, pb, nb, L, h, rfl⟩ ho h1 h2 g0 g1 g2 hg
    refine (cPGiveGone h h1 h2 ho.n2 g0 g1 g2 hg).mono ?_
    rintro e w' ⟨rfl, rfl⟩
    exact ⟨rfl, PoolAt.same h (Turned.refl _ _).drew⟩
  read := by
    rintro w p F s i g ⟨sb, pb, nb, L, h, rfl⟩ ho h1 h2 g0 g1 g2 hg
    refine (cPRead h h1 h2 ho.n2 g0 g1 g2 hg).mono ?_
    rintro e w' ⟨rfl, ht, h'⟩
    exact ⟨rfl, PoolAt.same h ht⟩
  readGone := by
    rintro w p F s i g ⟨sb, pb, nb, L, h, rfl⟩ ho h1 h2 g0 g1 g2 hg f0 f1
    refine (cPReadGone h h1 h2 ho.n2 g0 g1 g2 hg f0 f1).mono ?_
    rintro e w' ⟨rfl, ht, h'⟩
    exact ⟨rfl, ht.mono (by simp [blocks]), sb, pb, nb, L, h', rfl⟩
  readBad := by
    rintro w p F s x ⟨sb, pb, nb, L, h, rfl⟩ ho hb
    refine (cPReadBad h hb).mono ?_
    rintro e w' ⟨rfl, ht, h'⟩
    exact ⟨rfl, PoolAt.same h ht⟩
  slots := by
    rintro w p F s ⟨sb, pb, nb, L, h, rfl⟩ ho
    refine (cPSlots h ho.n2).mono ?_
    rintro e w' ⟨rfl, ht, hg⟩
    refine ⟨(PoolAt.same h ht).1, (PoolAt.same h ht).2, _, _, _, rfl, Nat.le_refl _, hg, fun j k hj hk => ?_⟩
    have := rec_cell hg hj hk
    rw [cell_at hg, Nat.mul_comm j 7] at this
    rw [this]
    simp [sTab, hj]
  mark := by
    rintro w p F s i g ⟨sb, pb, nb, L, h, rfl⟩ ho h1 h2 g0 g1 g2 hg
    refine (cPMark h h1 h2 ho.n2 g0 g1 g2 hg).mono ?_
    rintro e w' ⟨rfl, rfl⟩
    exact ⟨rfl, PoolAt.same h (Turned.refl _ _)⟩
  casMark := by
    rintro w p F s i g ⟨sb, pb, nb, L, h, rfl⟩ ho h1 h2 g0 g1 g2 hg old v
    by_cases hm : (s.slot i).mark = old
    · refine (cPCasMark h h1 h2 ho.n2 g0 g1 g2 hg old v hm).mono ?_
      rintro e w' ⟨rfl, rfl⟩
      refine ⟨by simp [hm], (Turned.refl _ _).set (.inl (mem_life h2)) _ _, ?_⟩
      rw [if_pos hm]
      exact ⟨sb, pb, nb, L, h.putMark h2 (by omega) v, rfl⟩
    · refine (cPCasNot h h1 h2 ho.n2 g0 g1 g2 hg old v hm).mono ?_
      rintro e w' ⟨rfl, rfl⟩
      rw [if_neg hm]
      exact ⟨by simp [hm], PoolAt.same h (Turned.refl _ _)⟩
  swapLink := by
    rintro w p F s i g ⟨sb, pb, nb, L, h, rfl⟩ ho h1 h2 g0 g1 g2 hg v
    refine (cPSwap h h1 h2 ho.n2 g0 g1 g2 hg v).mono ?_
    rintro e w' ⟨rfl, rfl⟩
    exact ⟨rfl, (Turned.refl _ _).set (.inl (mem_life h2)) _ _, sb, pb, nb, L, h.putLink h2 (by omega) v, rfl⟩
  faults := by
    rintro w p F s ⟨sb, pb, nb, L, h, rfl⟩
    refine (cPFaults h).mono ?_
    rintro e w' ⟨rfl, rfl⟩
    exact ⟨rfl, PoolAt.same h (Turned.refl _ _)⟩
  free := by
    rintro w p F s St ⟨sb, pb, nb, L, h, rfl⟩ ho hL hN hS
    refine (cPFree h ho hL hN hS).mono ?_
    rintro e w' ⟨he, ht⟩
    exact ⟨he, PoolAt.same h ht⟩
theorem poolLong_holds : Rows.PoolLongSaid := poolLong_of poolLaws
end Go.Proofs.Ytfebndolnnaiiab

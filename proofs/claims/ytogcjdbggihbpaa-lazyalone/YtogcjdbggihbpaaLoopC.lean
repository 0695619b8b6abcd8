/- The law's third loop: what is made, held against the document's cells. -/
import Derived.Test.YtogcjdbggihbpaaStO
namespace Go.Proofs.Ytogcjdbggihbpaa
open Go.RowKit Go.Conc Go.MuLone
theorem madeL_prefix (p : Nat → Bool) (j : Nat) : ∀ d, ∃ r, madeL p (j + d) = madeL p j ++ r
  | 0 => ⟨[], by simp⟩
  | d + 1 => by
    obtain ⟨r, hr⟩ := madeL_prefix p j d
    cases h : p (j + d) with
    | true => exact ⟨r ++ [.int .i64 (j + d : Nat)], by rw [← Nat.add_assoc, madeL_yes h, hr, List.append_assoc]⟩
    | false => exact ⟨r, by rw [← Nat.add_assoc, madeL_no h, hr]⟩
theorem madeL_at {p : Nat → Bool} {j n : Nat} (hj : j < n) (hp : p j = true) : (madeL p n)[(madeL p j).length]? = some (.int .i64 j) ∧ (madeL p j).length < (madeL p n).length := by
  obtain ⟨r, hr⟩ := madeL_prefix p (j + 1) (n - (j + 1))
  rw [show j + 1 + (n - (j + 1)) = n from by omega, madeL_yes hp] at hr
  rw [hr]
  simp
structure FC (ga n gc : Nat) (ao : Option Addr) (ln cap : Nat) (a : Act) : Prop where
  size : a.tmps.size = 369
  defers : a.defers = []
  s12 : a.eval (.tmp 12) = .slice (some ⟨ga, 0, none⟩) n gc
  s26 : a.eval (.tmp 26) = .int .i64 71
  s28 : a.eval (.tmp 28) = .int .i64 71
  s29 : a.eval (.tmp 29) = .slice ao ln cap
def pC : List Nat := [1, 1, 1, 1, 1, 1, 1, 1, 1, 1, 1, 1, 1, 1, 1, 0, 1, 0, 0]
theorem hpC : atc Try.f3.body pC = .seq (atc Try.f3.body [1, 1, 1, 1, 1, 1, 1, 1, 1, 1, 1, 1, 1, 1, 1, 0, 1, 0, 0, 0]) (.seq (.block 6 (atc Try.f3.body [1, 1, 1, 1, 1, 1, 1, 1, 1, 1, 1, 1, 1, 1, 1, 0, 1, 0, 0, 1, 0, 0])) (atc Try.f3.body [1, 1, 1, 1, 1, 1, 1, 1, 1, 1, 1, 1, 1, 1, 1, 0, 1, 0, 0, 1, 1])) := by kernel_rfl
section
variable {w : World} {ga n gc : Nat} {ao : Option Addr} {cap : Nat} {p : Nat → Bool} {Ec : Nat → Nat}
def IC (w : World) (ga n gc : Nat) (ao : Option Addr) (cap : Nat) (p : Nat → Bool) (a : Act) (w' : World) : Prop :=
  w' = w ∧ FC ga n gc ao (madeL p n).length cap a ∧ ∃ i : Nat, i ≤ n ∧ a.eval (.tmp 31) = .int .i64 i ∧ a.eval (.tmp 30) = .int .i64 (madeL p i).length
def muC (n : Nat) (a : Act) (_ : World) : Nat := n - (intOf (a.eval (.tmp 31))).toNat
theorem roundC (hn : n ≤ 1000) (h1 : ∀ i, i < n → w.cell? ⟨ga, i, none⟩ = some (ptr (Ec i)) ∧ w.cell? ⟨Ec i, 5, none⟩ = some (.bool (p i)))
    (h3 : ∀ i, i < (madeL p n).length → ∃ gm, ao = some ⟨gm, 0, none⟩ ∧ ∀ y, (madeL p n)[i]? = some y → w.cell? ⟨gm, i, none⟩ = some y)
    {Q : Exit → Act → World → Prop} (hexit : ∀ a, FC ga n gc ao (madeL p n).length cap a → a.eval (.tmp 30) = .int .i64 (madeL p n).length → Q (.exit 5) a w) (a : Act) (w' : World) (hI : IC w ga n gc ao cap p a w') :
    (atc Try.f3.body pC).wp Try.prog (Exit.then (fun a2 w2 => IC w ga n gc ao cap p a2 w2 ∧ muC n a2 w2 < muC n a w') Q) a w' := by
  obtain ⟨rfl, hF, i, hi, e31, e30⟩ := hI
  have hn0 : muC n a w' = n - i := by unfold muC; rw [e31]; simp [intOf]
  rw [hn0, hpC]
  by_cases hlt : i < n
  · refine wp_seq (c48lt hF.size hF.defers hF.s12 hF.s26 hF.s28 hF.s29 e30 e31 hlt fun a1 z1 z2 y12 y26 y28 y29 y30 y31 => ?_)
    refine wp_seq (wp_block (wp_last ?_))
    obtain ⟨hc, hd⟩ := h1 i hlt
    have hml := madeL_le p n
    cases hp : p i with
    | false =>
      rw [hp] at hd
      refine c50no z1 z2 y12 y26 y28 y29 y30 y31 hlt hc hd fun a2 z1 z2 y12 y26 y28 y29 y30 y31 => ?_
      refine c49 z1 z2 y12 y26 y28 y29 y30 y31 (by omega) fun a3 z1 z2 y12 y26 y28 y29 y30 y31 => ⟨⟨rfl, ⟨z1, z2, y12, y26, y28, y29⟩, i + 1, by omega, y31, ?_⟩, ?_⟩
      · rw [madeL_no hp]; exact y30
      · unfold muC; rw [y31]; simp only [intOf]; omega
    | true =>
      rw [hp] at hd
      obtain ⟨hat, hklt⟩ := madeL_at hlt hp
      obtain ⟨gm, hao, hcm⟩ := h3 _ hklt
      rw [hao] at y29
      refine c50yes z1 z2 y12 y26 y28 y29 y30 y31 hlt hklt (by omega) hc hd (hcm _ hat) fun a2 z1 z2 y12 y26 y28 y29 y30 y31 => ?_
      refine c49 z1 z2 y12 y26 y28 y29 y30 y31 (by omega) fun a3 z1 z2 y12 y26 y28 y29 y30 y31 => ⟨⟨rfl, ⟨z1, z2, y12, y26, y28, by rw [hao]; exact y29⟩, i + 1, by omega, y31, ?_⟩, ?_⟩
      · rw [madeL_yes hp, List.length_append]; exact y30
      · unfold muC; rw [y31]; simp only [intOf]; omega
  · have : i = n := by omega
    subst this
    exact wp_seq (c48ge hF.size hF.defers hF.s12 hF.s26 hF.s28 hF.s29 e30 e31 hlt fun a1 z1 z2 y12 y26 y28 y29 y30 y31 => hexit a1 ⟨z1, z2, y12, y26, y28, y29⟩ y30)
end
end Go.Proofs.Ytogcjdbggihbpaa

/- PoolLong, over the contracts of package pool. -/
import Derived.Test.YtfebndolnnaiiabPoolLA
import Derived.Test.YtfebndolnnaiiabPoolLB
import Derived.Test.YtfebndolnnaiiabPoolLC
import Derived.Test.YtfebndolnnaiiabPoolLD
import Derived.Test.YtfebndolnnaiiabPoolLE
import Derived.Test.YtfebndolnnaiiabPoolLF
import Derived.Test.YtfebndolnnaiiabPoolLG
import Derived.Test.YtfebndolnnaiiabPoolLH
import Derived.Test.YtfebndolnnaiiabPoolLI
import Derived.Test.YtfebndolnnaiiabPoolLJ
import Derived.Test.YtfebndolnnaiiabPoolLK
namespace Go.Proofs.Ytfebndolnnaiiab
open Go.RowKit
section
variable {At : World → Nat → List Nat → PSt → Prop}
/-- What holds at each round's beginning. -/
def IL (At : World → Nat → List Nat → PSt → Prop) (W : World) (n : Nat) (count : Int) (p : Nat) (a : Act) (w : World) : Prop :=
  ∃ (q : QL) (s : PSt) (m : Nat) (HL : Nat → Held) (St : List Nat) (F : List Nat), FP q a ∧ q.n = n ∧ q.count = count ∧ q.p = p ∧ s.n = q.n ∧ q.fa = s.faults ∧ 0 ≤ q.x ∧ q.x < 2147483648 ∧ q.k ≤ 32768 ∧ Hid (PLW At W w q.p F s m HL St q.last q.k q.v)
def muL (count : Int) (a : Act) (_ : World) : Nat := (count - intOf (a.eval (.tmp 13))).toNat
theorem round_long (L : PoolLaws At) {W : World} {n : Nat} {count : Int} {p : Nat} (hcount : count ≤ 32768) {Q : Exit → Act → World → Prop}
    (hexit : ∀ a w (q : QL) (s : PSt) (m : Nat) (HL : Nat → Held) (St : List Nat) (F : List Nat), FP q a → q.p = p → s.n = q.n → q.fa = s.faults → Hid (PLW At W w q.p F s m HL St q.last q.k q.v) → Q (.exit 0) a w) (a : Act) (w : World) (hI : IL At W n count p a w) :
    (atc Try.f3.body pB).wp Try.prog (Exit.then (fun a' w' => IL At W n count p a' w' ∧ muL count a' w' < muL count a w) Q) a w := by
  obtain ⟨q, s, m, HL, St, F, f, hn, hco, hp, hsn, hfa, hx0, hx1, hk, H⟩ := hI
  by_cases hc : (q.k : Int) < q.count
  · have hk' : q.k ≤ 32767 := by omega
    have hmu : muL count a w = (count - q.k).toNat := by unfold muL; rw [f.s13]; rfl
    have hK : ∀ a' w' q', FP q' a' → q'.n = q.n → q'.count = q.count → q'.p = q.p → q'.k = q.k + 1 → q'.x = nextX q.x → (∃ s' m' HL' St' F', s'.n = q.n ∧ q'.fa = s'.faults ∧ Hid (PLW At W w' q.p F' s' m' HL' St' q'.last q'.k q'.v)) → IL At W n count p a' w' ∧ muL count a' w' < muL count a w := by
      rintro a' w' q' f' g1 g2 g3 g4 g5 ⟨s', m', HL', St', F', g6, g7, H'⟩
      refine ⟨⟨q', s', m', HL', St', F', f', g1.trans hn, g2.trans hco, g3.trans hp, g6.trans g1.symm, g7, by rw [g5]; unfold nextX; omega, by rw [g5]; unfold nextX; omega, by omega, by rw [g3]; exact H'⟩, ?_⟩
      rw [hmu]
      unfold muL
      rw [f'.s13]
      simp only [intOf]
      omega
    have hpl := H.out.pl
    by_cases hk3 : nextX q.x / 16 % 8 < 3
    · cases St with
      | nil => exact long_full L f hsn hfa hk' hc hx0 hx1 H rfl hk3 hK
      | cons i0 S0 => exact long_take L f hsn hfa hk' hc hx0 hx1 H rfl hk3 hK
    · by_cases hm : m = 0
      · cases St with
        | nil => have := hpl.count; have := hpl.ok.n1; simp at *; omega
        | cons i0 S0 => exact long_first L f hsn hfa hk' hc hx0 hx1 H rfl hk3 hm hK
      · have hm0 : 0 < m := by omega
        rcases (by omega : nextX q.x / 16 % 8 = 3 ∨ nextX q.x / 16 % 8 = 4 ∨ nextX q.x / 16 % 8 = 5 ∨ nextX q.x / 16 % 8 = 6 ∨ nextX q.x / 16 % 8 = 7) with e | e | e | e | e
        · exact long_give L f hsn hfa hk' hc hx0 hx1 H hm0 e hK
        · exact long_read L f hsn hfa hk' hc hx0 hx1 H hm0 e hK
        · by_cases hmk : (HL (nextX q.x / 128 % (m : Int)).toNat).mark = nextX q.x / 7 % 3
          · exact long_mark L f hsn hfa hk' hc hx0 hx1 H hm0 e hmk hK
          · exact long_stays L f hsn hfa hk' hc hx0 hx1 H hm0 e hmk hK
        · exact long_link L f hsn hfa hk' hc hx0 hx1 H hm0 e hK
        · by_cases hl0 : q.last = 0
          · exact long_none L f hsn hfa hk' hc hx0 hx1 H hm0 e hl0 hK
          · exact long_past L f hsn hfa hk' hc hx0 hx1 H hm0 e hl0 hK
  · exact long_end f hc (fun a' f' => hexit a' w q s m HL St F f' hp hsn hfa H)
set_option maxRecDepth 100000 in
set_option maxHeartbeats 1600000 in
theorem long_all (L : PoolLaws At) (HKn : ∀ w, Calls Try.prog 4 #[] w fun e w' => e = .returned (.bool true) ∧ Below w.heap.size w w') (W : World) (n : Nat) (begins count : Int) (h1 : 1 ≤ n) (h2 : n ≤ 4096) (h3 : 0 ≤ begins) (h4 : begins < 2147483648) (h5 : count ≤ 32768) :
    Calls Try.prog 3 #[.int .i64 n, .int .i64 begins, .int .i64 count] W fun e w' => e = .returned (.bool true) ∧ Below W.heap.size W w' := by
  have d1 : decide ((n : Int) < 1) = false := decide_eq_false (by omega)
  have d2 : decide ((4096 : Int) < n) = false := decide_eq_false (by omega)
  have d3 : decide (begins < 0) = false := decide_eq_false (by omega)
  have d4 : decide ((2147483648 : Int) ≤ begins) = false := decide_eq_false (by omega)
  have d5 : decide ((32768 : Int) < count) = false := decide_eq_false (by omega)
  go_enter Try.func3, Try.ntmps3
  go_wp2_with (first
    | (go_at_call 4; refine (HKn _).mono ?_; rintro e w1 ⟨rfl, hK1⟩)
    | (go_at_call 5; refine (L.new _ n h1 h2).mono ?_; rintro e w2 ⟨p, F, rfl, hT2, hA2, hF2⟩)
    | (go_at_call 6; refine (cNum _ _).mono ?_; rintro e w' ⟨rfl, hw⟩; obtain rfl := hw.symm))
  have H0 : Hid (PLW At W w2 p F (PSt.new n) 0 (fun _ => ⟨0, 0, 0, 0, 0, 0, 0⟩) (List.range' 1 n) 0 0 (.slice none 0 0)) :=
    ⟨hA2, PL.new h1 h2 _, LRow.nil _ _ _, (Turned.of hK1).trans hT2, fun x hx => Nat.le_trans hK1.size (hF2 x hx), Int.le_refl _, Int.le_refl _⟩
  rename_i K0 hK0
  refine (show (Code.loop (atc Try.f3.body pB)).wp _ _ _ _ from ?_)
  refine wp_loop (IL At W n count p) (muL count) ?_ (round_long L h5 ?_)
  · exact ⟨⟨n, count, p, .slice none 0 0, 0, 0, begins, 0⟩, PSt.new n, 0, fun _ => ⟨0, 0, 0, 0, 0, 0, 0⟩, List.range' 1 n, F, ⟨rfl, rfl, rfl, rfl, rfl, rfl, rfl, rfl, rfl, rfl⟩, rfl, rfl, rfl, rfl, rfl, h3, h4, by show 0 ≤ 32768; omega, H0⟩
  · intro a w q s m HL St F f hp hsn hfa H
    show K0 a w
    refine hK0 _ _ ?_
    exact long_tail L f hsn hfa H
end
end Go.Proofs.Ytfebndolnnaiiab

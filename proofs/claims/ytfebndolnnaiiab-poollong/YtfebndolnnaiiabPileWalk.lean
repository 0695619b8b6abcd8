/- Package pile, alone: below and Places: the places from the top, down to none or to one that came already. -/
import Derived.Test.YtfebndolnnaiiabPileSet
import Derived.Test.YtfebndolnnaiiabPileNew
import Derived.Test.YtfebndolnnaiiabPush
import Derived.Laws.Bits64b
namespace Go.Proofs.Ytfebndolnnaiiab
open Go.RowKit

/-- The set that a row of words is: place i is bit (i - 1) % 64 of word (i - 1) / 64. -/
structure Seen (g : Nat → Nat) (L : List Nat) : Prop where
  small : ∀ k, g k < 18446744073709551616
  bit : ∀ j, j < 4096 → (g (j / 64)).testBit (j % 64) = decide (j + 1 ∈ L)
theorem seen_none : Seen (fun _ => 0) [] := ⟨fun _ => by omega, fun j _ => by simp⟩
theorem orBit_nat (a j : Nat) (ha : a < 18446744073709551616) : orBit (a : Int) j = ((a ||| 2 ^ (j % 64) : Nat) : Int) := by
  have h2 : 2 ^ (j % 64) < 18446744073709551616 := by
    have : 2 ^ (j % 64) ≤ 2 ^ 63 := Nat.pow_le_pow_right (by omega) (by omega)
    omega
  have hw : IntKind.u64.wrap ((2 : Int) ^ (j % 64)) = ((2 ^ (j % 64) : Nat) : Int) := by
    have : ((2 : Int) ^ (j % 64)) = ((2 ^ (j % 64) : Nat) : Int) := by push_cast; rfl
    rw [this]
    generalize 2 ^ (j % 64) = p at h2
    simp [IntKind.wrap, IntKind.bits, IntKind.signed]
    omega
  unfold orBit
  rw [hw]
  exact u64_or_nat a _ ha h2
theorem or_same (a m : Nat) : (a ||| 2 ^ m = a) ↔ a.testBit m = true := by
  constructor
  · intro h
    have := congrArg (fun x => x.testBit m) h
    simp only [Nat.testBit_or, Nat.testBit_two_pow_self, Bool.or_true] at this
    exact this.symm
  · intro h
    apply Nat.eq_of_testBit_eq
    intro i
    rw [Nat.testBit_or]
    by_cases e : m = i
    · subst e; simp [h]
    · simp [e]
theorem Seen.add {g : Nat → Nat} {L : List Nat} (h : Seen g L) {j : Nat} (hj : j < 4096) : Seen (fun k => if k = j / 64 then g (j / 64) ||| 2 ^ (j % 64) else g k) (L ++ [j + 1]) := by
  refine ⟨fun k => ?_, fun i hi => ?_⟩
  · by_cases e : k = j / 64
    · simp only [e, if_true]
      have : 2 ^ (j % 64) < 2 ^ 64 := Nat.pow_lt_pow_right (by omega) (by omega)
      have := Nat.or_lt_two_pow (h.small (j / 64)) this
      omega
    · simp only [e, if_false]; exact h.small k
  · have hb := h.bit i hi
    by_cases e : i / 64 = j / 64
    · simp only [e, if_true, Nat.testBit_or, Nat.testBit_two_pow]
      rw [e] at hb
      rw [hb]
      by_cases e2 : j % 64 = i % 64
      · have : i = j := by omega
        subst this
        simp
      · have : ¬ i = j := fun x => e2 (by rw [x])
        simp [e2, this]
    · have : ¬ i = j := fun x => e (by rw [x])
      simp only [e, if_false]
      rw [hb]
      simp [this]
theorem upd_nat (g : Nat → Nat) (k x : Nat) : upd (fun k => ((g k : Nat) : Int)) k (x : Int) = fun i => ((if i = k then x else g i : Nat) : Int) := by
  funext i
  unfold upd
  by_cases e : i = k <;> simp [e]
theorem cAddSeen {w : World} {b : Nat} {g : Nat → Nat} {L : List Nat} (hb : w.heap[b]? = some (setObj fun k => (g k : Int))) (hS : Seen g L) {i : Nat} (h0 : i ≠ 0) (hi : i ≤ 4096) :
    Calls Try.prog 55 #[.pointer (some ⟨b, 0, none⟩), .int .i64 i] w fun e w' => e = .returned (.bool (!decide (i ∈ L))) ∧ Turned [b] w w' ∧ ∃ g', Seen g' (L ++ [i]) ∧ w'.heap[b]? = some (setObj fun k => (g' k : Int)) := by
  obtain ⟨j, rfl⟩ : ∃ j, i = j + 1 := ⟨i - 1, by omega⟩
  have H := cAdd hb j (by omega)
  rw [orBit_nat _ _ (hS.small _), upd_nat] at H
  have hcond : ((List.range 64).all fun k => (((if k = j / 64 then g (j / 64) ||| 2 ^ (j % 64) else g k : Nat) : Int)) == ((g k : Nat) : Int)) = decide (j + 1 ∈ L) := by
    rw [← hS.bit j (by omega)]
    cases hbt : (g (j / 64)).testBit (j % 64) with
    | true =>
      rw [List.all_eq_true]
      intro k _
      by_cases e : k = j / 64
      · simp only [e, if_true, (or_same _ _).2 hbt]; simp
      · simp [e]
    | false =>
      rw [List.all_eq_false]
      refine ⟨j / 64, by simp; omega, ?_⟩
      have : ¬ (g (j / 64) ||| 2 ^ (j % 64)) = g (j / 64) := fun x => by rw [(or_same _ _).1 x] at hbt; cases hbt
      simp only [if_true, beq_iff_eq]
      exact fun x => this (Int.ofNat.inj x)
  rw [hcond] at H
  refine H.mono ?_
  rintro e w' ⟨he, hT, hw⟩
  exact ⟨he, hT, _, hS.add (by omega), hw⟩
/-- The places from i on, down to none or to one that came already. -/
def chain (f : Nat → Nat) : Nat → Nat → List Nat → List Nat
  | 0, _, L => L
  | t + 1, i, L => if i = 0 ∨ i ∈ L then L else chain f t (f i) (L ++ [i])
theorem chain_stop (f : Nat → Nat) (t i : Nat) (L : List Nat) (h : i = 0 ∨ i ∈ L) : chain f t i L = L := by
  cases t with
  | zero => rfl
  | succ t => simp [chain, h]
theorem chain_go (f : Nat → Nat) (t i : Nat) (L : List Nat) (h0 : i ≠ 0) (h : i ∉ L) : chain f (t + 1) i L = chain f t (f i) (L ++ [i]) := by
  simp [chain, h0, h]
/-- So many different places aren't more than there are. -/
theorem few_places : ∀ {n : Nat} {L : List Nat}, L.Nodup → (∀ x ∈ L, 1 ≤ x ∧ x ≤ n) → L.length ≤ n
  | 0, [], _, _ => Nat.le_refl _
  | 0, x :: L, _, hb => by have := hb x (by simp); omega
  | n + 1, L, hn, hb => by
    have ih := few_places (n := n) (hn.erase (n + 1)) (fun x hx => by
      rw [hn.mem_erase_iff] at hx
      have := hb x hx.2
      have := hx.1
      omega)
    rw [List.length_erase] at ih
    split at ih <;> omega
def placesV (L : List Nat) : List Value := L.map fun i : Nat => Value.int .i64 (i : Int)
structure Belows (W w : World) (sb n : Nat) (f : Nat → Nat) (i0 : Nat) (v : Value) (i : Nat) (L : List Nat) : Prop where
  turned : Turned [] W w
  set : ∃ g, Seen g L ∧ w.heap[sb]? = some (setObj fun k => (g k : Int))
  new : W.heap.size ≤ sb
  row : w.ownsRow W.heap.size 3 1 v L.length (placesV L)
  off : v.ownBlock ≠ some sb
  nodup : L.Nodup
  small : ∀ x ∈ L, 1 ≤ x ∧ x ≤ n
  le : i ≤ n
  rest : chain f (n + 1) i0 [] = chain f (n + 1 - L.length) i L
theorem Turned.grew {w w' : World} {v : Value} (hg : w.grownBy w' v.ownBlock) : Turned v.ownBlock.toList w w' :=
  ⟨hg.os, hg.tape, hg.output, hg.size, fun k hk hn => hg.block k hk (fun e => hn (by rw [← e]; simp))⟩
/-- The set has turned. -/
theorem Belows.added {W w w2 : World} {sb n : Nat} {f : Nat → Nat} {i0 : Nat} {v : Value} {i : Nat} {L : List Nat} (h : Belows W w sb n f i0 v i L) (ht : Turned [sb] w w2) : Turned [] W w2 ∧ w2.ownsRow W.heap.size 3 1 v L.length (placesV L) :=
  ⟨h.turned.inner ht (fun x hx => .inr (by simp at hx; rw [hx]; exact h.new)),
   h.row.kept (row := some sb) ⟨ht.os, ht.tape, ht.output, ht.size, fun k hk hn => ht.block k hk (by simp; exact fun he => hn (by rw [he]))⟩ (.inr h.off)⟩
theorem Belows.next {W w w2 w3 : World} {sb n : Nat} {f : Nat → Nat} {i0 : Nat} {v v' : Value} {i : Nat} {L : List Nat} (h : Belows W w sb n f i0 v i L) (h0 : i ≠ 0) (hi : i ∉ L) (hf : f i ≤ n) (ht : Turned [sb] w w2) {g : Nat → Nat} (hg : Seen g (L ++ [i])) (hs : w2.heap[sb]? = some (setObj fun k => (g k : Int)))
    {o : Obj} (hG : Grew (w2.alloc o) w3 v v') (hr : w3.ownsRow W.heap.size 3 1 v' (L.length + 1) (placesV L ++ [.int .i64 i])) : Belows W w3 sb n f i0 v' (f i) (L ++ [i]) := by
  obtain ⟨hT2, hR2⟩ := h.added ht
  obtain ⟨hGb, hGo⟩ := hG
  have hsl := lt_of_heap hs
  have hR3 : (w2.alloc o).ownsRow W.heap.size 3 1 v L.length (placesV L) := hR2.alloc _
  refine ⟨(hT2.alloc o).inner (Turned.grew hGb) (fun x hx => .inr ?_), ⟨g, hg, ?_⟩, h.new, by rw [List.length_append]; simpa [placesV] using hr, ?_, ?_, ?_, hf, ?_⟩
  · have : v.ownBlock = some x := by simpa using hx
    exact (hR3.lt _ this).1
  · rw [hGb.block sb (by simp; omega) (fun e => h.off e.symm)]
    exact blk_old hs o
  · rcases hGo with e | ⟨g', e, hge⟩
    · rw [e]; exact h.off
    · rw [e]; intro x; cases x; simp at hge; omega
  · exact List.nodup_append.2 ⟨h.nodup, by simp, fun a ha b hb => by simp at hb; subst hb; exact fun e => hi (e ▸ ha)⟩
  · intro x hx
    rcases List.mem_append.1 hx with hx | hx
    · exact h.small x hx
    · simp at hx; subst hx; exact ⟨by omega, h.le⟩
  · have hl := few_places h.nodup h.small
    have hlt : L.length < n := by
      rcases Nat.lt_or_ge L.length n with x | x
      · exact x
      · exfalso
        have := few_places (n := n) (L := L ++ [i]) (List.nodup_append.2 ⟨h.nodup, by simp, fun a ha b hb => by simp at hb; subst hb; exact fun e => hi (e ▸ ha)⟩) (fun x hx => by
          rcases List.mem_append.1 hx with hx | hx
          · exact h.small x hx
          · simp at hx; subst hx; exact ⟨by omega, h.le⟩)
        simp at this
        omega
    rw [h.rest, show n + 1 - L.length = (n + 1 - (L ++ [i]).length) + 1 by simp; omega, chain_go f _ i L h0 hi]
theorem infoInt : (Try.prog.info? 3).map (fun i => (i.zero, i.size, i.bytes)) = some (some (.int .i64 0), 1, 8) := by kernel_rfl
theorem undInts : Try.prog.underlying 45 = some (.slice 3) := by kernel_rfl
def lenOf : Value → Nat
  | .slice _ n _ => n
  | _ => 0
theorem len_of_owns {w : World} {B : Nat} {e : TypeId} {v : Value} {n : Nat} {xs : List Value} (h : w.ownsRow B e 1 v n xs) : lenOf v = n := by
  rcases h.2 with ⟨rfl, rfl⟩ | ⟨g, cap, cur, rfl, -⟩ <;> rfl
set_option maxRecDepth 100000 in
set_option maxHeartbeats 800000 in
theorem cBelow {w : World} {b nb n : Nat} {h : Int} {f : Nat → Nat} (H : PileAt w b nb n h fun k => (f k : Int)) (hn : n ≤ 4096) (hf : ∀ k, k ≤ n → f k ≤ n) {i0 : Nat} (hi0 : i0 ≤ n) :
    Calls Try.prog 50 #[.pointer (some ⟨b, 0, none⟩), .pointer none, .int .i64 i0] w fun e w' => ∃ v, e = .returned v ∧ Turned [] w w' ∧ w'.ownsRow w.heap.size 3 1 v (chain f (n + 1) i0 []).length (placesV (chain f (n + 1) i0 [])) := by
  have hb := H.head
  have hnx := H.next
  go_enter Try.func50, Try.ntmps50
  refine wp_seq_k fun K hK => ?_
  have HK : Hid _ := hK
  clear hK
  go_wp2
  refine HK.out _ _ ?_
  clear HK K
  refine wp_seq ?_
  refine wp_region ?_
  refine ops_run rfl rfl (x_assign rfl) ?_
  refine ops_nil ?_
  show Code.wp _ _ _ _ _
  refine wp_seq ?_
  refine wp_region ?_
  refine ops_run rfl rfl (x_alloc rfl (run_allocSet w)) ?_
  refine ops_nil ?_
  show Code.wp _ _ _ ⟨#[.pointer (some ⟨b, 0, none⟩), .pointer none, .int .i64 i0, undef, undef, undef, .slice none 0 0, .slice none 0 0, .pointer (some ⟨w.heap.size, 0, none⟩), undef, undef, undef, undef, undef, undef, undef, undef, undef, undef, undef, undef, undef, undef, undef, undef, undef, undef, undef, undef], []⟩ _
  have H0 : Hid (Belows w (w.alloc (setObj fun _ => 0)) w.heap.size n f i0 (.slice none 0 0) i0 []) :=
    ⟨(Turned.refl _ _).alloc _, ⟨fun _ => 0, seen_none, blk_new w _⟩, Nat.le_refl _, World.ownsRow_nil _ _ _ _, by simp [Value.ownBlock], by simp, by simp, hi0, by simp⟩
  generalize w.alloc (setObj fun _ => 0) = w1 at *
  obtain ⟨sb, hsb⟩ : ∃ sb, sb = w.heap.size := ⟨_, rfl⟩
  rw [← hsb]
  rw [← hsb] at H0
  have HSB : Hid (sb = w.heap.size) := hsb
  clear hsb
  go_wp2
  go_loopw [2, 7] (fun i v wx => ∃ (k : Nat) (L : List Nat), i = .int .i64 k ∧ lenOf v = L.length ∧ Hid (Belows w wx sb n f i0 v k L)) (fun _ v _ => n + 1 - lenOf v)
  case atStart => exact ⟨i0, [], rfl, rfl, H0⟩
  case round =>
    obtain ⟨k, L, rfl, hl, HT⟩ := hrel
    clear H0
    have hll := few_places HT.out.nodup HT.out.small
    by_cases h0 : k = 0
    · subst h0
      have hrest := HT.out.rest
      rw [chain_stop _ _ _ _ (.inl rfl)] at hrest
      go_wp2
      go_ret
      rw [hrest]
      exact ⟨_, rfl, HT.out.turned, HSB.out ▸ HT.out.row⟩
    · have hz : ((k : Int) == 0) = false := by simp; omega
      obtain ⟨g, hS, hset⟩ := HT.out.set
      have HA0 := cAddSeen hset hS h0 (Nat.le_trans HT.out.le hn)
      clear hset hS
      by_cases hin : k ∈ L
      · rw [show (!decide (k ∈ L)) = false by simp [hin]] at HA0
        have hrest := HT.out.rest
        rw [chain_stop _ _ _ _ (.inr hin)] at hrest
        go_wp2_with (go_at_call 55; refine HA0.mono ?_; rintro e w2 ⟨rfl, hT2, -⟩)
        go_ret
        rw [hrest]
        exact ⟨_, rfl, (HT.out.added hT2).1, HSB.out ▸ (HT.out.added hT2).2⟩
      · rw [show (!decide (k ∈ L)) = true by simp [hin]] at HA0
        have hlt : (k : Int) < (n : Int) + 1 := by have := HT.out.le; omega
        go_wp2_with (first
          | (go_at_call 55; refine HA0.mono ?_; rintro e w2 ⟨rfl, hT2, g2, hS2, hset0⟩; have hset2 : Hid _ := hset0; clear hset0; have hR2 := (HT.out.added hT2).2)
          | (at_builtin; refine wpList_push rfl _ _ 45 rfl w.heap.size 3 (.int .i64 0) 8 undInts infoInt rfl u7 L.length (placesV L) rfl (hR2.alloc _) ⟨w2.heap.size, 0, none⟩ 1 (.int .i64 k) rfl (by go_simp) rfl (by unfold maxLen; omega) (by omega) (by have := (HT.out.added hT2).1.size; simp; omega) ?_; intro v' w3 hr3 hG3; have hB3 := HT.out.next h0 hin (hf k HT.out.le) hT2 hS2 hset2.out hG3 hr3; have hb3 := hB3.turned.heap hb (by simp); have hn3 := hB3.turned.heap hnx (by simp); have c1 := cell_at hb3 1; simp at c1; have cn := next_cell hn3 HT.out.le; have hv3 := len_of_owns hr3)
          | (go_at_call 24; refine (cStep _).mono ?_; rintro e w' ⟨rfl, hw⟩; obtain rfl := hw.symm)
          | (go_at_call 29; refine (cALoad cn).mono ?_; rintro e w' ⟨rfl, hw⟩; obtain rfl := hw.symm))
        exact ⟨⟨f k, L ++ [k], rfl, by simp [hv3], hB3⟩, by simp [hv3, hl]; omega⟩
theorem cPlaces {w : World} {b nb n : Nat} {h : Int} {f : Nat → Nat} (H : PileAt w b nb n h fun k => (f k : Int)) (hn : n ≤ 4096) (hf : ∀ k, k ≤ n → f k ≤ n) {i0 : Nat} (hi : idxV h = i0) (hi0 : i0 ≤ n) :
    Calls Try.prog 32 #[.pointer (some ⟨b, 0, none⟩)] w fun e w' => ∃ v, e = .returned v ∧ Turned [] w w' ∧ w'.ownsRow w.heap.size 3 1 v (chain f (n + 1) i0 []).length (placesV (chain f (n + 1) i0 [])) := by
  have HI := cIndex h
  rw [hi] at HI
  have hb := H.head
  have HB := cBelow H hn hf hi0
  clear H
  go_enter Try.func32, Try.ntmps32
  go_wp2_with (first
    | (go_at_call 38; refine (cHead hb).mono ?_; rintro e w' ⟨rfl, hw⟩; obtain rfl := hw.symm)
    | (go_at_call 39; refine (HI _).mono ?_; rintro e w' ⟨rfl, hw⟩; obtain rfl := hw.symm)
    | (go_at_call 50; refine HB.mono ?_; rintro e w' ⟨v, rfl, hT, hR⟩))
  go_ret
  exact ⟨_, rfl, hT, hR⟩
end Go.Proofs.Ytfebndolnnaiiab

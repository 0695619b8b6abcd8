/- Package pile, alone: below and Places: the places from the top, down to none or to one that came already. -/
import Derived.Test.YtjbhnpofdafmbaaGreatDoorJ08
import Derived.Test.YtjbhnpofdafmbaaGreatDoorJ09
import Derived.Test.YtjbhnpofdafmbaaGreatDoorJ10
import Derived.Laws.Bits64b
import Derived.Test.YtjbhnpofdafmbaaGreatDoorJ04
import Derived.Test.YtjbhnpofdafmbaaGreatDoorJ07
namespace Go.Proofs.YtjbhnpofdafmbaaGreatDoor
open Go.RowKit

/-- The set that a row of words is: place i is bit (i - 1) % 64 of word (i - 1) / 64. -/
structure Seen (g : Nat → Nat) (L : List Nat) : Prop where
  small : ∀ k, g k < 18446744073709551616
  bit : ∀ j, j < 4096 → (g (j / 64)).testBit (j % 64) = decide (j + 1 ∈ L)
theorem seen_none : Seen (fun _ => 0) [] := ⟨fun _ => by omega, fun j _ => by simp⟩
theorem orBit_nat (a j : Nat) (ha : a < 18446744073709551616) : orBit (a : Int) j = ((a ||| 2 ^ (j % 64) : Nat) : Int) := by
  have h2 : 2 ^ (j % 64) < 18446744073709551616 := by
    have : 2 ^ (j % 64) ≤ 2 ^ 63 := Nat.pow_le_pow_right (by omega) (by omega)
    omega
  have hw : IntKind.u64.wrap ((2 : Int) ^ (j % 64)) = ((2 ^ (j % 64) : Nat) : Int) := by
    have : ((2 : Int) ^ (j % 64)) = ((2 ^ (j % 64) : Nat) : Int) := by push_cast; rfl
    rw [this]
    generalize 2 ^ (j % 64) = p at h2
    simp [IntKind.wrap, IntKind.bits, IntKind.signed]
    omega
  unfold orBit
  rw [hw]
  exact u64_or_nat a _ ha h2
theorem or_same (a m : Nat) : (a ||| 2 ^ m = a) ↔ a.testBit m = true := by
  constructor
  · intro h
    have := congrArg (fun x => x.testBit m) h
    simp only [Nat.testBit_or, Nat.testBit_two_pow_self, Bool.or_true] at this
    exact this.symm
  · intro h
    apply Nat.eq_of_testBit_eq
    intro i
    rw [Nat.testBit_or]
    by_cases e : m = i
    · subst e; simp [h]
    · simp [e]
theorem Seen.add {g : Nat → Nat} {L : List Nat} (h : Seen g L) {j : Nat} (hj : j < 4096) : Seen (fun k => if k = j / 64 then g (j / 64) ||| 2 ^ (j % 64) else g k) (L ++ [j + 1]) := by
  refine ⟨fun k => ?_, fun i hi => ?_⟩
  · by_cases e : k = j / 64
    · simp only [e, if_true]
      have : 2 ^ (j % 64) < 2 ^ 64 := Nat.pow_lt_pow_right (by omega) (by omega)
      have := Nat.or_lt_two_pow (h.small (j / 64)) this
      omega
    · simp only [e, if_false]; exact h.small k
  · have hb := h.bit i hi
    by_cases e : i / 64 = j / 64
    · simp only [e, if_true, Nat.testBit_or, Nat.testBit_two_pow]
      rw [e] at hb
      rw [hb]
      by_cases e2 : j % 64 = i % 64
      · have : i = j := by omega
        subst this
        simp
      · have : ¬ i = j := fun x => e2 (by rw [x])
        simp [e2, this]
    · have : ¬ i = j := fun x => e (by rw [x])
      simp only [e, if_false]
      rw [hb]
      simp [this]
theorem upd_nat (g : Nat → Nat) (k x : Nat) : upd (fun k => ((g k : Nat) : Int)) k (x : Int) = fun i => ((if i = k then x else g i : Nat) : Int) := by
  funext i
  unfold upd
  by_cases e : i = k <;> simp [e]
theorem cAddSeen {w : World} {b : Nat} {g : Nat → Nat} {L : List Nat} (hb : w.heap[b]? = some (setObj fun k => (g k : Int))) (hS : Seen g L) {i : Nat} (h0 : i ≠ 0) (hi : i ≤ 4096) :
    Calls Tryz.prog 138 #[.pointer (some ⟨b, 0, none⟩), .int .i64 i] w fun e w' => e = .returned (.bool (!decide (i ∈ L))) ∧ Turned [b] w w' ∧ ∃ g', Seen g' (L ++ [i]) ∧ w'.heap[b]? = some (setObj fun k => (g' k : Int)) := by
  obtain ⟨j, rfl⟩ : ∃ j, i = j + 1 := ⟨i - 1, by omega⟩
  have H := cAdd hb j (by omega)
  rw [orBit_nat _ _ (hS.small _), upd_nat] at H
  have hcond : ((List.range 64).all fun k => (((if k = j / 64 then g (j / 64) ||| 2 ^ (j % 64) else g k : Nat) : Int)) == ((g k : Nat) : Int)) = decide (j + 1 ∈ L) := by
    rw [← hS.bit j (by omega)]
    cases hbt : (g (j / 64)).testBit (j % 64) with
    | true =>
      rw [List.all_eq_true]
      intro k _
      by_cases e : k = j / 64
      · simp only [e, if_true, (or_same _ _).2 hbt]; simp
      · simp [e]
    | false =>
      rw [List.all_eq_false]
      refine ⟨j / 64, by simp; omega, ?_⟩
      have : ¬ (g (j / 64) ||| 2 ^ (j % 64)) = g (j / 64) := fun x => by rw [(or_same _ _).1 x] at hbt; cases hbt
      simp only [if_true, beq_iff_eq]
      exact fun x => this (Int.ofNat.inj x)
  rw [hcond] at H
  refine H.mono ?_
  rintro e w' ⟨he, hT, hw⟩
  exact ⟨he, hT, _, hS.add (by omega), hw⟩
/-- The places from i on, down to none or to one that came already. -/
def chain (f : Nat → Nat) : Nat → Nat → List Nat → List Nat
  | 0, _, L => L
  | t + 1, i, L => if i = 0 ∨ i ∈ L then L else chain f t (f i) (L ++ [i])
theorem chain_stop (f : Nat → Nat) (t i : Nat) (L : List Nat) (h : i = 0 ∨ i ∈ L) : chain f t i L = L := by
  cases t with
  | zero => rfl
  | succ t => simp [chain, h]
theorem chain_go (f : Nat → Nat) (t i : Nat) (L : List Nat) (h0 : i ≠ 0) (h : i ∉ L) : chain f (t + 1) i L = chain f t (f i) (L ++ [i]) := by
  simp [chain, h0, h]
/-- So many different places aren't more than there are. -/
theorem few_places : ∀ {n : Nat} {L : List Nat}, L.Nodup → (∀ x ∈ L, 1 ≤ x ∧ x ≤ n) → L.length ≤ n
  | 0, [], _, _ => Nat.le_refl _
  | 0, x :: L, _, hb => by have := hb x (by simp); omega
  | n + 1, L, hn, hb => by
    have ih := few_places (n := n) (hn.erase (n + 1)) (fun x hx => by
      rw [hn.mem_erase_iff] at hx
      have := hb x hx.2
      have := hx.1
      omega)
    rw [List.length_erase] at ih
    split at ih <;> omega
def placesV (L : List Nat) : List Value := L.map fun i : Nat => Value.int .i64 (i : Int)
structure Belows (W w : World) (sb n : Nat) (f : Nat → Nat) (i0 : Nat) (v : Value) (i : Nat) (L : List Nat) : Prop where
  turned : Turned [] W w
  set : ∃ g, Seen g L ∧ w.heap[sb]? = some (setObj fun k => (g k : Int))
  new : W.heap.size ≤ sb
  row : w.ownsRow W.heap.size 3 1 v L.length (placesV L)
  off : v.ownBlock ≠ some sb
  nodup : L.Nodup
  small : ∀ x ∈ L, 1 ≤ x ∧ x ≤ n
  le : i ≤ n
  rest : chain f (n + 1) i0 [] = chain f (n + 1 - L.length) i L
theorem Turned.grew {w w' : World} {v : Value} (hg : w.grownBy w' v.ownBlock) : Turned v.ownBlock.toList w w' :=
  ⟨hg.os, hg.tape, hg.output, hg.size, fun k hk hn => hg.block k hk (fun e => hn (by rw [← e]; simp))⟩
/-- The set has turned. -/
theorem Belows.added {W w w2 : World} {sb n : Nat} {f : Nat → Nat} {i0 : Nat} {v : Value} {i : Nat} {L : List Nat} (h : Belows W w sb n f i0 v i L) (ht : Turned [sb] w w2) : Turned [] W w2 ∧ w2.ownsRow W.heap.size 3 1 v L.length (placesV L) :=
  ⟨h.turned.inner ht (fun x hx => .inr (by simp at hx; rw [hx]; exact h.new)),
   h.row.kept (row := some sb) ⟨ht.os, ht.tape, ht.output, ht.size, fun k hk hn => ht.block k hk (by simp; exact fun he => hn (by rw [he]))⟩ (.inr h.off)⟩
theorem Belows.next {W w w2 w3 : World} {sb n : Nat} {f : Nat → Nat} {i0 : Nat} {v v' : Value} {i : Nat} {L : List Nat} (h : Belows W w sb n f i0 v i L) (h0 : i ≠ 0) (hi : i ∉ L) (hf : f i ≤ n) (ht : Turned [sb] w w2) {g : Nat → Nat} (hg : Seen g (L ++ [i])) (hs : w2.heap[sb]? = some (setObj fun k => (g k : Int)))
    {o : Obj} (hG : Grew (w2.alloc o) w3 v v') (hr : w3.ownsRow W.heap.size 3 1 v' (L.length + 1) (placesV L ++ [.int .i64 i])) : Belows W w3 sb n f i0 v' (f i) (L ++ [i]) := by
  obtain ⟨hT2, hR2⟩ := h.added ht
  obtain ⟨hGb, hGo⟩ := hG
  have hsl := lt_of_heap hs
  have hR3 : (w2.alloc o).ownsRow W.heap.size 3 1 v L.length (placesV L) := hR2.alloc _
  refine ⟨(hT2.alloc o).inner (Turned.grew hGb) (fun x hx => .inr ?_), ⟨g, hg, ?_⟩, h.new, by rw [List.length_append]; simpa [placesV] using hr, ?_, ?_, ?_, hf, ?_⟩
  · have : v.ownBlock = some x := by simpa using hx
    exact (hR3.lt _ this).1
  · rw [hGb.block sb (by simp; omega) (fun e => h.off e.symm)]
    exact blk_old hs o
  · rcases hGo with e | ⟨g', e, hge⟩
    · rw [e]; exact h.off
    · rw [e]; intro x; cases x; simp at hge; omega
  · exact List.nodup_append.2 ⟨h.nodup, by simp, fun a ha b hb => by simp at hb; subst hb; exact fun e => hi (e ▸ ha)⟩
  · intro x hx
    rcases List.mem_append.1 hx with hx | hx
    · exact h.small x hx
    · simp at hx; subst hx; exact ⟨by omega, h.le⟩
  · have hl := few_places h.nodup h.small
    have hlt : L.length < n := by
      rcases Nat.lt_or_ge L.length n with x | x
      · exact x
      · exfalso
        have := few_places (n := n) (L := L ++ [i]) (List.nodup_append.2 ⟨h.nodup, by simp, fun a ha b hb => by simp at hb; subst hb; exact fun e => hi (e ▸ ha)⟩) (fun x hx => by
          rcases List.mem_append.1 hx with hx | hx
          · exact h.small x hx
          · simp at hx; subst hx; exact ⟨by omega, h.le⟩)
        simp at this
        omega
    rw [h.rest, show n + 1 - L.length = (n + 1 - (L ++ [i]).length) + 1 by simp; omega, chain_go f _ i L h0 hi]
theorem infoInt : (Tryz.prog.info? 3).map (fun i => (i.zero, i.size, i.bytes)) = some (some (.int .i64 0), 1, 8) := by kernel_rfl
theorem undInts : Tryz.prog.underlying 29 = some (.slice 3) := by kernel_rfl
def lenOf : Value → Nat
  | .slice _ n _ => n
  | _ => 0
theorem len_of_owns {w : World} {B : Nat} {e : TypeId} {v : Value} {n : Nat} {xs : List Value} (h : w.ownsRow B e 1 v n xs) : lenOf v = n := by
  rcases h.2 with ⟨rfl, rfl⟩ | ⟨g, cap, cur, rfl, -⟩ <;> rfl
set_option maxRecDepth 100000 in
set_option maxHeartbeats 800000 in
theorem cBelow {w : World} {b nb n : Nat} {h : Int} {f : Nat → Nat} (H : PileAt w b nb n h fun k => (f k : Int)) (hn : n ≤ 4096) (hf : ∀ k, k ≤ n → f k ≤ n) {i0 : Nat} (hi0 : i0 ≤ n) :
    Calls Tryz.prog 128 #[.pointer (some ⟨b, 0, none⟩), .pointer none, .int .i64 i0] w fun e w' => ∃ v, e = .returned v ∧ Turned [] w w' ∧ w'.ownsRow w.heap.size 3 1 v (chain f (n + 1) i0 []).length (placesV (chain f (n + 1) i0 [])) := by
  have hb := H.head
  have hnx := H.next
  go_enter Tryz.func128, Tryz.ntmps128
  refine wp_seq_k fun K hK => ?_
  have HK : Hid _ := hK
  clear hK
  go_wp2
  refine HK.out _ _ ?_
  clear HK K
  refine wp_seq ?_
  refine wp_region ?_
  refine ops_run rfl rfl (x_assign rfl) ?_
  refine ops_nil ?_
  show Code.wp _ _ _ _ _
  refine wp_seq ?_
  refine wp_region ?_
  refine ops_run rfl rfl (x_alloc rfl (run_allocSet w)) ?_
  refine ops_nil ?_
  show Code.wp _ _ _ ⟨#[.pointer (some ⟨b, 0, none⟩), .pointer none, .int .i64 i0, undef, undef, undef, .slice none 0 0, .slice none 0 0, .pointer (some ⟨w.heap.size, 0, none⟩), undef, undef, undef, undef, undef, undef, undef, undef, undef, undef, undef, undef, undef, undef, undef, undef, undef, undef, undef, undef], []⟩ _
  have H0 : Hid (Belows w (w.alloc (setObj fun _ => 0)) w.heap.size n f i0 (.slice none 0 0) i0 []) :=
    ⟨(Turned.refl _ _).alloc _, ⟨fun _ => 0, seen_none, blk_new w _⟩, Nat.le_refl _, World.ownsRow_nil _ _ _ _, by simp [Value.ownBlock], by simp, by simp, hi0, by simp⟩
  generalize w.alloc (setObj fun _ => 0) = w1 at *
  obtain ⟨sb, hsb⟩ : ∃ sb, sb = w.heap.size := ⟨_, rfl⟩
  rw [← hsb]
  rw [← hsb] at H0
  have HSB : Hid (sb = w.heap.size) := hsb
  clear hsb
  go_wp2
  go_loopw [2, 7] (fun i v wx => ∃ (k : Nat) (L : List Nat), i = .int .i64 k ∧ lenOf v = L.length ∧ Hid (Belows w wx sb n f i0 v k L)) (fun _ v _ => n + 1 - lenOf v)
  case atStart => exact ⟨i0, [], rfl, rfl, H0⟩
  case round =>
    obtain ⟨k, L, rfl, hl, HT⟩ := hrel
    clear H0
    have hll := few_places HT.out.nodup HT.out.small
    by_cases h0 : k = 0
    · subst h0
      have hrest := HT.out.rest
      rw [chain_stop _ _ _ _ (.inl rfl)] at hrest
      go_wp2
      go_ret
      rw [hrest]
      exact ⟨_, rfl, HT.out.turned, HSB.out ▸ HT.out.row⟩
    · have hz : ((k : Int) == 0) = false := by simp; omega
      obtain ⟨g, hS, hset⟩ := HT.out.set
      have HA0 := cAddSeen hset hS h0 (Nat.le_trans HT.out.le hn)
      clear hset hS
      by_cases hin : k ∈ L
      · rw [show (!decide (k ∈ L)) = false by simp [hin]] at HA0
        have hrest := HT.out.rest
        rw [chain_stop _ _ _ _ (.inr hin)] at hrest
        go_wp2_with (go_at_call 138; refine HA0.mono ?_; rintro e w2 ⟨rfl, hT2, -⟩)
        go_ret
        rw [hrest]
        exact ⟨_, rfl, (HT.out.added hT2).1, HSB.out ▸ (HT.out.added hT2).2⟩
      · rw [show (!decide (k ∈ L)) = true by simp [hin]] at HA0
        have hlt : (k : Int) < (n : Int) + 1 := by have := HT.out.le; omega
        go_wp2_with (first
          | (go_at_call 138; refine HA0.mono ?_; rintro e w2 ⟨rfl, hT2, g2, hS2, hset0⟩; have hset2 : Hid _ := hset0; clear hset0; have hR2 := (HT.out.added hT2).2)
          | (at_builtin; refine wpList_push rfl _ _ 29 rfl w.heap.size 3 (.int .i64 0) 8 undInts infoInt rfl u7 L.length (placesV L) rfl (hR2.alloc _) ⟨w2.heap.size, 0, none⟩ 1 (.int .i64 k) rfl (by go_simp) rfl (by unfold maxLen; omega) (by omega) (by have := (HT.out.added hT2).1.size; simp; omega) ?_; intro v' w3 hr3 hG3; have hB3 := HT.out.next h0 hin (hf k HT.out.le) hT2 hS2 hset2.out hG3 hr3; have hb3 := hB3.turned.heap hb (by simp); have hn3 := hB3.turned.heap hnx (by simp); have c1 := cell_at hb3 1; simp at c1; have cn := next_cell hn3 HT.out.le; have hv3 := len_of_owns hr3)
          | (go_at_call 61; refine (cStep _).mono ?_; rintro e w' ⟨rfl, hw⟩; obtain rfl := hw.symm)
          | (go_at_call 67; refine (cALoad cn).mono ?_; rintro e w' ⟨rfl, hw⟩; obtain rfl := hw.symm))
        exact ⟨⟨f k, L ++ [k], rfl, by simp [hv3], hB3⟩, by simp [hv3, hl]; omega⟩
theorem cPlaces {w : World} {b nb n : Nat} {h : Int} {f : Nat → Nat} (H : PileAt w b nb n h fun k => (f k : Int)) (hn : n ≤ 4096) (hf : ∀ k, k ≤ n → f k ≤ n) {i0 : Nat} (hi : idxV h = i0) (hi0 : i0 ≤ n) :
    Calls Tryz.prog 91 #[.pointer (some ⟨b, 0, none⟩)] w fun e w' => ∃ v, e = .returned v ∧ Turned [] w w' ∧ w'.ownsRow w.heap.size 3 1 v (chain f (n + 1) i0 []).length (placesV (chain f (n + 1) i0 [])) := by
  have HI := cIndex h
  rw [hi] at HI
  have hb := H.head
  have HB := cBelow H hn hf hi0
  clear H
  go_enter Tryz.func91, Tryz.ntmps91
  go_wp2_with (first
    | (go_at_call 108; refine (cHead hb).mono ?_; rintro e w' ⟨rfl, hw⟩; obtain rfl := hw.symm)
    | (go_at_call 109; refine (HI _).mono ?_; rintro e w' ⟨rfl, hw⟩; obtain rfl := hw.symm)
    | (go_at_call 128; refine HB.mono ?_; rintro e w' ⟨v, rfl, hT, hR⟩))
  go_ret
  exact ⟨_, rfl, hT, hR⟩
end Go.Proofs.YtjbhnpofdafmbaaGreatDoor
/- sync/atomic's Pointer, alone. -/
namespace Go.Proofs.YtjbhnpofdafmbaaGreatDoor
open Go.RowKit
section
variable {P : Program} {f : FuncId} {fn : Func} {a : Addr} {w : World} {q r : Option Addr}
theorem run_call_loadP (hf : P.funcs[f]? = some fn) (hname : (fn.name == "runtime.NumGoroutine") = false) (hb : fn.body.isNone = true) (hn : Extern.findNext fn = none)
    (he : Extern.find fn = some (Extern.Atomic.loadT .ptr)) (hc : w.cell? a = some (.pointer q)) :
    (callFunc f #[.pointer (some a)]).run P w = .ok (.value (.pointer q)) w := by
  rw [run_callFunc_extern hf hname hb hn he]
  change (Sem.run P (do Extern.Atomic.read .ptr (← asAddr (.pointer (some a)))) w).andThen _ = _
  simp [Extern.Atomic.read, asAddr, hc, Result.andThen]
theorem run_call_storeP (hf : P.funcs[f]? = some fn) (hname : (fn.name == "runtime.NumGoroutine") = false) (hb : fn.body.isNone = true) (hn : Extern.findNext fn = none)
    (he : Extern.find fn = some Extern.Atomic.storeT) {u : Value} (hc : w.cell? a = some u) (hz : w.frozen? a = false) :
    (callFunc f #[.pointer (some a), .pointer q]).run P w = .ok (.value (.tuple #[])) (w.setCell a (.pointer q)) := by
  rw [run_callFunc_extern hf hname hb hn he]
  change (Sem.run P (do
    store (← asAddr (.pointer (some a))) (.pointer q) .atomic
    pure Extern.Atomic.none_) w).andThen _ = _
  simp [asAddr, hc, hz, run_store P w a (.pointer q) .atomic rfl, Result.andThen, Extern.Atomic.none_]
theorem run_call_casP (hf : P.funcs[f]? = some fn) (hname : (fn.name == "runtime.NumGoroutine") = false) (hb : fn.body.isNone = true) (hn : Extern.findNext fn = none)
    (he : Extern.find fn = some (Extern.Atomic.casT .ptr)) {c : Addr} (hc : w.cell? a = some (.pointer (some c))) (hz : w.frozen? a = false) :
    (callFunc f #[.pointer (some a), .pointer (some c), .pointer r]).run P w = .ok (.value (.bool true)) (w.setCell a (.pointer r)) := by
  rw [run_callFunc_extern hf hname hb hn he]
  change (Sem.run P (do
    let a' ← asAddr (.pointer (some a))
    if ← Extern.Atomic.touchesFrozen a' then unsupported (.unsafePointer "a write to bytes that a string shares")
    let eq ← match Extern.Atomic.T.ptr, ← Extern.Atomic.read .ptr a', Value.pointer (some c) with
      | _, .int _ x, .int _ y => pure (x == y)
      | .ptr, .pointer x, .pointer y => samePointer x y
      | .int _, .pointer (some _), .int _ 0 | .int _, .int _ 0, .pointer (some _) => pure false
      | .int _, .pointer (some _), _ | .int _, _, .pointer (some _) => unsupported .addressObserved
      | _, _, _ => stuck "atomic.CompareAndSwap: old is no T"
    if eq then store a' (.pointer r) .atomic
    pure (Value.bool eq)) w).andThen _ = _
  simp [Extern.Atomic.touchesFrozen, Extern.Atomic.read, asAddr, viewAt, samePointer, sameAddr, World.shape?_isSome_of_cell? hc, hc, hz, run_store P w a (.pointer r) .atomic rfl, Result.andThen]
theorem run_convert_fromU {src dst u : TypeId} (hs : P.underlying src = some .unsafePointer) (hd : P.underlying dst = some (.pointer u)) {cs : Array Value} {b : Nat} (hb : w.heap[b]? = some (.cells cs u (0, 0)))
    (hi : (P.info? u).isSome = true) (hl : liesAt P P.depth u (cs.size / P.cellsOf u) 0 u 1 = true) : (convert src dst (.pointer (some ⟨b, 0, none⟩))).run P w = .ok (.pointer (some ⟨b, 0, none⟩)) w := by
  have hsh : w.shape? b = some (u, cs.size) := by simp [World.shape?, hb]
  obtain ⟨i, hi⟩ := Option.isSome_iff_exists.1 hi
  simp [convert, Conv.unsafePointer, Conv.seenAt, viewAt, variablesAt, sizeOf, typeInfo, hi, run_underlying hs, run_underlying hd, hsh, hl, Result.andThen]
end
abbrev lifeCells (g a b c d m l : Value) : Array Value := #[g, a, b, c, d, m, l]
theorem lies7 : liesAt Tryz.prog Tryz.prog.depth 107 (7 / Tryz.prog.cellsOf 107) 0 107 1 = true := by kernel_rfl
theorem cv_from {cs : Array Value} {b : Nat} {w : World} (hb : w.heap[b]? = some (.cells cs 107 (0, 0))) (hs : cs.size = 7) : (convert 109 105 (.pointer (some ⟨b, 0, none⟩))).run Tryz.prog w = .ok (.pointer (some ⟨b, 0, none⟩)) w :=
  run_convert_fromU (by kernel_rfl) (by kernel_rfl) hb (by kernel_rfl) (by rw [hs]; exact lies7)
theorem cv_to {cs : Array Value} {b : Nat} {w : World} (hb : w.heap[b]? = some (.cells cs 107 (0, 0))) (hs : cs.size = 7) : (convert 105 109 (.pointer (some ⟨b, 0, none⟩))).run Tryz.prog w = .ok (.pointer (some ⟨b, 0, none⟩)) w := by
  have hsh : w.shape? b = some (107, cs.size) := by simp [World.shape?, hb]
  obtain ⟨i, hi, hz0⟩ := Option.map_eq_some_iff.1 (show (Tryz.prog.info? 107).map (fun i => decide (i.size = 0)) = some false by kernel_rfl)
  have hz : i.size ≠ 0 := by simpa using hz0
  have hne : cs ≠ #[] := by intro e; rw [e] at hs; simp at hs
  simp [convert, Conv.unsafePointer, Conv.seenAt, viewAt, cellsIn, sizeOf, typeInfo, run_underlying Tryz.underlying105, run_underlying Tryz.underlying109, hi, hz, hsh, hne, Result.andThen]
set_option maxRecDepth 100000 in
theorem cPLoad {a : Addr} {b : Nat} {cs : Array Value} {w : World} (hc : w.cell? a = some (.pointer (some ⟨b, 0, none⟩))) (hb : w.heap[b]? = some (.cells cs 107 (0, 0))) (hs : cs.size = 7) : Calls Tryz.prog 58 #[.pointer (some a)] w fun e w' => e = .returned (.pointer (some ⟨b, 0, none⟩)) ∧ w' = w := by
  have hl := run_call_loadP (P := Tryz.prog) Tryz.func111 (by kernel_rfl) (by kernel_rfl) (by kernel_rfl) (by kernel_rfl) hc
  have hv := cv_from hb hs
  obtain ⟨B, o, sp⟩ := a
  go_enter Tryz.func58, Tryz.ntmps58
  go_wp2
  go_ret
  exact ⟨rfl, rfl⟩
set_option maxRecDepth 100000 in
theorem cPStore {a : Addr} {u : Value} {b : Nat} {cs : Array Value} {w : World} (hc : w.cell? a = some u) (hz : w.frozen? a = false) (hb : w.heap[b]? = some (.cells cs 107 (0, 0))) (hs : cs.size = 7) : Calls Tryz.prog 54 #[.pointer (some a), .pointer (some ⟨b, 0, none⟩)] w fun e w' => e = .returned (.tuple #[]) ∧ w' = w.setCell a (.pointer (some ⟨b, 0, none⟩)) := by
  have hl := run_call_storeP (P := Tryz.prog) Tryz.func107 (by kernel_rfl) (by kernel_rfl) (by kernel_rfl) (by kernel_rfl) (q := some ⟨b, 0, none⟩) hc hz
  have hv := cv_to hb hs
  obtain ⟨B, o, sp⟩ := a
  go_enter Tryz.func54, Tryz.ntmps54
  go_wp2
  go_end0
  exact ⟨rfl, rfl⟩
set_option maxRecDepth 100000 in
theorem cPCas {a : Addr} {b c : Nat} {bs cs : Array Value} {w : World} (hc : w.cell? a = some (.pointer (some ⟨b, 0, none⟩))) (hz : w.frozen? a = false) (hb : w.heap[b]? = some (.cells bs 107 (0, 0))) (hbs : bs.size = 7) (hd : w.heap[c]? = some (.cells cs 107 (0, 0))) (hcs : cs.size = 7) : Calls Tryz.prog 59 #[.pointer (some a), .pointer (some ⟨b, 0, none⟩), .pointer (some ⟨c, 0, none⟩)] w fun e w' => e = .returned (.bool true) ∧ w' = w.setCell a (.pointer (some ⟨c, 0, none⟩)) := by
  have hl := run_call_casP (P := Tryz.prog) Tryz.func112 (by kernel_rfl) (by kernel_rfl) (by kernel_rfl) (by kernel_rfl) (r := some ⟨c, 0, none⟩) hc hz
  have hv := cv_to hb hbs
  have hv2 := cv_to hd hcs
  obtain ⟨B, o, sp⟩ := a
  go_enter Tryz.func59, Tryz.ntmps59
  go_wp2
  go_ret
  exact ⟨rfl, rfl⟩
end Go.Proofs.YtjbhnpofdafmbaaGreatDoor
/- A region in whatever order that only reads, of which some operations aren't wanted. -/
namespace Go.Proofs.YtjbhnpofdafmbaaGreatDoor
open Go.RowKit
section
variable {P : Program} {ops : Array Oper} {Q : Exit → Act → World → Prop}
structure IPart (D : List (Option Nat)) (val : Nat → Value) (a0 : Act) (w0 : World) (l : Array Bool) (a : Act) (w : World) : Prop where
  size : l.size = D.length
  tsize : a.tmps.size = a0.tmps.size
  defers : a.defers = a0.defers
  off : ∀ s, some s ∉ D → a.tmps[s]? = a0.tmps[s]?
  val : ∀ i d, D.getD i none = some d → on l i = true → a.eval (.tmp d) = val i
  w : w = w0
theorem wp_region_part {id : Nat} {a0 : Act} {w : World} (hm : P.follows .mixedOrders = true) (D : List (Option Nat)) (val : Nat → Value) (hok : regOk ops D a0.tmps.size = true)
    (hg : ∀ (i g : Nat) (b : Bool), (ops[i]?).bind (fun o : Oper => o.guard) = some (g, b) → ∃ b', val g = .bool b' ∧ (b' ≠ b → val i = undef))
    (hstep : ∀ i, i < D.length → (∀ (g : Nat) (b : Bool), (ops[i]?).bind (fun o : Oper => o.guard) = some (g, b) → val g = .bool b) → Yields P ops D val a0 w.drew w.drew Q i)
    (hend : ∀ a', a'.tmps.size = a0.tmps.size → a'.defers = a0.defers → (∀ s, some s ∉ D → a'.tmps[s]? = a0.tmps[s]?) → (∀ i d, D.getD i none = some d → a'.eval (.tmp d) = val i) → Q .normal a' w.drew) :
    (Code.region id ops true).wp P Q a0 w := by
  have hn : ops.size = D.length := by
    unfold regOk at hok
    simp only [Bool.and_eq_true, beq_iff_eq] at hok
    exact hok.1
  have mem : ∀ s i, D.getD i none = some s → some s ∈ D := fun s i e => by
    have hi : i < D.length := by
      apply Classical.byContradiction
      intro h
      rw [List.getD_eq_getElem?_getD, List.getElem?_eq_none (by omega)] at e
      cases e
    rw [List.getD_eq_getElem?_getD, List.getElem?_eq_getElem hi] at e
    have := List.getElem_mem hi
    rw [show D[i] = some s from e] at this
    exact this
  have lt : ∀ i d, D.getD i none = some d → i < D.length := fun i d e => by
    apply Classical.byContradiction
    intro h
    rw [List.getD_eq_getElem?_getD, List.getElem?_eq_none (by omega)] at e
    cases e
  have hoff : ∀ i, on (Array.replicate ops.size false) i = false := fun i => by
    simp only [on, Array.getD_eq_getD_getElem?, Array.getElem?_replicate]
    split <;> rfl
  refine wp_region_inv hm (fun i o ho => (reg_at hok ho).2.2.1) (IPart D val a0 w.drew) (fun l a w h => by rw [hn]; exact h.size) ?_ ?_ ?_
  · exact ⟨by simp [hn], rfl, rfl, fun _ _ => rfl, fun i d _ hh => (by rw [hoff] at hh; cases hh), rfl⟩
  · intro l a w' h i hi
    obtain ⟨hu, o, ho, hall⟩ := mem_ready.1 hi
    obtain ⟨r1, r2, r3, r4, r5, r6⟩ := reg_at hok ho
    have hset : ∀ j, on (l.setIfInBounds i true) j = if i = j then true else on l j := fun j => on_set i j (by rw [h.size]; exact r1)
    have hdep : ∀ j d, D.getD j none = some d → waitsB ops i j = true → a.eval (.tmp d) = val j := fun j d hjd hh => h.val j d hjd (dep_of hi (waits_map hh))
    have hw' := h.w
    subst hw'
    have keeps : IPart D val a0 w.drew (l.setIfInBounds i true) (a.put (D.getD i none) (val i)) w.drew := by
      have hputs : (a.put (D.getD i none) (val i)).tmps.size = a0.tmps.size := by
        cases hD : D.getD i none <;> simp [Act.put, h.tsize]
      have hputd : (a.put (D.getD i none) (val i)).defers = a0.defers := by
        cases hD : D.getD i none <;> simp [Act.put, h.defers]
      refine ⟨by simp [h.size], hputs, hputd, fun s hs => ?_, fun j d hjd hh => ?_, rfl⟩
      · cases hD : D.getD i none with
        | none => exact h.off s hs
        | some d =>
          have : d ≠ s := fun e => hs (mem s i (by rw [hD, e]))
          simp only [Act.put, Array.getElem?_setIfInBounds, this, if_false]
          exact h.off s hs
      · rw [hset] at hh
        cases hD : D.getD i none with
        | none =>
          have hne : i ≠ j := fun e => by subst e; rw [hD] at hjd; cases hjd
          rw [if_neg hne] at hh
          exact h.val j d hjd hh
        | some d' =>
          rw [ev_put _ _ _ (by rw [h.tsize]; exact r4 d' hD)]
          by_cases e : i = j
          · subst e
            rw [hD] at hjd
            cases hjd
            simp
          · rw [if_neg e] at hh
            rw [if_neg (fun e2 => e (r5 j d (lt j d hjd) (by rw [hD, e2]) hjd))]
            exact h.val j d hjd hh
    have hyield : ∀ (g : Nat) (b b' : Bool), o.guard = some (g, b) → val g = .bool b' → yielded ops a.tmps g = some b' := fun g b b' hgd h2 => by
      obtain ⟨h1, h3, h4⟩ := r6 g b hgd
      obtain ⟨d, hgD⟩ := Option.isSome_iff_exists.1 h4
      have hv := hdep g d hgD h3
      rw [h2] at hv
      have hgo : ∃ og, ops[g]? = some og := ⟨ops[g]'(by omega), Array.getElem?_eq_getElem (by omega)⟩
      obtain ⟨og, hog⟩ := hgo
      unfold yielded
      rw [hog]
      simp only [Option.bind_some, (reg_at hok hog).2.1, hgD]
      have hlt : d < a.tmps.size := by rw [h.tsize]; exact (reg_at hok hog).2.2.2.1 d hgD
      simp only [Act.eval, Array.getD, hlt, dite_true] at hv
      rw [Array.getElem?_eq_getElem hlt]
      have : a.tmps[d] = .bool b' := hv
      rw [this]
    unfold wpOp
    simp only [ho]
    by_cases hwant : Region.wanted o (yielded ops a.tmps) = true
    · rw [if_pos hwant]
      refine .inl (hstep i r1 (fun g b hgb => ?_) o a _ ho r2 h.tsize (fun s hs => ?_) hdep keeps)
      · obtain ⟨b', h1, h2⟩ := hg i g b hgb
        rw [ho] at hgb
        have hgd : o.guard = some (g, b) := hgb
        have hy := hyield g b b' hgd h1
        simp [Region.wanted, hgd, hy] at hwant
        rw [h1, hwant]
      · simp only [Act.eval, Array.getD_eq_getD_getElem?, h.off s hs]
    · rw [if_neg hwant, r2]
      cases hgd : o.guard with
      | none => exact absurd (by simp [Region.wanted, hgd]) hwant
      | some gb =>
        obtain ⟨g, b⟩ := gb
        obtain ⟨b', h1, h2⟩ := hg i g b (by rw [ho]; exact hgd)
        have hy := hyield g b b' hgd h1
        have hne : b' ≠ b := fun e => hwant (by simp [Region.wanted, hgd, hy, e])
        rw [← h2 hne]
        exact keeps
  · intro l a w' h hall
    have hal : ∀ i, i < D.length → on l i = true := fun i hi => by
      have := hall i (by rw [hn]; exact hi)
      simp only [on, Array.getD, h.size, hi, dite_true] at this ⊢
      exact this
    have hw := h.w
    subst hw
    exact hend a h.tsize h.defers h.off fun i d hD => h.val i d hD (hal i (lt i d hD))
end
end Go.Proofs.YtjbhnpofdafmbaaGreatDoor

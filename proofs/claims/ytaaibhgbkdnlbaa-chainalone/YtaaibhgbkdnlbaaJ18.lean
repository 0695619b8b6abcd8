/- Package clock, alone: New by contract. -/
import Derived.Test.YtaaibhgbkdnlbaaJ17
import Derived.OwnWalk
import Derived.Test.YtaaibhgbkdnlbaaJ16
import Derived.Test.YtaaibhgbkdnlbaaJ07
import Derived.Test.YtaaibhgbkdnlbaaJ15
namespace Go.Proofs.Ytaaibhgbkdnlbaa
open Go.RowKit
def leasePtrs (E : Nat → Nat) (k : Nat) : List Value := (List.range k).map fun j => Value.pointer (some ⟨E j, 0, none⟩)
theorem leasePtrs_len (E : Nat → Nat) (k : Nat) : (leasePtrs E k).length = k := by simp [leasePtrs]
theorem leasePtrs_next (E : Nat → Nat) (k g : Nat) : leasePtrs (upd E k g) (k + 1) = leasePtrs E k ++ [.pointer (some ⟨g, 0, none⟩)] := by
  unfold leasePtrs
  rw [List.range_succ, List.map_append]
  congr 1
  · apply List.map_congr_left
    intro j hj
    rw [upd_other _ _ (by have := List.mem_range.1 hj; omega)]
  · simp [upd_same]
/-- What New has laid when k leases are there. -/
structure ClkNew (W w : World) (k : Nat) (E : Nat → Nat) (v : Value) : Prop where
  turned : Turned [] W w
  obj : w.heap[W.heap.size]? = some (clockObj 1 v)
  own : w.ownsRow W.heap.size 85 1 v k (leasePtrs E k)
  lease : ∀ j, j < k → w.heap[E j]? = some (leaseObj 0)
  low : ∀ j, j < k → W.heap.size < E j
  mono : ∀ i j, i < j → j < k → E i < E j
theorem own_type {w : World} {B : Nat} {e : TypeId} {z : Nat} {v : Value} {n : Nat} {xs : List Value} (h : w.ownsRow B e z v n xs) {g : Nat} (hg : v.ownBlock = some g) : ∃ cur, w.heap[g]? = some (.cells cur e (0, 0)) := by
  rcases h.2 with ⟨rfl, _⟩ | ⟨g', c, cur, rfl, _, hh, _⟩
  · cases hg
  · cases hg; exact ⟨cur, hh⟩
theorem ClkNew.step {W w w' : World} {k : Nat} {E : Nat → Nat} {v v' : Value} (H : ClkNew W w k E v)
    (hg : Grew ((w.alloc (leaseObj 0)).alloc (.cells #[.pointer (some ⟨w.heap.size, 0, none⟩)] 85 (0, 0))) w' v v')
    (ho : w'.ownsRow W.heap.size 85 1 v' (k + 1) (leasePtrs E k ++ [.pointer (some ⟨w.heap.size, 0, none⟩)])) :
    w'.heap[W.heap.size]? = some (clockObj 1 v) ∧ ClkNew W (w'.setCell ⟨W.heap.size, 1, none⟩ v') (k + 1) (upd E k w.heap.size) v' := by
  have hW := H.turned.size
  have hWlt := lt_of_heap H.obj
  have g1 : w'.heap[W.heap.size]? = some (clockObj 1 v) := by
    refine (hg.1.block _ (by simp; omega) ?_).trans (blk_old (blk_old H.obj _) _)
    intro e
    obtain ⟨cur, hc⟩ := own_type H.own e.symm
    rw [H.obj] at hc
    simp at hc
  have g2 : ∀ j, j < k → w'.heap[E j]? = some (leaseObj 0) := fun j hj => by
    have hl := lt_of_heap (H.lease j hj)
    refine (hg.1.block _ (by simp; omega) ?_).trans (blk_old (blk_old (H.lease j hj) _) _)
    intro e
    obtain ⟨cur, hc⟩ := own_type H.own e.symm
    rw [H.lease j hj] at hc
    simp at hc
  have g3 : w'.heap[w.heap.size]? = some (leaseObj 0) := by
    refine (hg.1.block _ (by simp; omega) ?_).trans (blk_old (blk_new w _) _)
    intro e
    have := (H.own.lt _ e.symm).2
    omega
  have hvW : ∀ g, v'.ownBlock = some g → g ≠ W.heap.size := fun g hv e => by
    obtain ⟨cur, hc⟩ := own_type ho hv
    rw [e, g1] at hc
    simp at hc
  refine ⟨g1, ?_, blk_set g1 1 v', ?_, fun j hj => ?_, fun j hj => ?_, fun i j hij hj => ?_⟩
  · have hsz : W.heap.size ≤ w'.heap.size := by have := hg.1.size; simp at this; omega
    have ht : Turned [] W w' := by
      refine ⟨hg.1.os.trans H.turned.os, hg.1.tape.trans H.turned.tape, hg.1.output.trans H.turned.output, hsz, fun j hj _ => ?_⟩
      refine (hg.1.block j (by simp; omega) ?_).trans ((Below.heap_alloc _ _ _ (by simp; omega)).trans ((Below.heap_alloc _ _ _ (by omega)).trans (H.turned.block j hj (by simp))))
      intro e
      have := (H.own.lt _ e.symm).1
      omega
    exact ht.set (.inr (Nat.le_refl _)) _ _
  · rw [leasePtrs_next]
    refine ho.kept (row := some W.heap.size) ⟨rfl, rfl, rfl, by simp [World.setCell], fun j _ hn => Below.heap_setCell _ _ _ _ (fun e => hn (by rw [e]))⟩ ?_
    cases hv : v'.ownBlock with
    | none => exact .inl rfl
    | some g => exact .inr fun e => hvW g hv (by simpa using e)
  · by_cases e : j = k
    · subst e; rw [upd_same]; exact (blk_other (by omega) _ _).trans g3
    · rw [upd_other _ _ e]; exact (blk_other (by have := H.low j (by omega); omega) _ _).trans (g2 j (by omega))
  · by_cases e : j = k
    · subst e; rw [upd_same]; exact hWlt
    · rw [upd_other _ _ e]; exact H.low j (by omega)
  · rw [upd_other _ _ (by omega : i ≠ k)]
    by_cases e : j = k
    · subst e; rw [upd_same]; exact lt_of_heap (H.lease i (by omega))
    · rw [upd_other _ _ e]; exact H.mono i j hij (by omega)
theorem ClkNew.done {W w : World} {n : Nat} {E : Nat → Nat} {v : Value} (H : ClkNew W w n E v) (hn : 1 ≤ n) : ∃ lb cap, ClockAt w W.heap.size lb n cap E 1 (fun _ => 0) ∧ Turned [] W w ∧ W.heap.size ≤ lb ∧ ∀ k, k < n → W.heap.size ≤ E k := by
  have hobj := H.obj
  have hown := H.own
  rcases H.own.2 with ⟨_, h0⟩ | ⟨g, c, cur, rfl, hB, hh, hnc, hcm, hcs, htk⟩
  · omega
  refine ⟨g, c, ⟨hobj, ⟨cur, hh, fun k hk => ?_⟩, H.lease, fun i j hi hj e => ?_⟩, H.turned, hB, fun k hk => by have := H.low k hk; omega⟩
  · have h1 := hown.cellAt k (by omega)
    rw [cell_at hh] at h1
    rw [h1]
    simp [leasePtrs, hk]
  · rcases Nat.lt_trichotomy i j with h | h | h
    · have := H.mono i j h hj; omega
    · exact h
    · have := H.mono j i h hi; omega
theorem cNewBad {w : World} (n : Int) (h : n < 1 ∨ 64 < n) :
    Calls Try.prog 6 #[.int .i64 n] w fun e w' => e = .returned (.tuple #[.pointer none, .int .i64 131]) ∧ w' = w := by
  rcases (by omega : n < 1 ∨ (1 ≤ n ∧ 64 < n)) with h | ⟨h1, h⟩
  · go_enter Try.func6, Try.ntmps6
    go_wp2
    go_ret2
    exact ⟨rfl, rfl⟩
  · have d1 : decide (n < 1) = false := decide_eq_false (by omega)
    go_enter Try.func6, Try.ntmps6
    go_wp2
    go_ret2
    exact ⟨rfl, rfl⟩
theorem infoLease : (Try.prog.info? 85).map (fun i => (i.zero, i.size, i.bytes)) = some (some (.pointer none), 1, 8) := by kernel_rfl
theorem undLeases : Try.prog.underlying 81 = some (.slice 85) := by kernel_rfl
theorem own_form {w : World} {B : Nat} {e : TypeId} {z : Nat} {v : Value} {n : Nat} {xs : List Value} (h : w.ownsRow B e z v n xs) : ∃ a c, v = .slice a n c := by
  rcases h.2 with ⟨rfl, h0⟩ | ⟨g, c, cs, rfl, _⟩
  · exact ⟨none, 0, by rw [h0]⟩
  · exact ⟨_, _, rfl⟩
set_option maxRecDepth 100000 in
set_option maxHeartbeats 1600000 in
theorem cNewClk (w : World) (n : Nat) (h1 : 1 ≤ n) (h2 : n ≤ 64) :
    Calls Try.prog 6 #[.int .i64 n] w fun e w' => e = .returned (.tuple #[.pointer (some ⟨w.heap.size, 0, none⟩), .int .i64 0]) ∧ ∃ lb cap E, ClockAt w' w.heap.size lb n cap E 1 (fun _ => 0) ∧ Turned [] w w' ∧ w.heap.size ≤ lb ∧ ∀ k, k < n → w.heap.size ≤ E k := by
  have d1 : decide ((n : Int) < 1) = false := decide_eq_false (by omega)
  have d2 : decide (64 < (n : Int)) = false := decide_eq_false (by omega)
  have H0 : Hid (ClkNew w (w.alloc (clockObj 1 (.slice none 0 0))) 0 (fun _ => 0) (.slice none 0 0)) :=
    ⟨(Turned.refl _ _).alloc _, blk_new w _, World.ownsRow_nil _ _ _ _, by omega, by omega, by omega⟩
  go_enter Try.func6, Try.ntmps6
  go_wp2_with (go_at_call 23; refine (cAStoreE ⟨0, by go_simp⟩ (by go_simp)).mono ?_; rintro e w' ⟨rfl, hw⟩; obtain rfl := hw.symm)
  go_loopw [18] (fun i wx => ∃ k : Nat, k ≤ n ∧ i = .int .i64 k ∧ ∃ E v, Hid (ClkNew w wx k E v)) (fun i _ => n - (intOf i).toNat)
  case atStart => exact ⟨0, Nat.zero_le _, rfl, _, _, H0⟩
  case round =>
    obtain ⟨k, hk, rfl, E, v, HT⟩ := hrel
    clear H0
    obtain ⟨va, vc, rfl⟩ := own_form HT.out.own
    have ch := cell_at HT.out.obj 1
    simp at ch
    have hWlt := lt_of_heap HT.out.obj
    by_cases hkn : k < n
    · go_wp2_with (at_builtin; refine wpList_push rfl (.tmp 24) (.tmp 26) 81 rfl w.heap.size 85 (.pointer none) 8 undLeases infoLease rfl _ k (leasePtrs E k) rfl ((HT.out.own.alloc _).alloc _) _ 1 (.pointer (some ⟨wr.heap.size, 0, none⟩)) rfl (by go_simp) rfl (by unfold maxLen; omega) (by omega) (by have := HT.out.turned.size; simp; omega) ?_; intro v' w' ho hg; obtain ⟨va2, vc2, rfl⟩ := own_form ho; obtain ⟨g1, g2⟩ := HT.out.step hg ho; have cc := cell_at g1 1; simp at cc; have zz := froz_at g1 1; have HG : Hid _ := g2; clear g2 hg ho g1)
      exact ⟨⟨k + 1, by omega, by go_num, _, _, HG⟩, by simp [intOf]; omega⟩
    · have e : k = n := by omega
      subst e
      go_wp2
      go_ret2
      exact ⟨rfl, _, _, _, (HT.out.done h1).choose_spec.choose_spec⟩
end Go.Proofs.Ytaaibhgbkdnlbaa
/- Package pool: Link, alone, by contract. -/
namespace Go.Proofs.Ytaaibhgbkdnlbaa
open Go.RowKit
section
variable {w : World} {p sb pb nb : Nat} {L : Nat → Nat} {s : PSt} {i : Nat} {g : Int}
set_option maxHeartbeats 800000 in
theorem cPLink (h : PA w p sb pb nb L s) (h1 : 1 ≤ i) (h2 : i ≤ s.n) (hn : s.n ≤ 4096) (g0 : 0 ≤ g) (g1 : g ≤ 1099511627775) (g2 : g % 2 = 1) (hg : (s.slot i).gen = g) :
    Calls Try.prog 55 #[.pointer (some ⟨p, 0, none⟩), .pointer none, .int .i64 (hnd i g)] w fun e w' => e = .returned (.tuple #[.int .i64 (s.slot i).link, .int .i64 0]) ∧ w' = w := by
  have HM := cMeet h h1 h2 hn g0 g1 g2 hg
  have c6 := cell_at (h.life i h2) 6
  simp at c6
  go_enter Try.func55, Try.ntmps55
  go_wp2_with (first
    | (go_at_call 44; refine HM.mono ?_; rintro e w' ⟨rfl, hw⟩; obtain rfl := hw.symm)
    | (go_at_call 27; refine (cALoad c6).mono ?_; rintro e w' ⟨rfl, hw⟩; obtain rfl := hw.symm))
  go_ret2
  exact ⟨rfl, rfl⟩
end
end Go.Proofs.Ytaaibhgbkdnlbaa
/- A pool with its free places: nothing of the program. -/
namespace Go.Proofs.Ytaaibhgbkdnlbaa
/-- A pool that nobody spoilt: St: the free places in their order. -/
structure PV (s : PSt) (St : List Nat) (it : Nat) : Prop where
  ok : s.Ok
  top : Linked s.f (idxV s.h).toNat St
  small : ∀ x ∈ St, 1 ≤ x ∧ x ≤ s.n
  nodup : St.Nodup
  even : ∀ x ∈ St, (s.slot x).gen % 2 = 0
  odd : ∀ i, 1 ≤ i → i ≤ s.n → i ∉ St → (s.slot i).gen % 2 = 1
  gens : ∀ i, 1 ≤ i → i ≤ s.n → 0 ≤ (s.slot i).gen ∧ (s.slot i).gen ≤ it
  fits : it ≤ 1000000000
theorem PV.new {n : Nat} (h1 : 1 ≤ n) (h2 : n ≤ 4096) : PV (PSt.new n) (List.range' 1 n) 0 := by
  have h := PL.new h1 h2 (fun _ => ⟨0, 0, 0, 0, 0, 0, 0⟩)
  exact ⟨h.ok, h.top, h.small, h.nodup, h.even, fun i a b c => absurd (by rw [List.mem_range'_1]; have : i ≤ n := b; omega) c, fun i _ _ => ⟨Int.le_refl _, Int.le_refl _⟩, by omega⟩
theorem PV.more {s : PSt} {St : List Nat} {it it' : Nat} (h : PV s St it) (hi : it ≤ it') (hf : it' ≤ 1000000000) : PV s St it' :=
  ⟨h.ok, h.top, h.small, h.nodup, h.even, h.odd, fun i h1 h2 => by have := h.gens i h1 h2; omega, hf⟩
theorem PV.empty {s : PSt} {it : Nat} (h : PV s [] it) : idxV s.h = 0 := by
  have h1 : (idxV s.h).toNat = 0 := h.top
  have h2 := idx_nat h.ok.h0
  omega
theorem PV.some {s : PSt} {i : Nat} {St : List Nat} {it : Nat} (h : PV s (i :: St) it) : idxV s.h = i ∧ i ≠ 0 ∧ 1 ≤ i ∧ i ≤ s.n ∧ 0 ≤ (s.slot i).gen ∧ (s.slot i).gen ≤ it ∧ (s.slot i).gen % 2 = 0 := by
  obtain ⟨h1, h2, -⟩ := h.top
  have h3 := idx_nat h.ok.h0
  have h5 := h.small i (by simp)
  have h6 := h.gens i h5.1 h5.2
  exact ⟨by omega, h2, h5.1, h5.2, h6.1, h6.2, h.even i (by simp)⟩
theorem PV.take {s : PSt} {i : Nat} {St : List Nat} {it : Nat} (h : PV s (i :: St) it) (hf : it + 1 ≤ 1000000000) (a b c d link : Int) : PV (s.take i a b c d link) St (it + 1) := by
  obtain ⟨-, h0, h1, hn, g0, g1, g2⟩ := h.some
  have hnd' := List.nodup_cons.1 h.nodup
  have hsl : ∀ j, (s.take i a b c d link).slot j = if j = i then ⟨(s.slot i).gen + 1, 0, link, a, b, c, d⟩ else s.slot j := fun j => rfl
  have n2 := h.ok.n2
  have hl := h.ok.low i hn
  obtain ⟨w0, w1, w2⟩ := nextV_word (h := s.h) (i := s.f i) (by omega) h.ok.h0 h.ok.h1
  refine ⟨h.ok.take hn _ _ _ _ _, ?_, fun x hx => h.small x (by simp [hx]), hnd'.2, fun x hx => ?_, fun j j1 j2 j3 => ?_, fun j j1 j2 => ?_, hf⟩
  · obtain ⟨-, -, h3⟩ := h.top
    show Linked s.f (idxV (nextV s.h (s.f i))).toNat St
    rw [w2]
    exact h3
  · have : x ≠ i := fun e => hnd'.1 (e ▸ hx)
    rw [hsl, if_neg this]
    exact h.even x (by simp [hx])
  · rw [hsl]
    by_cases e : j = i
    · rw [if_pos e]; simp only; omega
    · rw [if_neg e]; exact h.odd j j1 j2 (by simp [e, j3])
  · rw [hsl]
    by_cases e : j = i
    · rw [if_pos e]; simp only; omega
    · rw [if_neg e]; have := h.gens j j1 j2; omega
theorem PV.give {s : PSt} {i : Nat} {St : List Nat} {it : Nat} (h : PV s St it) (hf : it + 1 ≤ 1000000000) (h1 : 1 ≤ i) (hn : i ≤ s.n) (hi : i ∉ St) (P : Int) : PV (s.give i P) (i :: St) (it + 1) := by
  have hsl : ∀ j, (s.give i P).slot j = if j = i then ⟨(s.slot i).gen + 1, P, P, P, P, P, P⟩ else s.slot j := fun j => rfl
  have n2 := h.ok.n2
  obtain ⟨w0, w1, w2⟩ := nextV_word (h := s.h) (i := i) (by omega) h.ok.h0 h.ok.h1
  have g1 := h.gens i h1 hn
  have g2 := h.odd i h1 hn hi
  refine ⟨h.ok.give hn _, ?_, fun x hx => ?_, List.nodup_cons.2 ⟨hi, h.nodup⟩, fun x hx => ?_, fun j j1 j2 j3 => ?_, fun j j1 j2 => ?_, hf⟩
  · show Linked (upd s.f i (idxV s.h).toNat) (idxV (nextV s.h i)).toNat (i :: St)
    rw [w2]
    refine ⟨by omega, by omega, ?_⟩
    rw [upd_same]
    exact h.top.upd hi
  · rcases List.mem_cons.1 hx with rfl | hx
    · exact ⟨h1, hn⟩
    · exact h.small x hx
  · rw [hsl]
    by_cases e : x = i
    · rw [if_pos e]; simp only; omega
    · rw [if_neg e]
      rcases List.mem_cons.1 hx with rfl | hx
      · exact absurd rfl e
      · exact h.even x hx
  · have e : j ≠ i := fun e => j3 (by simp [e])
    rw [hsl, if_neg e]
    exact h.odd j j1 j2 fun z => j3 (by simp [z])
  · rw [hsl]
    by_cases e : j = i
    · rw [if_pos e]; simp only; omega
    · rw [if_neg e]; have := h.gens j j1 j2; omega

theorem hnd_inj {i j : Nat} {g k : Int} (g0 : 0 ≤ g) (g1 : g ≤ 1000000000) (k0 : 0 ≤ k) (k1 : k ≤ 1000000000) (h : hnd i g = hnd j k) : i = j ∧ g = k := by
  unfold hnd at h; omega
end Go.Proofs.Ytaaibhgbkdnlbaa
/- sync/atomic's Pointer to a chain's set, alone. -/
namespace Go.Proofs.Ytaaibhgbkdnlbaa
open Go.RowKit
theorem lies2 : liesAt Try.prog Try.prog.depth 133 (2 / Try.prog.cellsOf 133) 0 133 1 = true := by kernel_rfl
theorem cvs_from {cs : Array Value} {b : Nat} {w : World} (hb : w.heap[b]? = some (.cells cs 133 (0, 0))) (hs : cs.size = 2) : (convert 77 130 (.pointer (some ⟨b, 0, none⟩))).run Try.prog w = .ok (.pointer (some ⟨b, 0, none⟩)) w :=
  run_convert_fromU (by kernel_rfl) (by kernel_rfl) hb (by kernel_rfl) (by rw [hs]; exact lies2)
theorem cvs_to {cs : Array Value} {b : Nat} {w : World} (hb : w.heap[b]? = some (.cells cs 133 (0, 0))) (hs : cs.size = 2) : (convert 130 77 (.pointer (some ⟨b, 0, none⟩))).run Try.prog w = .ok (.pointer (some ⟨b, 0, none⟩)) w := by
  have hsh : w.shape? b = some (133, cs.size) := by simp [World.shape?, hb]
  obtain ⟨i, hi, hz0⟩ := Option.map_eq_some_iff.1 (show (Try.prog.info? 133).map (fun i => decide (i.size = 0)) = some false by kernel_rfl)
  have hz : i.size ≠ 0 := by simpa using hz0
  have hne : cs ≠ #[] := by intro e; rw [e] at hs; simp at hs
  simp [convert, Conv.unsafePointer, Conv.seenAt, viewAt, cellsIn, sizeOf, typeInfo, run_underlying Try.underlying130, run_underlying Try.underlying77, hi, hz, hsh, hne, Result.andThen]
set_option maxRecDepth 100000 in
theorem cSLoad {a : Addr} {b : Nat} {cs : Array Value} {w : World} (hc : w.cell? a = some (.pointer (some ⟨b, 0, none⟩))) (hb : w.heap[b]? = some (.cells cs 133 (0, 0))) (hs : cs.size = 2) : Calls Try.prog 80 #[.pointer (some a)] w fun e w' => e = .returned (.pointer (some ⟨b, 0, none⟩)) ∧ w' = w := by
  have hl := run_call_loadP (P := Try.prog) Try.func74 (by kernel_rfl) (by kernel_rfl) (by kernel_rfl) (by kernel_rfl) hc
  have hv := cvs_from hb hs
  obtain ⟨B, o, sp⟩ := a
  go_enter Try.func80, Try.ntmps80
  go_wp2
  go_ret
  exact ⟨rfl, rfl⟩
set_option maxRecDepth 100000 in
theorem cSStore {a : Addr} {u : Value} {b : Nat} {cs : Array Value} {w : World} (hc : w.cell? a = some u) (hz : w.frozen? a = false) (hb : w.heap[b]? = some (.cells cs 133 (0, 0))) (hs : cs.size = 2) : Calls Try.prog 62 #[.pointer (some a), .pointer (some ⟨b, 0, none⟩)] w fun e w' => e = .returned (.tuple #[]) ∧ w' = w.setCell a (.pointer (some ⟨b, 0, none⟩)) := by
  have hl := run_call_storeP (P := Try.prog) Try.func48 (by kernel_rfl) (by kernel_rfl) (by kernel_rfl) (by kernel_rfl) (q := some ⟨b, 0, none⟩) hc hz
  have hv := cvs_to hb hs
  obtain ⟨B, o, sp⟩ := a
  go_enter Try.func62, Try.ntmps62
  go_wp2
  go_end0
  exact ⟨rfl, rfl⟩
theorem cvs_nil (w : World) : (convert 77 130 (.pointer none)).run Try.prog w = .ok (.pointer none) w := by kernel_rfl
theorem cvs_nil2 (w : World) : (convert 130 77 (.pointer none)).run Try.prog w = .ok (.pointer none) w := by kernel_rfl
set_option maxRecDepth 100000 in
theorem cSLoadN {a : Addr} {w : World} (hc : w.cell? a = some (.pointer none)) : Calls Try.prog 80 #[.pointer (some a)] w fun e w' => e = .returned (.pointer none) ∧ w' = w := by
  have hl := run_call_loadP (P := Try.prog) Try.func74 (by kernel_rfl) (by kernel_rfl) (by kernel_rfl) (by kernel_rfl) hc
  have hv := cvs_nil w
  obtain ⟨B, o, sp⟩ := a
  go_enter Try.func80, Try.ntmps80
  go_wp2
  go_ret
  exact ⟨rfl, rfl⟩
set_option maxRecDepth 100000 in
theorem cSStoreN {a : Addr} {u : Value} {w : World} (hc : w.cell? a = some u) (hz : w.frozen? a = false) : Calls Try.prog 62 #[.pointer (some a), .pointer none] w fun e w' => e = .returned (.tuple #[]) ∧ w' = w.setCell a (.pointer none) := by
  have hl := run_call_storeP (P := Try.prog) Try.func48 (by kernel_rfl) (by kernel_rfl) (by kernel_rfl) (by kernel_rfl) (q := none) hc hz
  have hv := cvs_nil2 w
  obtain ⟨B, o, sp⟩ := a
  go_enter Try.func62, Try.ntmps62
  go_wp2
  go_end0
  exact ⟨rfl, rfl⟩
set_option maxRecDepth 100000 in
theorem cSCasN {a : Addr} {b : Nat} {bs : Array Value} {w : World} (hc : w.cell? a = some (.pointer (some ⟨b, 0, none⟩))) (hz : w.frozen? a = false) (hb : w.heap[b]? = some (.cells bs 133 (0, 0))) (hbs : bs.size = 2) : Calls Try.prog 64 #[.pointer (some a), .pointer (some ⟨b, 0, none⟩), .pointer none] w fun e w' => e = .returned (.bool true) ∧ w' = w.setCell a (.pointer none) := by
  have hl := run_call_casP (P := Try.prog) Try.func77 (by kernel_rfl) (by kernel_rfl) (by kernel_rfl) (by kernel_rfl) (r := none) hc hz
  have hv := cvs_to hb hbs
  have hv2 := cvs_nil2 w
  obtain ⟨B, o, sp⟩ := a
  go_enter Try.func64, Try.ntmps64
  go_wp2
  go_ret
  exact ⟨rfl, rfl⟩
end Go.Proofs.Ytaaibhgbkdnlbaa

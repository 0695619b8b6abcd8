/-
  ClockAlone answers true at every input: calls done alone on a clock answer as its counting says, two clocks don't meddle; the script reads behind the call as it read before. Conditions: none.
-/
import Derived.Test.YtibpgoiiohmeiaaRows
import Derived.Test.YtibpgoiiohmeiaaClkL
import Derived.ProofKit
import Derived.SizedLaws
namespace Go.Proofs.Ytibpgoiiohmeiaa
open Go.ChangeShapes Go.WideShapes Go.ChangeAt Go.RowKit
theorem Try.own : ownKnob Try.prog.godebug = none := by kernel_rfl
theorem Try.laidOut : laidOutB Try.prog = true := by kernel_rfl
theorem Try.cellsI : Try.prog.cellsOf 3 = 1 := by kernel_rfl
set_option maxRecDepth 100000 in
set_option maxHeartbeats 1600000 in
theorem ca_long (W : World) (n : Int) (ta : Option Addr) (L tc : Nat) (hL : 400 < L) :
    Calls Try.prog 3 #[.int .i64 n, .slice ta L tc] W fun e w' => e = .returned (.bool true) ∧ Turned [] W w' := by
  have hl : (400 : Int) < (L : Int) := by omega
  go_enter Try.func3, Try.ntmps3
  go_wp2_with (go_at_call 4; refine (cKnown _).mono ?_; rintro e w1 ⟨rfl, ht1⟩)
  go_ret
  exact ⟨rfl, ht1⟩
set_option maxRecDepth 100000 in
set_option maxHeartbeats 1600000 in
theorem ca_bad (W : World) (n : Int) (ta : Option Addr) (L tc : Nat) (hL : L ≤ 400) (hn : n < 1 ∨ 64 < n) :
    Calls Try.prog 3 #[.int .i64 n, .slice ta L tc] W fun e w' => e = .returned (.bool true) ∧ Turned [] W w' := by
  have hl : ¬ (400 : Int) < (L : Int) := by omega
  rcases (by omega : n < 1 ∨ (1 ≤ n ∧ 64 < n)) with h | ⟨h1, h⟩
  · go_enter Try.func3, Try.ntmps3
    go_wp2_with (first
      | (go_at_call 4; refine (cKnown _).mono ?_; rintro e w1 ⟨rfl, ht1⟩; have HT : Hid _ := ht1; clear ht1)
      | (go_at_call 5; refine (cNewBad n hn).mono ?_; rintro e w' ⟨rfl, hw⟩; obtain rfl := hw.symm))
    go_ret
    exact ⟨rfl, HT.out⟩
  · have d1 : decide (n < 1) = false := decide_eq_false (by omega)
    go_enter Try.func3, Try.ntmps3
    go_wp2_with (first
      | (go_at_call 4; refine (cKnown _).mono ?_; rintro e w1 ⟨rfl, ht1⟩; have HT : Hid _ := ht1; clear ht1)
      | (go_at_call 5; refine (cNewBad n hn).mono ?_; rintro e w' ⟨rfl, hw⟩; obtain rfl := hw.symm))
    go_ret
    exact ⟨rfl, HT.out⟩
set_option maxRecDepth 100000 in
set_option maxHeartbeats 1600000 in
theorem ca_good (W : World) (n : Nat) (ta : Option Addr) (L tc : Nat) (z : Nat → Int) (hL : L ≤ 400) (h1 : 1 ≤ n) (h2 : n ≤ 64) (hS : ∀ j, j < L → ∃ sb so, ta = some ⟨sb, so, none⟩ ∧ W.cell? ⟨sb, so + j, none⟩ = some (.int .i64 (z j))) :
    Calls Try.prog 3 #[.int .i64 n, .slice ta L tc] W fun e w' => e = .returned (.bool true) ∧ Turned [] W w' := by
  have hl : ¬ (400 : Int) < (L : Int) := by omega
  have d1 : decide ((n : Int) < 1) = false := decide_eq_false (by omega)
  have d2 : decide (64 < (n : Int)) = false := decide_eq_false (by omega)
  have hmk := run_makeInts n (by omega)
  have HS : Hid (∀ j, j < L → ∃ sb so, ta = some ⟨sb, so, none⟩ ∧ W.cell? ⟨sb, so + j, none⟩ = some (.int .i64 (z j))) := hS
  clear hS
  go_enter Try.func3, Try.ntmps3
  go_wp2_with (first
    | (go_at_call 4; refine (cKnown _).mono ?_; rintro e w1 ⟨rfl, ht1⟩; have HT1 : Hid (Turned [] W w1) := ht1; clear ht1)
    | (go_at_call 5; refine (cNewClk w1 n h1 h2).mono ?_; rintro e w2 ⟨rfl, lb, cap, E, ha2, ht2, hlb2, hE2⟩; have HA : Hid (ClockAt w2 w1.heap.size lb n cap E 1 (fun _ => 0)) := ha2; have HT2 : Hid (Turned [] w1 w2) := ht2; have HE : Hid (∀ k, k < n → w1.heap.size ≤ E k) := hE2; clear ha2 ht2 hlb2 hE2)
    | (go_at_call 5; refine (cNewClk w2 n h1 h2).mono ?_; rintro e w3 ⟨rfl, lb2, cap2, E2, ha3, ht3, hlb3, hE3⟩; have HB : Hid (ClockAt w3 w2.heap.size lb2 n cap2 E2 1 (fun _ => 0)) := ha3; have HT3 : Hid (Turned [] w2 w3) := ht3; have HF : Hid (∀ k, k < n → w2.heap.size ≤ E2 k) := hE3; clear ha3 ht3 hlb3 hE3))
  have hs1 := HT1.out.size
  have hs2 := HT2.out.size
  have hbl := lt_of_heap HA.out.obj
  have H0 : CS W (w3.alloc (intsObj (fun _ => 0) n)) n w1.heap.size lb cap E w2.heap.size lb2 cap2 E2 w3.heap.size 1 (fun _ => 0) := by
    have hs3 := HT3.out.size
    refine ⟨?_, ⟨HB.out.still ((Turned.refl _ _).alloc _), blk_new _ _, ((HT1.out.trans HT2.out).trans HT3.out).alloc _, hs1, fun k hk => Nat.le_trans hs1 (HE.out k hk), by omega, by omega, fun j k hj hk e => ?_⟩, fun k _ => by omega⟩
    · rw [fOf_zero]; exact (HA.out.still HT3.out).still ((Turned.refl _ _).alloc _)
    · have := lt_of_heap (HA.out.lease j hj)
      have := HF.out k hk
      omega
  have HC : Hid (CS W (w3.alloc (intsObj (fun _ => 0) n)) n w1.heap.size lb cap E w2.heap.size lb2 cap2 E2 w3.heap.size 1 (fun _ => 0)) := H0
  clear H0 hs1 hs2 hbl HA HB HE HF HT1 HT2 HT3
  rename_i K0 hK0
  refine (show (Code.loop (atc Try.f3.body [1, 1, 1, 1, 1, 1, 1, 1, 1, 0, 1, 1, 1])).wp _ _ _ _ from ?_)
  refine wp_loop (CL W n w1.heap.size lb cap E w2.heap.size lb2 cap2 E2 w3.heap.size L tc ta) (fun a _ => L - (intOf (a.eval (.tmp 11))).toNat) ?_ (fun a x hx => ca_round h2 hL HS.out hx ?_)
  · exact ⟨1, 0, _, ⟨rfl, rfl, rfl, rfl, rfl, rfl, rfl, rfl, rfl⟩, HC.out, Nat.zero_le _, Int.le_refl _, by omega⟩
  · intro a' y hC
    obtain ⟨now, i, h, f, hI, -⟩ := hC.ex
    show K0 a' y
    refine hK0 _ _ ?_
    refine wp_endB (ca_end f.hs f.hd f.x0 f.x1 f.x5 f.x7 f.x9 f.x10 f.x11 hI h2 ?_)
    intro a2 hs hd x4
    exact bodyPost_ret (results_tmp rfl _ _ _) hd ⟨congrArg Ending.returned x4, hI.r.turned⟩
theorem ca_walk (W : World) (n : Int) (ta : Option Addr) (L tc : Nat) (z : Nat → Int) (hS : ∀ j, j < L → ∃ sb so, ta = some ⟨sb, so, none⟩ ∧ W.cell? ⟨sb, so + j, none⟩ = some (.int .i64 (z j))) :
    Calls Try.prog 3 #[.int .i64 n, .slice ta L tc] W fun e w' => e = .returned (.bool true) ∧ Turned [] W w' := by
  by_cases hL : 400 < L
  · exact ca_long W n ta L tc hL
  by_cases hn : n < 1 ∨ 64 < n
  · exact ca_bad W n ta L tc (by omega) hn
  obtain ⟨m, rfl⟩ : ∃ m : Nat, n = m := ⟨n.toNat, by omega⟩
  exact ca_good W m ta L tc z (by omega) (by omega) (by omega) hS
theorem Turned.toBelow {W w : World} (h : Turned [] W w) : Below W.heap.size W w := h.below (Below.refl _ _) (by simp) (Nat.le_refl _)
section
variable {H : Type} {enc : TypeId × Value → H} {W : World} {base : Nat} {v : Value} {d : DataW H} {p : List MemPlace}
theorem view_script (hok : Value.okWide Try.prog W .any base 22 v) (h : DataW.Trod enc Try.prog W 0 (fun _ => true) true 22 v d p) :
    ∃ ta L tc, ∃ z : Nat → Int, v = .slice ta L tc ∧ ∀ j, j < L → ∃ sb so, ta = some ⟨sb, so, none⟩ ∧ W.cell? ⟨sb, so + j, none⟩ = some (.int .i64 (z j)) := by
  obtain ⟨a0, len, cap, rfl⟩ := okWide_slice Try.underlying22 hok
  obtain ⟨fuel, hf⟩ := h
  rcases open_ints Try.underlying22 Try.underlying3 Try.cellsI hf with ⟨hcs, hx⟩ | ⟨a, len', cap', zs, hcs, _, hl, hm, hz, hx, hcell, hwz⟩
  · simp [Value.cells] at hcs
    obtain ⟨rfl, rfl, rfl⟩ := hcs
    exact ⟨none, 0, 0, fun _ => 0, rfl, by omega⟩
  · simp [Value.cells] at hcs
    obtain ⟨rfl, rfl, rfl⟩ := hcs
    simp only [if_true] at hz
    refine ⟨some a, len, cap, fun j => zs.getD j 0, rfl, fun j hj => ?_⟩
    obtain ⟨b, off, spot⟩ := a
    have hspot : spot = none := by simpa [Addr.add] using World.cell?_spot (hcell 0 (by omega))
    subst hspot
    refine ⟨b, off, rfl, ?_⟩
    have := hcell j (by omega)
    rwa [show (⟨b, off, none⟩ : Addr).add j = ⟨b, off + j, none⟩ by unfold Addr.add; split <;> simp_all] at this
end
set_option maxHeartbeats 1600000 in
set_option maxRecDepth 100000 in
theorem clockAlone_lifted (os : Os) (started : os.Started) (H : Type) (enc : TypeId × Value → H) :
    ReturnsInHanded {} Try.checked os 3 .any (Rows.clockAloneSpec.pre6 enc Try.prog Try.f3 Rows.clockAloneRow.domain false) (Rows.clockAloneSpec.post enc Try.prog Try.f3 false true false false) := by
  refine returnsInHanded_of_change_sized (C := Try.checked) Try.own started (by kernel_rfl) Try.func3
    (ChangeSpec.witness6 (enc := enc) (C := Try.checked) false ⟨#[], #[.int .i64 0, .slice none 0 0], []⟩ 8 (by kernel_rfl) (by kernel_rfl) (by kernel_rfl) (by kernel_rfl)) ?_
  intro W base args ds gs before hval0 hW _ _ _
  have hval : ∀ (j : Nat) t v, Try.f3.params[j]? = some t → args[j]? = some v → Value.okWide Try.prog W .any base t v := hval0
  have hW' := hW
  obtain ⟨p, q, hA0, hV, rfl, hfz, _⟩ := hW
  have hA : DataW.TrodAll enc Try.prog W 0 (fun _ => true) true Try.f3.params.toList args.toList ds p := hA0
  rw [Try.params3] at hA hval
  obtain ⟨v0, v1, d0, d1, p0, p1, rfl, rfl, rfl, h0, h1⟩ := trodAll_two hA
  obtain ⟨rfl, rfl⟩ := trodVars_none hV
  clear hA0 hval0 hA
  simp only [List.append_nil] at hW' hfz
  have hlt : ∀ x, x ∈ p1 → x.block < W.heap.size := fun x hx => hW'.lt x (by simp [hx])
  obtain ⟨x0, rfl, rfl, rfl, wx0⟩ := open_int Try.underlying3 (hval 0 3 v0 rfl rfl) h0
  obtain ⟨ta, L, tc, z, rfl, hS⟩ := view_script (hval 1 22 v1 rfl rfl) h1
  refine (ca_walk W x0 ta L tc z hS).mono fun e W' ⟨he, ht⟩ => ?_
  have hb := ht.toBelow
  subst he
  exact ⟨_, rfl, _, _, _, [], _, [], hW', trodAll_mk1 (shut_bool Try.underlying4 _), trodAll_mk2 (shut_int Try.underlying3 wx0) (Below.trod Try.laidOut (by kernel_rfl) (of_decide_eq_true (by kernel_rfl)) h1 hb hlt), rfl, hb.frame _, fun h => by cases h⟩
theorem clockAlone_holds : Rows.ClockAloneSaid :=
  OpenClaim.holds_of_wide 3 Try.f3 rfl rfl rfl rfl rfl rfl rfl ⟨rfl, rfl, rfl, rfl, rfl⟩ rfl rfl rfl rfl rfl (by kernel_rfl) Try.func3 (by kernel_rfl)
    (of_decide_eq_true (by kernel_rfl)) (by unfold Func.isWrapper; rw [if_neg (of_decide_eq_false (by kernel_rfl))]; exact ⟨rfl, rfl⟩)
    (fun os started H enc _ => clockAlone_lifted os started H enc)
end Go.Proofs.Ytibpgoiiohmeiaa

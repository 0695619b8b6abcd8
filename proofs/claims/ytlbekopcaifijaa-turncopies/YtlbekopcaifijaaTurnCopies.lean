/-
  TurnCopies answers true at every input: a copy goes on as the first one does, both as the document says, and neither touches the other one. Conditions: none.
-/
import Derived.Test.YtlbekopcaifijaaRows
import Derived.Test.YtlbekopcaifijaaOpen
import Derived.Test.YtlbekopcaifijaaCopies
namespace Go.Proofs.Ytlbekopcaifijaa
open Go.ChangeShapes Go.WideShapes Go.ChangeAt Go.RowKit Go.Deep
set_option maxHeartbeats 1600000 in
theorem wCopies (W : World) (ta : Option Addr) (tc : Nat) (ts : List Int) (ht : Vals W ta (ints ts)) (htc : ta = none → tc = 0) (htn : ts.length ≤ 140737488355328)
    (ga : Option Addr) (G gc : Nat) (A : Nat → Option Addr) (L C : Nat → Nat) (B : Nat → Nat → Bool) (hg : Grid W ga G A L C B) (hG : G ≤ 140737488355328)
    (ha : Option Addr) (M hc : Nat) (A2 : Nat → Option Addr) (L2 C2 : Nat → Nat) (B2 : Nat → Nat → Bool) (hg2 : Grid W ha M A2 L2 C2 B2) (hM : M ≤ 140737488355328) :
    Calls Try.prog 4 #[.slice ta ts.length tc, .slice ga G gc, .slice ha M hc] W fun e w' => e = .returned (.bool true) ∧ Below W.heap.size W w' := by
  cases hsm : smallV ts.length G L with
  | false =>
    go_enter Try.func4, Try.ntmps4
    go_wp2_with (first
      | (go_at_call 6; refine (cKnown W).mono ?_; rintro e w1 ⟨rfl, hW1⟩)
      | (go_at_call_of 7 (Value.slice ta ts.length tc); refine (cSmall w1 ta ts.length tc ga G gc A L C B (hg.keepB hW1) htn hG).mono ?_; rintro e w' ⟨rfl, rfl⟩))
    go_ret
    exact ⟨rfl, hW1⟩
  | true =>
    cases hsm2 : smallV 0 M L2 with
    | false =>
      go_enter Try.func4, Try.ntmps4
      go_wp2_with (first
        | (go_at_call 6; refine (cKnown W).mono ?_; rintro e w1 ⟨rfl, hW1⟩)
        | (go_at_call_of 7 (Value.slice ta ts.length tc); refine (cSmall w1 ta ts.length tc ga G gc A L C B (hg.keepB hW1) htn hG).mono ?_; rintro e w' ⟨rfl, rfl⟩)
        | (go_at_call 7; refine (cSmall _ none 0 0 ha M hc A2 L2 C2 B2 (hg2.keepB hW1) (by omega) hM).mono ?_; rintro e w' ⟨rfl, rfl⟩))
      go_ret
      exact ⟨rfl, hW1⟩
    | true => exact wCopies_in W ta tc ts ht htc htn ga G gc A L C B hg hG ha M hc A2 L2 C2 B2 hg2 hM hsm hsm2
set_option maxHeartbeats 1600000 in
set_option maxRecDepth 100000 in
theorem turnCopies_lifted (os : Os) (started : os.Started) (H : Type) (enc : TypeId × Value → H) :
    ReturnsInHanded {} Try.checked os 4 .any (Rows.turnCopiesSpec.pre6 enc Try.prog Try.f4 Rows.turnCopiesRow.domain false) (Rows.turnCopiesSpec.post enc Try.prog Try.f4 false true false false) := by
  refine returnsInHanded_of_change_sized (C := Try.checked) Try.own started (by kernel_rfl) Try.func4
    (ChangeSpec.witness6 (enc := enc) (C := Try.checked) false ⟨#[], #[.slice none 0 0, .slice none 0 0, .slice none 0 0], []⟩ 8 (by kernel_rfl) (by kernel_rfl) (by kernel_rfl) (by kernel_rfl)) ?_
  intro W base args ds gs before hval0 hW _ hsz0 _
  have hsz : (DataW.weightsEach Try.prog (Try.f4.params.toList ++ Rows.turnCopiesSpec.plain.varTypes Try.prog) (ds ++ gs)).all (· ≤ reachBytes) = true := hsz0
  clear hsz0
  have hval : ∀ (j : Nat) t v, Try.f4.params[j]? = some t → args[j]? = some v → Value.okWide Try.prog W .any base t v := hval0
  have hW' := hW
  obtain ⟨p, q, hA0, hV, rfl, hfz, _⟩ := hW
  have hA : DataW.TrodAll enc Try.prog W 0 (fun _ => true) true Try.f4.params.toList args.toList ds p := hA0
  rw [Try.params4] at hA hval hsz
  obtain ⟨v0, v1, v2, d0, d1, d2, p0, p1, p2, rfl, rfl, rfl, h0, h1, h2⟩ := trodAll_three hA
  obtain ⟨rfl, rfl⟩ := trodVars_none hV
  clear hA0 hval0 hA
  simp only [List.append_nil] at hW' hfz hsz
  have hlt : ∀ x, x ∈ p0 ∨ x ∈ p1 ∨ x ∈ p2 → x.block < W.heap.size := fun x hx => hW'.lt x (by rcases hx with hx | hx | hx <;> simp [hx])
  obtain ⟨ta, ts, tc, rfl, ht, htc, htn⟩ := view_ints (hval 0 22 v0 rfl rfl) h0 hsz (j := 0) rfl rfl
  obtain ⟨ga, G, gc, A, L, C, B, rfl, hg, hG⟩ := view_grid (hval 1 23 v1 rfl rfl) h1 hsz (j := 1) rfl rfl
  obtain ⟨ha, M, hc, A2, L2, C2, B2, rfl, hg2, hM⟩ := view_grid (hval 2 23 v2 rfl rfl) h2 hsz (j := 2) rfl rfl
  refine (wCopies W ta tc ts ht htc htn ga G gc A L C B hg hG ha M hc A2 L2 C2 B2 hg2 hM).mono fun e W' ⟨he, hb⟩ => ?_
  subst he
  refine ⟨_, rfl, _, _, _, [], _, [], hW', ?_, trodAll_mk3 (Below.trod Try.laidOut (by kernel_rfl) (of_decide_eq_true (by kernel_rfl)) h0 hb (fun x hx => hlt x (.inl hx))) (Below.trod Try.laidOut (by kernel_rfl) (of_decide_eq_true (by kernel_rfl)) h1 hb (fun x hx => hlt x (.inr (.inl hx)))) (Below.trod Try.laidOut (by kernel_rfl) (of_decide_eq_true (by kernel_rfl)) h2 hb (fun x hx => hlt x (.inr (.inr hx)))), rfl, hb.frame _, fun h => by cases h⟩
  exact trodAll_mk1 (shut_bool Try.underlying4 _)
theorem turnCopies_holds : Rows.TurnCopiesSaid :=
  OpenClaim.holds_of_wide 4 Try.f4 rfl rfl rfl rfl rfl rfl rfl ⟨rfl, rfl, rfl, rfl, rfl⟩ rfl rfl rfl rfl rfl (by kernel_rfl) Try.func4 (by kernel_rfl)
    (of_decide_eq_true (by kernel_rfl)) (by unfold Func.isWrapper; rw [if_neg (of_decide_eq_false (by kernel_rfl))]; exact ⟨rfl, rfl⟩)
    (fun os started H enc _ => turnCopies_lifted os started H enc)
#print axioms turnCopies_holds
end Go.Proofs.Ytlbekopcaifijaa

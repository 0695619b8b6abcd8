/-
  JudgeVersions answers true at every input. The table of bits starts as the program's text lays it (the card ties it). (By the verifier; no statement.)
-/
import Derived.Test.YtbielnehggcaoaaDoorJ42
namespace Go.Proofs.YtbielnehggcaoaaDoor
open Go.ChangeShapes Go.WideShapes Go.ChangeAt Go.WideMaps Go.WideElems Go.RowKit Go.Deep
theorem light_okV {W x : World} {sv ev : Value} {S : List (List (Int × Int))} {D : List Ev} (hS : XS W sv S) (hSl : S.length ≤ 140737488355328) (hE : XE W ev D) (hDl : D.length ≤ 140737488355328) (hnm : ∀ i, (eAt D i).num < 9223372036854775808) (hx : Turned [] W x) :
    Calls Tryd.prog 18 #[sv, ev] x fun r y => ∃ q, r = .returned (.bool q) ∧ (q = true → LvOk W sv ev S D) ∧ Turned [] x y := by
  obtain ⟨sa, sc, rfl, hS2⟩ := id hS.ex
  obtain ⟨L, hv, hL, -⟩ := id hE.ex
  obtain ⟨ea, ec, rfl, -⟩ := id hv.ex
  rw [hL] at hE ⊢
  have hLt : LtAt x sa S.length ea D.length (fun i => (S.getD i []).length) (fun i => (eAt D i).ns.length) (fun i => (eAt D i).ps.length) := by
    refine ⟨⟨hSl, hDl⟩, fun i hi => ?_, fun i hi => ?_⟩
    · obtain ⟨b, o, c, ra, rc, es, hb, hcell, -, hln⟩ := (hS.still hx).get hi
      simp only [Value.slice.injEq] at es
      exact ⟨b, o, ra, rc, es.1, hb, hcell, hln⟩
    · obtain ⟨b, o, c, na, nc, pa, pc, es, hec, -, -⟩ := (xe_still hE hx).get hi
      simp only [Value.slice.injEq] at es
      obtain ⟨z, -, -, -, -, -, -, -, -, -, -, -, z11, z12⟩ := hec.all x (Turned.refl _ _)
      exact ⟨b, o, na, nc, pa, pc, es.1, z, z11, z12, (hE.lens hi).1, (hE.lens hi).2⟩
  refine (cLight hLt).mono ?_
  rintro r y ⟨q, rfl, hq, ht⟩
  refine ⟨q, rfl, fun hqt => ?_, ht⟩
  obtain ⟨q1, q2, q3⟩ := hq hqt
  refine ⟨hS, hE, by omega, fun h64 h1024 => ⟨fun i => ?_, fun i => ?_, fun i => ?_, hnm⟩⟩
  · by_cases hi : i < S.length
    · exact q2 i (by omega) hi
    · rw [List.getD_eq_getElem?_getD, List.getElem?_eq_none (by omega)]
      decide
  · by_cases hi : i < D.length
    · exact (q3 i (by omega) hi).1
    · unfold eAt
      rw [List.getD_eq_getElem?_getD, List.getElem?_eq_none (by omega)]
      decide
  · by_cases hi : i < D.length
    · exact (q3 i (by omega) hi).2
    · unfold eAt
      rw [List.getD_eq_getElem?_getD, List.getElem?_eq_none (by omega)]
      decide
set_option maxHeartbeats 1600000 in
set_option maxRecDepth 100000 in
theorem judgeVersions_lifted (os : Os) (started : os.Started) (H : Type) (enc : TypeId × Value → H) :
    ReturnsInHanded {} Tryd.checked os 5 .any (fun w args => (Rows.judgeVersionsSpec.pre enc Tryd.prog Tryd.f5 [] false w args ∧ laidMetH Tryd.prog laidOne w) ∧ sizedMet enc Tryd.prog Tryd.f5 (OpenSpec.ofChange Rows.judgeVersionsSpec) false w args)
      (Rows.judgeVersionsSpec.post enc Tryd.prog Tryd.f5 false true false false) := by
  refine returnsInHanded_of_change_and (C := Tryd.checked) (X := fun w _ => laidMetH Tryd.prog laidOne w) (fun _ _ _ hh h => h.of_heap hh) Tryd.own started (by kernel_rfl) Tryd.func5
    (ChangeSpec.witness_shaped (enc := enc) (C := Tryd.checked) (os := os) (X := fun w _ => laidMetH Tryd.prog laidOne w) false (World.doorLaid Tryd.prog 200 os) #[.slice none 0 0, .slice none 0 0] 8 rfl (World.shaped_of_RefB (by kernel_rfl) (by kernel_rfl)) (by kernel_rfl) (by kernel_rfl) (by kernel_rfl) (door_met os _)) ?_
  intro W base args ds gs before hval0 hW _ hWt0 hL _
  have hval : ∀ (j : Nat) t v, Tryd.f5.params[j]? = some t → args[j]? = some v → Value.okWide Tryd.prog W .any base t v := hval0
  have hW' := hW
  obtain ⟨p, q, hA0, hV, rfl, hfz, hnd⟩ := hW
  have hA : DataW.TrodAll enc Tryd.prog W 0 (fun _ => true) true Tryd.f5.params.toList args.toList ds p := hA0
  have hWt : (DataW.weightsEach Tryd.prog (Tryd.f5.params.toList ++ Rows.judgeVersionsSpec.plain.varTypes Tryd.prog) (ds ++ gs)).all (· ≤ reachBytes) = true := hWt0
  clear hWt0
  rw [Tryd.params5] at hA hval hWt
  obtain ⟨v0, v1, d0, d1, p0, p1, rfl, rfl, rfl, h0, h1⟩ := trodAll_two hA
  obtain ⟨rfl, rfl⟩ := trodVars_none hV
  clear hA0 hval0 hA
  simp only [List.append_nil] at hW' hfz
  have hlt0 : ∀ x, x ∈ p0 → x.block < W.heap.size := fun x hx => hW'.lt x (by simp [hx])
  have hlt1 : ∀ x, x ∈ p1 → x.block < W.heap.size := fun x hx => hW'.lt x (by simp [hx])
  have s0 : SmallD 38 d0 := fun n hn => by simpa using List.all_eq_true.1 hWt n (DataW.weights_mem_each (j := 0) rfl rfl n hn)
  have s1 : SmallD 39 d1 := fun n hn => by simpa using List.all_eq_true.1 hWt n (DataW.weights_mem_each (j := 1) rfl rfl n hn)
  obtain ⟨S, hS, hSl⟩ := view_startsV (hval 0 38 v0 rfl rfl) h0 s0
  obtain ⟨D, hD, hDl, hnm⟩ := view_eventsV (hval 1 39 v1 rfl rfl) h1 s1
  refine (cJudgeVersions (w := W) (S := S) (D := D) (by obtain ⟨a, c, e, -⟩ := hS.ex; exact ⟨a, c, e⟩) (by obtain ⟨L, hv, hL2, -⟩ := hD.ex; obtain ⟨a, c, e, -⟩ := hv.ex; exact ⟨a, c, by rw [e, hL2]⟩) (fun x hx => light_okV hS hSl hD hDl hnm hx) (tab_of_laid hL)).mono fun e W' ⟨he, ht⟩ => ?_
  have hb : Below W.heap.size W W' := ht.below (Below.refl _ _) (by simp) (Nat.le_refl _)
  subst he
  exact ⟨_, rfl, _, _, _, [], _, [], hW', trodAll_mk1 (shut_bool Tryd.underlying4 _), trodAll_mk2 (Below.trod laidOutR (by kernel_rfl) (of_decide_eq_true (by kernel_rfl)) h0 hb hlt0) (Below.trod laidOutR (by kernel_rfl) (of_decide_eq_true (by kernel_rfl)) h1 hb hlt1), rfl, hb.frame _, fun h => by cases h⟩
theorem judgeVersions_holds : Rows.JudgeVersionsSaid :=
  OpenClaim.holds_of_wide 5 Tryd.f5 rfl rfl rfl rfl rfl rfl rfl ⟨rfl, rfl, rfl, rfl, rfl⟩ rfl rfl rfl rfl rfl (by kernel_rfl) Tryd.func5 (by kernel_rfl)
    (of_decide_eq_true (by kernel_rfl)) (by unfold Func.isWrapper; rw [if_neg (of_decide_eq_false (by kernel_rfl))]; exact ⟨rfl, rfl⟩)
    (fun os started H enc _ => judgeVersions_lifted os started H enc)
theorem judgeVersions_card : Rows.JudgeVersionsCardSaid :=
  Claim7.holds_tied_plain_at .later [] [.data] true (true, "db5eea24aec1bd66d7d907e51e228744e8a76540f239335280054559c0fe2b73") false
    judgeVersions_holds (fun _ h => by cases h) (by kernel_rfl) (fun _ h => by cases h) judgeVersions_row_tie rfl ⟨rfl, rfl⟩ (by kernel_rfl) rfl
    (fun f fn hf hfn => by
      obtain rfl : f = 5 := Option.some.inj ((show Tryd.prog.funcNamed "skein/skeinlaw20.JudgeVersions" = some 5 by kernel_rfl).symm.trans hf) |>.symm
      obtain rfl : fn = Tryd.f5 := (Option.some.inj (Tryd.func5.symm.trans hfn)).symm
      exact ⟨by kernel_rfl, fun j t ht => by
        rw [Tryd.params5] at ht
        have hm : t ∈ [38, 39] := by simpa using Array.mem_of_getElem? ht
        have hall : ([38, 39].all fun u => !Tryd.prog.wantsStandIn u) = true := by kernel_rfl
        exact (show Tryd.prog.wantsStandIn t = false by simpa using List.all_eq_true.1 hall t hm)⟩)
    (by kernel_rfl)
#print axioms judgeVersions_card
end Go.Proofs.YtbielnehggcaoaaDoor

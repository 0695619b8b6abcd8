/-
  JudgeLess answers true at every input. The table of bits starts as the program's text lays it (the card ties it). (By the verifier; no statement.)
-/
import Derived.Test.YteflnccjhnmkpaaDoorJ30
namespace Go.Proofs.YteflnccjhnmkpaaDoor
open Go.ChangeShapes Go.WideShapes Go.ChangeAt Go.WideMaps Go.WideElems Go.RowKit Go.Deep
theorem light_ok {W x : World} {sa ea : Option Addr} {sc ec : Nat} {S : List (List (Int × Int))} {D : List Ev} (hSl : S.length ≤ 140737488355328) (hS : ∀ i l, S[i]? = some l → ∃ (b o : Nat) (u : Value), sa = some ⟨b, o, none⟩ ∧ W.cell? ⟨b, o + i, none⟩ = some u ∧ PU W u l) (hcap : D.length ≤ ec) (hDl : D.length ≤ 140737488355328) (hD : ∀ i e, D[i]? = some e → ∃ b o : Nat, ea = some ⟨b, o, none⟩ ∧ EvU W b (o + i * 13) e) (hx : Turned [] W x) :
    Calls Tryd.prog 18 #[.slice sa S.length sc, .slice ea D.length ec] x fun r y => ∃ q, r = .returned (.bool q) ∧ (q = true → LsOk W (.slice sa S.length sc) ea D.length ec S D) ∧ Turned [] x y := by
  have hSg : ∀ i, i < S.length → S[i]? = some (S.getD i []) := fun i hi => by simp [hi]
  have hDg : ∀ i, i < D.length → D[i]? = some (eAt D i) := fun i hi => by unfold eAt; simp [hi]
  have hLt : LtAt x sa S.length ea D.length (fun i => (S.getD i []).length) (fun i => (eAt D i).ns.length) (fun i => (eAt D i).ps.length) := by
    refine ⟨⟨hSl, hDl⟩, fun i hi => ?_, fun i hi => ?_⟩
    · obtain ⟨b, o, u, ea', hc, hp⟩ := hS i _ (hSg i hi)
      obtain ⟨a, c, rfl, -⟩ := hp.ex
      exact ⟨b, o, a, c, ea', Nat.lt_of_lt_of_le (cell_lt hc) hx.size, hx.cell hc (by simp), hp.len⟩
    · obtain ⟨b, o, ea', he⟩ := hD i _ (hDg i hi)
      obtain ⟨u, hu, hi2, hnl⟩ := he.c11
      obtain ⟨u', hu', hp⟩ := he.c12
      obtain ⟨a, c, rfl, -⟩ := hi2.ex
      obtain ⟨a', c', rfl, -⟩ := hp.ex
      exact ⟨b, o, a, c, a', c', ea', Nat.lt_of_lt_of_le (cell_lt hu) hx.size, hx.cell hu (by simp), hx.cell hu' (by simp), hnl, hp.len⟩
  refine (cLight hLt).mono ?_
  rintro r y ⟨q, rfl, hq, ht⟩
  refine ⟨q, rfl, fun hqt => ?_, ht⟩
  obtain ⟨q1, q2, q3⟩ := hq hqt
  refine ⟨rfl, hcap, by omega, fun h64 => ⟨sa, sc, rfl, fun i l hl => ?_⟩, fun i hi => ?_, fun n hn hnl => ?_⟩
  · have hi := (List.getElem?_eq_some_iff.1 hl).1
    obtain ⟨b, o, u, ea', hc, hp⟩ := hS i l hl
    refine ⟨b, o, u, ea', hc, hp.to ?_⟩
    have h3 := q2 i (by omega) hi
    have e : S.getD i [] = l := by
      have := hSg i hi
      rw [hl] at this
      exact (Option.some.inj this).symm
    simp only [e] at h3
    omega
  · obtain ⟨b, o, ea', he⟩ := hD i _ (hDg i hi)
    exact ⟨b, o, ea', cell_lt he.c3, he.c3⟩
  · have hlen : (D.take n).length = n := by rw [List.length_take]; omega
    refine ⟨by rw [hlen]; omega, ea, ec, by rw [hlen], fun i e he => ?_⟩
    have hi : i < n := by have := (List.getElem?_eq_some_iff.1 he).1; omega
    rw [List.getElem?_take_of_lt hi] at he
    obtain ⟨b, o, ea', hE⟩ := hD i e he
    refine ⟨b, o, ea', hE.to ?_⟩
    have h3 := (q3 i (by omega) (by omega)).2
    simp only [eAt_of he] at h3
    omega
set_option maxHeartbeats 1600000 in
set_option maxRecDepth 100000 in
theorem judgeLess_lifted (os : Os) (started : os.Started) (H : Type) (enc : TypeId × Value → H) :
    ReturnsInHanded {} Tryd.checked os 6 .any (fun w args => (Rows.judgeLessSpec.pre enc Tryd.prog Tryd.f6 [] false w args ∧ laidMetH Tryd.prog laidOne w) ∧ sizedMet enc Tryd.prog Tryd.f6 (OpenSpec.ofChange Rows.judgeLessSpec) false w args)
      (Rows.judgeLessSpec.post enc Tryd.prog Tryd.f6 false true false false) := by
  refine returnsInHanded_of_change_and (C := Tryd.checked) (X := fun w _ => laidMetH Tryd.prog laidOne w) (fun _ _ _ hh h => h.of_heap hh) Tryd.own started (by kernel_rfl) Tryd.func6
    (ChangeSpec.witness_shaped (enc := enc) (C := Tryd.checked) (os := os) (X := fun w _ => laidMetH Tryd.prog laidOne w) false (World.doorLaid Tryd.prog 200 os) #[.slice none 0 0, .slice none 0 0, .int .i64 0] 8 rfl (World.shaped_of_RefB (by kernel_rfl) (by kernel_rfl)) (by kernel_rfl) (by kernel_rfl) (by kernel_rfl) (door_met os _)) ?_
  intro W base args ds gs before hval0 hW _ hWt0 hL _
  have hval : ∀ (j : Nat) t v, Tryd.f6.params[j]? = some t → args[j]? = some v → Value.okWide Tryd.prog W .any base t v := hval0
  have hW' := hW
  obtain ⟨p, q, hA0, hV, rfl, hfz, hnd⟩ := hW
  have hA : DataW.TrodAll enc Tryd.prog W 0 (fun _ => true) true Tryd.f6.params.toList args.toList ds p := hA0
  have hWt : (DataW.weightsEach Tryd.prog (Tryd.f6.params.toList ++ Rows.judgeLessSpec.plain.varTypes Tryd.prog) (ds ++ gs)).all (· ≤ reachBytes) = true := hWt0
  clear hWt0
  rw [Tryd.params6] at hA hval hWt
  obtain ⟨v0, v1, v2, d0, d1, d2, p0, p1, p2, rfl, rfl, rfl, h0, h1, h2⟩ := trodAll_three hA
  obtain ⟨rfl, rfl⟩ := trodVars_none hV
  clear hA0 hval0 hA
  simp only [List.append_nil] at hW' hfz
  have hlt0 : ∀ x, x ∈ p0 → x.block < W.heap.size := fun x hx => hW'.lt x (by simp [hx])
  have hlt1 : ∀ x, x ∈ p1 → x.block < W.heap.size := fun x hx => hW'.lt x (by simp [hx])
  obtain ⟨x2, rfl, rfl, rfl, wx2⟩ := open_int Tryd.underlying3 (hval 2 3 v2 rfl rfl) h2
  have s0 : SmallD 38 d0 := fun n hn => by simpa using List.all_eq_true.1 hWt n (DataW.weights_mem_each (j := 0) rfl rfl n hn)
  have s1 : SmallD 39 d1 := fun n hn => by simpa using List.all_eq_true.1 hWt n (DataW.weights_mem_each (j := 1) rfl rfl n hn)
  obtain ⟨sa, S, sc, rfl, hSl, hS⟩ := view_starts (hval 0 38 v0 rfl rfl) h0 s0
  obtain ⟨ea, D, ec, rfl, hcap, hDl, hD⟩ := view_events (hval 1 39 v1 rfl rfl) h1 s1
  refine (cJudgeLess (w := W) (S := S) (D := D) ⟨_, _, rfl⟩ (fun x hx => light_ok hSl hS hcap hDl hD hx) (tab_of_laid hL)).mono fun e W' ⟨he, ht⟩ => ?_
  have hb : Below W.heap.size W W' := ht.below (Below.refl _ _) (by simp) (Nat.le_refl _)
  subst he
  exact ⟨_, rfl, _, _, _, [], _, [], hW', trodAll_mk1 (shut_bool Tryd.underlying4 _), trodAll_mk3 (Below.trod laidOutR (by kernel_rfl) (of_decide_eq_true (by kernel_rfl)) h0 hb hlt0) (Below.trod laidOutR (by kernel_rfl) (of_decide_eq_true (by kernel_rfl)) h1 hb hlt1) (shut_int Tryd.underlying3 wx2), rfl, hb.frame _, fun h => by cases h⟩
theorem judgeLess_holds : Rows.JudgeLessSaid :=
  OpenClaim.holds_of_wide 6 Tryd.f6 rfl rfl rfl rfl rfl rfl rfl ⟨rfl, rfl, rfl, rfl, rfl⟩ rfl rfl rfl rfl rfl (by kernel_rfl) Tryd.func6 (by kernel_rfl)
    (of_decide_eq_true (by kernel_rfl)) (by unfold Func.isWrapper; rw [if_neg (of_decide_eq_false (by kernel_rfl))]; exact ⟨rfl, rfl⟩)
    (fun os started H enc _ => judgeLess_lifted os started H enc)
theorem judgeLess_card : Rows.JudgeLessCardSaid :=
  Claim7.holds_tied_plain_at .later [] [.data] true (true, "db5eea24aec1bd66d7d907e51e228744e8a76540f239335280054559c0fe2b73") false
    judgeLess_holds (fun _ h => by cases h) (by kernel_rfl) (fun _ h => by cases h) judgeLess_row_tie rfl ⟨rfl, rfl⟩ (by kernel_rfl) rfl
    (fun f fn hf hfn => by
      obtain rfl : f = 6 := Option.some.inj ((show Tryd.prog.funcNamed "skein/skeinlaw20.JudgeLess" = some 6 by kernel_rfl).symm.trans hf) |>.symm
      obtain rfl : fn = Tryd.f6 := (Option.some.inj (Tryd.func6.symm.trans hfn)).symm
      exact ⟨by kernel_rfl, fun j t ht => by
        rw [Tryd.params6] at ht
        have hm : t ∈ [38, 39, 3] := by simpa using Array.mem_of_getElem? ht
        have hall : ([38, 39, 3].all fun u => !Tryd.prog.wantsStandIn u) = true := by kernel_rfl
        exact (show Tryd.prog.wantsStandIn t = false by simpa using List.all_eq_true.1 hall t hm)⟩)
    (by kernel_rfl)
#print axioms judgeLess_card
end Go.Proofs.YteflnccjhnmkpaaDoor

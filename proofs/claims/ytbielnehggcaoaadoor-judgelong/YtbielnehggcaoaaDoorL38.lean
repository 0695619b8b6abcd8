/-
  JudgeLong answers true at every seed, parts and count. The table of bits starts as the program's text lays it (the card ties it). (By the verifier; no statement.)
-/
import Derived.Test.YtbielnehggcaoaaDoorL37
import Derived.Carry
/-
  JudgeLong by contract. (By the verifier; no statement.)
-/
namespace Go.Proofs.YtbielnehggcaoaaDoor
open Go.RowKit
set_option maxRecDepth 100000 in
set_option maxHeartbeats 12800000 in
theorem cJudgeLong {w : World} {seed parts count : Int} (hT : Tab w) (hz : 0 < w.heap.size) : Calls Tryd.prog 7 #[.int .i64 seed, .int .i64 parts, .int .i64 count] w fun r w' => r = .returned (.bool true) ∧ Turned [] w w' := by
  have HT : Hid (Tab w ∧ 0 < w.heap.size) := ⟨hT, hz⟩
  clear hT hz
  go_enter Tryd.func7, Tryd.ntmps7
  go_wp2_with (fail)
  refine (cPlace w (by decide) (by decide)).mono ?_
  rintro r x1 ⟨⟨q1, rfl, h1, h2⟩, rfl⟩
  obtain ⟨n, rfl⟩ : ∃ n : Nat, q1 = n := ⟨q1.toNat, by omega⟩
  have hn : n < 900 := by omega
  clear h1 h2
  go_wp2_with (fail)
  refine (cPlace x1 (by decide) (by decide)).mono ?_
  rintro r x2 ⟨⟨q2, rfl, h1, h2⟩, rfl⟩
  obtain ⟨m, hm⟩ : ∃ m : Nat, 1 + q2 = m := ⟨(1 + q2).toNat, by omega⟩
  have hm1 : 1 ≤ m := by omega
  have hm4 : m ≤ 4 := by omega
  have hw1 : IntKind.i64.wrap (1 + q2) = (m : Int) := by rw [hm]; exact wr64 (by omega) (by omega)
  clear h1 h2 hm
  go_wp2_with (fail)
  refine (cPlace x2 (by decide) (by decide)).mono ?_
  rintro r x3 ⟨⟨q3, rfl, h1, h2⟩, rfl⟩
  have HQ : Hid (0 ≤ q3 ∧ q3 < 2147483648) := ⟨h1, by omega⟩
  clear h1 h2
  have hmk := run_mkSt m hm4
  have HS0 : Hid _ := L1.zero (w := x3) (m := m) HQ.out
  go_upto_region 5 with fail
  clear hmk
  have e0 : (x3.alloc (Obj.cells #[Value.int .i64 q3] 60)) = x3.alloc (tObj q3) := rfl
  rw [e0]
  clear e0
  generalize ((x3.alloc (tObj q3)).alloc (.cells #[.slice none 0 0, .slice none 0 0, .slice none 0 0] 64 (0, 0))).alloc (.cells (madeCells #[.slice none 0 0] m) 41 (0, 0)) = y0 at HS0 ⊢
  generalize x3.heap.size + 2 = stb at HS0 ⊢
  generalize x3.heap.size + 1 = sb at HS0 ⊢
  generalize hsz : x3.heap.size = tb at HS0 ⊢
  clear hsz hw1
  go_wp2
  go_loopw [12] (fun i wx => Bx (∃ p : Nat, p ≤ m ∧ i = .int .i64 p ∧ Hid (L1 x3 wx tb sb stb m p p p))) (fun i _ => m - (intOf i).toNat)
  case atStart => exact ⟨0, Nat.zero_le _, rfl, HS0⟩
  case round =>
    obtain ⟨p, hp, rfl, HR⟩ := hrel.ex
    clear hrel HS0
    by_cases hlt : p < m
    · obtain ⟨nv, uv, Ms, hst, hO, hML, hMn, hMm, hMb, hU⟩ := HR.out.st
      obtain ⟨na, nc, rfl⟩ := hO.slice
      have s1 := lt_of_heap hst
      have s2 : wr.cell? ⟨sb, 0, none⟩ = some (.slice na Ms.length nc) := by rw [cell_at hst]; rfl
      have s3 := froz_at hst 0
      have hmm := @run_makeMap Tryd.prog
      obtain ⟨x5, hput, hT5, hM5⟩ := HM.putS (GM.made wr : HM (wr.alloc (.map #[] 0)) wr.heap.size (fun _ => none)) p 7
      have hTm : Turned [] wr x5 := ((Turned.refl [] wr).alloc _).inner hT5 (fun g hg => .inr (by rw [List.mem_singleton.1 hg]; exact Nat.le_refl _))
      have HTa : Hid (Turned [] wr (x5.alloc (.cells #[.map (some wr.heap.size)] 65 (0, 0)))) := hTm.alloc _
      have HMa : Hid (HM (x5.alloc (.cells #[.map (some wr.heap.size)] 65 (0, 0))) wr.heap.size (hd1 p)) := (show HM x5 wr.heap.size (hd1 p) from hM5).keep ((Turned.refl [] x5).alloc _) (by simp)
      have HOa : Hid _ := hO
      have HNow : Hid _ := fun z v2 h1 h2 => HR.out.now hst hO hML hMn hMm hMb hU (y := x5.alloc (.cells #[.map (some wr.heap.size)] 65 (0, 0))) (z := z) (v2 := v2) (g := wr.heap.size) HTa.out (Nat.le_refl _) HMa.out h1 h2
      have HVr : Hid (VW encM (x5.alloc (.cells #[.map (some wr.heap.size)] 65 (0, 0))) (.slice (some ⟨x5.heap.size, 0, none⟩) 1 1) [wr.heap.size]) := VW.block (R := [wr.heap.size]) (c := 1) (blk_new _ _) (fun i u hu => by simpa [encM] using hu)
      have hby : (Ms.length + [wr.heap.size].length) * 8 ≤ 140737488355328 := by
        rw [hML]
        simp only [List.length_cons, List.length_nil]
        omega
      have hBz : x3.heap.size ≤ (x5.alloc (.cells #[.map (some wr.heap.size)] 65 (0, 0))).heap.size := Nat.le_trans HR.out.tu.size HTa.out.size
      clear hst hO hML hMn hMm hMb hU hT5 hM5 hTm
      go_upto_region 9 with (at_builtin; refine wpList_apO elM enM (B := x3.heap.size) (v := .slice na Ms.length nc) (u := .slice (some ⟨x5.heap.size, 0, none⟩) 1 1) (R := Ms) (M := [wr.heap.size]) rfl _ _ rfl rfl (HOa.out.still HTa.out) rfl HVr.out hby hBz ?_; intro v6 x6 ho ht _; obtain ⟨g6, c6, rfl⟩ := ho.somes; obtain ⟨⟨m1, m2, m3⟩, m4⟩ := HNow.out x6 _ ht ho; have HL1 : Hid _ := m4; clear m4 ho ht)
      generalize x6.setCell ⟨sb, 0, none⟩ (.slice (some ⟨g6, 0, none⟩) (Ms.length + 1) c6) = x7 at HL1 ⊢
      clear HOa HTa HMa HNow HVr hby hBz m1 m2 m3 s1 s2 s3 hput hmm HR
      obtain ⟨nv, uv, Ms2, hst, hO, hML, hMn, hMm, hMb, hU⟩ := HL1.out.st
      obtain ⟨ua, uc, rfl⟩ := hU.slice
      rw [List.length_replicate] at hst hU
      have s1 := lt_of_heap hst
      have s2 : x7.cell? ⟨sb, 1, none⟩ = some (.slice ua p uc) := by rw [cell_at hst]; rfl
      have s3 := froz_at hst 1
      have HTa : Hid (Turned [] x7 (x7.alloc (.cells #[.int .i64 1] 3 (0, 0)))) := (Turned.refl [] x7).alloc _
      have HUa : Hid (OW 3 1 (fun q : Int => [Value.int .i64 q]) x3.heap.size x7 (.slice ua p uc) (List.replicate p 1)) := hU
      have HNum : Hid _ := fun z v2 h1 h2 => HL1.out.num hst hO hML hMn hMm hMb hU (y := x7.alloc (.cells #[.int .i64 1] 3 (0, 0))) (z := z) (v2 := v2) HTa.out h1 h2
      have HVr : Hid (VW (fun q : Int => [Value.int .i64 q]) (x7.alloc (.cells #[.int .i64 1] 3 (0, 0))) (.slice (some ⟨x7.heap.size, 0, none⟩) 1 1) [1]) := VW.block (R := [1]) (c := 1) (blk_new _ _) (fun i u hu => by simpa using hu)
      have hby : ((List.replicate p (1 : Int)).length + [(1 : Int)].length) * 8 ≤ 140737488355328 := by
        rw [List.length_replicate]
        simp only [List.length_cons, List.length_nil]
        omega
      have hBz : x3.heap.size ≤ (x7.alloc (.cells #[.int .i64 1] 3 (0, 0))).heap.size := Nat.le_trans HL1.out.tu.size HTa.out.size
      have hrl : (List.replicate p (1 : Int)).length = p := List.length_replicate
      clear hst hO hML hMn hMm hMb hU
      go_upto_region 10 with (at_builtin; refine wpList_apO elI enI (B := x3.heap.size) (v := .slice ua p uc) (u := .slice (some ⟨x7.heap.size, 0, none⟩) 1 1) (R := List.replicate p 1) (M := [1]) rfl _ _ rfl rfl (HUa.out.still HTa.out) rfl HVr.out hby hBz ?_; intro v8 x8 ho ht _; obtain ⟨g8, c8, e8⟩ := ho.somes; rw [hrl] at e8; subst e8; obtain ⟨⟨m1, m2, m3⟩, m4⟩ := HNum.out x8 _ ht ho; have HL2 : Hid _ := m4; clear m4 ho ht)
      generalize x8.setCell ⟨sb, 1, none⟩ (.slice (some ⟨g8, 0, none⟩) (p + 1) c8) = x9 at HL2 ⊢
      clear HUa HTa HNum HVr hby hBz m1 m2 m3 s1 s2 s3 hrl HL1
      obtain ⟨-, m4⟩ := HL2.out.start hlt ((Turned.refl [] x9).alloc (.cells #[.int .i64 p, .int .i64 3, .int .i64 p, .int .i64 7] 67 (0, 0))) (blk_new _ _)
      have HL3 : Hid _ := m4
      obtain ⟨m1, ⟨ov, m2⟩, m3⟩ := HL2.out.cellS hlt
      obtain ⟨g1, g2, g3⟩ := in_i64 hlt (by omega)
      clear m4 HL2
      go_wp2
      go_roundw
      case rel => exact ⟨p + 1, by omega, by go_num, by have h := HL3.out; rw [World.setCell_alloc_past _ _ _ _ m1] at h; exact h⟩
      case measure => simp [intOf]; omega
    · obtain rfl : p = m := by omega
      have HB0 : Hid _ := HR.out.begun hm1
      have HTa : Hid (Turned [] x3 wr) := HR.out.tu
      have HWz : Hid (x3.heap.size ≤ wr.heap.size) := HR.out.tu.size
      clear HR hlt hp
      obtain ⟨nb, nc, ub, uc, Ms, hMY, hSt, hF⟩ := HB0.out
      have HM0 : Hid _ := hMY
      have HSt : Hid _ := hSt
      have HFr : Hid _ := hF
      clear hMY hSt hF HB0
      obtain ⟨W1, eW⟩ : ∃ W1, W1 = wr := ⟨_, rfl⟩
      subst eW
      go_wp2
      go_loopw [13] (fun i wx => Bx (∃ (D : List Ev) (lv : Value), D.length ≤ n ∧ i = .int .i64 (D.length : Nat) ∧ Hid (MY tb sb ub nb uc nc p Ms W1 wx (fun p => (nuL D p : Int)) (fun q => hoL (firstH (startS p) q) D q) lv D) ∧ Hid (SM (startS p) D))) (fun i _ => n - (intOf i).toNat)
      case atStart => exact ⟨[], _, Nat.zero_le _, rfl, HM0, SM.nil p⟩
      case round =>
        obtain ⟨D, lv, hD, rfl, HM, HS⟩ := hrel.ex
        clear hrel
        by_cases hlt : D.length < n
        · have hw3 : IntKind.i64.wrap (3 * (D.length : Int)) = 3 * (D.length : Int) := wr64 (by omega) (by omega)
          have hw4 : IntKind.i64.wrap (1 + 3 * (D.length : Int)) = 1 + 3 * (D.length : Int) := wr64 (by omega) (by omega)
          go_wp2_with (fail)
          refine (cTells HM.out HS.out (startS_len p).symm (by omega) (by omega) (by omega)).mono ?_
          rintro r y ⟨rfl, lv', e, h1, h2⟩
          have HM2 : Hid _ := h1
          have HS2 : Hid _ := h2
          clear h1 h2 HM HS hw3 hw4
          go_wp2
          go_roundw
          case rel => exact ⟨D ++ [e], lv', by rw [List.length_append]; simp only [List.length_cons, List.length_nil]; omega, by rw [List.length_append]; go_num, HM2, HS2⟩
          case measure => simp [intOf]; omega
        · obtain rfl : D.length = n := by omega
          have HSx : Hid (StA wr stb p) := HM0.out.starts HM.out HSt.out
          have HXu : Hid (Turned [] x3 wr) := HTa.out.inner HM.out.tu fun g hg => .inr (HFr.out g hg)
          have HCp : Hid (CpAt W1.heap.size wr lv D D.length) := HM.out.l
          have HSb : Hid (wr.heap[sb]? = some (.cells #[.slice (some ⟨nb, 0, none⟩) p nc, .slice (some ⟨ub, 0, none⟩) p uc, lv] 64 (0, 0))) := HM.out.st
          have hss := HSx.out.ss
          rw [startS_len] at hss
          have HSs : Hid _ := hss
          have HEs : Hid (EsAt wr lv D) := HCp.out.es (by omega) (fun i => by rw [HS.out.pn i]; simp)
          have hmany : manyB (startS p).length D.length = false := by
            rw [startS_len]
            unfold manyB
            simp only [Bool.or_eq_false_iff, decide_eq_false_iff_not]
            omega
          have HMy : Hid _ := hmany
          obtain ⟨z1, z2, z3, z4, z5⟩ := HM.out.cells
          clear hss hmany HM HM0 HSt HFr HTa hlt hD
          go_wp2_with (fail)
          refine (cVersions HEs.out HSs.out (by rw [startS_len]; omega)).mono ?_
          intro r y hv
          have HTy : Hid (Turned [] wr y) := hv.tu
          rcases hv.ans with ⟨m1, -⟩ | ⟨-, v, R, rfl, pR, sR, bR⟩
          · rw [HMy.out] at m1
            cases m1
          rw [HS.out.sto.none HS.out.v] at pR
          obtain rfl := pR.eq_nil
          obtain ⟨va, vc, rfl⟩ : ∃ va vc, v = .slice va 0 vc := by
            rcases bR.form with ⟨rfl, -⟩ | ⟨g, c, rfl⟩
            · exact ⟨none, 0, rfl⟩
            · exact ⟨_, c, rfl⟩
          clear hv pR sR bR z1 z2 z3 z4 z5
          go_wp2_with (fail)
          rename_i Ky hKy Kx hKx Kr hKr
          have HKy : Hid _ := hKy
          clear hKy
          refine (cKnown (HT.out.1.keep (HXu.out.trans HTy.out) (by simp))).mono ?_
          rintro r y2 ⟨rfl, t2⟩
          have HTz : Hid (Turned [] wr y2) := HTy.out.trans t2
          have HFn : Hid (FN W1.heap.size y2 sb stb p lv D) := (⟨⟨_, _, HSb.out⟩, HCp.out, HSx.out⟩ : FN W1.heap.size wr sb stb p lv D).still HTz.out
          have HWs : Hid (x3.heap.size ≤ W1.heap.size) := HWz.out
          have HTw : Hid (Turned [] x3 y2) := HXu.out.trans HTz.out
          clear t2 HTy
          go_wp2
          refine HKy.out _ _ ?_
          show Code.wp Tryd.prog (atc Tryd.f7.body [1, 1, 1, 1, 1, 1, 1, 1, 1]) _ _ _
          exact jl_mid rfl rfl rfl rfl rfl HFn.out HS.out hn ⟨hm1, hm4⟩ HTw.out HWs.out
end Go.Proofs.YtbielnehggcaoaaDoor
namespace Go.Proofs.YtbielnehggcaoaaDoor
open Go.ChangeShapes Go.WideShapes Go.ChangeAt Go.WideMaps Go.WideElems Go.RowKit Go.Deep
set_option maxHeartbeats 1600000 in
set_option maxRecDepth 100000 in
theorem judgeLong_lifted (os : Os) (started : os.Started) (H : Type) (enc : TypeId × Value → H) :
    ReturnsInHanded {} Tryd.checked os 7 .any (fun w args => (Rows.judgeLongSpec.pre enc Tryd.prog Tryd.f7 [] false w args ∧ laidMetH Tryd.prog laidOne w) ∧ sizedMet enc Tryd.prog Tryd.f7 (OpenSpec.ofChange Rows.judgeLongSpec) false w args)
      (Rows.judgeLongSpec.post enc Tryd.prog Tryd.f7 false true false false) := by
  refine returnsInHanded_of_change_and (C := Tryd.checked) (X := fun w _ => laidMetH Tryd.prog laidOne w) (fun _ _ _ hh h => h.of_heap hh) Tryd.own started (by kernel_rfl) Tryd.func7
    (ChangeSpec.witness_shaped (enc := enc) (C := Tryd.checked) (os := os) (X := fun w _ => laidMetH Tryd.prog laidOne w) false (World.doorLaid Tryd.prog 200 os) #[.int .i64 0, .int .i64 0, .int .i64 0] 8 rfl (World.shaped_of_RefB (by kernel_rfl) (by kernel_rfl)) (by kernel_rfl) (by kernel_rfl) (by kernel_rfl) (door_met os _)) ?_
  intro W base args ds gs before hval0 hW _ _ hL _
  have hval : ∀ (j : Nat) t v, Tryd.f7.params[j]? = some t → args[j]? = some v → Value.okWide Tryd.prog W .any base t v := hval0
  have hW' := hW
  obtain ⟨p, q, hA0, hV, rfl, hfz, hnd⟩ := hW
  have hA : DataW.TrodAll enc Tryd.prog W 0 (fun _ => true) true Tryd.f7.params.toList args.toList ds p := hA0
  rw [Tryd.params7] at hA hval
  obtain ⟨v0, v1, v2, d0, d1, d2, p0, p1, p2, rfl, rfl, rfl, h0, h1, h2⟩ := trodAll_three hA
  obtain ⟨rfl, rfl⟩ := trodVars_none hV
  clear hA0 hval0 hA
  simp only [List.append_nil] at hW' hfz
  obtain ⟨x0, rfl, rfl, rfl, wx0⟩ := open_int Tryd.underlying3 (hval 0 3 v0 rfl rfl) h0
  obtain ⟨x1, rfl, rfl, rfl, wx1⟩ := open_int Tryd.underlying3 (hval 1 3 v1 rfl rfl) h1
  obtain ⟨x2, rfl, rfl, rfl, wx2⟩ := open_int Tryd.underlying3 (hval 2 3 v2 rfl rfl) h2
  refine (cJudgeLong (w := W) (seed := x0) (parts := x1) (count := x2) (tab_of_laid hL) (tab_of_laid hL).pos).mono fun e W' ⟨he, ht⟩ => ?_
  have hb : Below W.heap.size W W' := ht.below (Below.refl _ _) (by simp) (Nat.le_refl _)
  subst he
  exact ⟨_, rfl, _, _, _, [], _, [], hW', trodAll_mk1 (shut_bool Tryd.underlying4 _), trodAll_mk3 (shut_int Tryd.underlying3 wx0) (shut_int Tryd.underlying3 wx1) (shut_int Tryd.underlying3 wx2), rfl, hb.frame _, fun h => by cases h⟩
theorem judgeLong_holds : Rows.JudgeLongSaid :=
  OpenClaim.holds_of_wide 7 Tryd.f7 rfl rfl rfl rfl rfl rfl rfl ⟨rfl, rfl, rfl, rfl, rfl⟩ rfl rfl rfl rfl rfl (by kernel_rfl) Tryd.func7 (by kernel_rfl)
    (of_decide_eq_true (by kernel_rfl)) (by unfold Func.isWrapper; rw [if_neg (of_decide_eq_false (by kernel_rfl))]; exact ⟨rfl, rfl⟩)
    (fun os started H enc _ => judgeLong_lifted os started H enc)
theorem judgeLong_card : Rows.JudgeLongCardSaid :=
  Claim7.holds_tied_plain_at .later [] [.data] true (true, "db5eea24aec1bd66d7d907e51e228744e8a76540f239335280054559c0fe2b73") false
    judgeLong_holds (fun _ h => by cases h) (by kernel_rfl) (fun _ h => by cases h) judgeLong_row_tie rfl ⟨rfl, rfl⟩ (by kernel_rfl) rfl
    (fun f fn hf hfn => by
      obtain rfl : f = 7 := Option.some.inj ((show Tryd.prog.funcNamed "skein/skeinlaw20.JudgeLong" = some 7 by kernel_rfl).symm.trans hf) |>.symm
      obtain rfl : fn = Tryd.f7 := (Option.some.inj (Tryd.func7.symm.trans hfn)).symm
      exact ⟨by kernel_rfl, fun j t ht => by
        rw [Tryd.params7] at ht
        have hm : t ∈ [3, 3, 3] := by simpa using Array.mem_of_getElem? ht
        have hall : ([3, 3, 3].all fun u => !Tryd.prog.wantsStandIn u) = true := by kernel_rfl
        exact (show Tryd.prog.wantsStandIn t = false by simpa using List.all_eq_true.1 hall t hm)⟩)
    (by kernel_rfl)
#print axioms judgeLong_card
end Go.Proofs.YtbielnehggcaoaaDoor

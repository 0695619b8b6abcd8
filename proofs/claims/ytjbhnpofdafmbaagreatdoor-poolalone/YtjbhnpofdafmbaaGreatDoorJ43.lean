/- PoolAlone's row and its tied card. Conditions: the row's own (the listed tables start as the program's text lays them; the card ties them). -/
import Derived.Test.YtjbhnpofdafmbaaGreatDoorRows
import Derived.Test.YtjbhnpofdafmbaaGreatDoorTie
import Derived.Test.YtjbhnpofdafmbaaGreatDoorCards
import Derived.Test.YtjbhnpofdafmbaaGreatDoorJ42
import Derived.ProofKit
import Derived.LaidMore
import Derived.OpenShut
import Derived.Stop.Joined
import Derived.SizedLaws
import Derived.Deep.SlicePairs
import Derived.SevenTiedAt
namespace Go.Proofs.YtjbhnpofdafmbaaGreatDoor
open Go.ChangeShapes Go.WideShapes Go.ChangeAt Go.WideMaps Go.WideElems Go.RowKit Go.Deep
theorem Tryz.own : ownKnob Tryz.prog.godebug = none := by kernel_rfl
theorem Tryz.laidOut : laidOutB Tryz.prog = true := by kernel_rfl
theorem Tryz.cellsI : Tryz.prog.cellsOf 3 = 1 := by kernel_rfl
theorem Tryz.cellsB : Tryz.prog.cellsOf 4 = 1 := by kernel_rfl
theorem Tryz.cellsO : Tryz.prog.cellsOf 45 = 9 := by kernel_rfl
theorem Tryz.cellsN : Tryz.prog.cellsOf 43 = 4 := by kernel_rfl
def laidThree : List (String × DataW Unit) := [("math/bits.deBruijn32tab", Rows.laid_math_bits_deBruijn32tab), ("math/bits.deBruijn64tab", Rows.laid_math_bits_deBruijn64tab), ("internal/strconv.uint64pow10", Rows.laid_internal_strconv_uint64pow10)]
theorem door_met (os : Os) (args : Array Value) : laidMetH Tryz.prog laidThree ((World.doorLaid Tryz.prog 24 os).forCall (fun _ _ => 0) ⟨#[], args, []⟩).memory :=
  laidMetH_of_parts3 (fuel := 8) (laidMet_of_run' 8 (by kernel_rfl) (by kernel_rfl)) (by kernel_rfl) (by kernel_rfl)
section
variable {H : Type} {enc : TypeId × Value → H} {W : World} {base : Nat} {v : Value} {d : DataW H} {p : List MemPlace}
set_option maxRecDepth 100000 in
theorem view_ops (hok : Value.okWide Tryz.prog W .any base 22 v) (h : DataW.Trod enc Tryz.prog W 0 (fun _ => true) true 22 v d p) : ∃ N, Ops W v N := by
  obtain ⟨a0, len, cap, rfl⟩ := okWide_slice Tryz.underlying22 hok
  obtain ⟨fuel, hf⟩ := h
  rcases open_slice Tryz.underlying22 hf with ⟨hcs, _⟩ | ⟨a, len', cap', m, n, D, Pl, hcs, _, hl, _, hm, _, hel⟩
  · simp [Value.cells] at hcs
    obtain ⟨rfl, rfl, rfl⟩ := hcs
    exact ⟨0, none, 0, fun _ => ⟨0, 0, 0, 0, 0, 0, 0, 0, false⟩, rfl, fun h => absurd h (Nat.lt_irrefl _)⟩
  · simp [Value.cells] at hcs
    obtain ⟨rfl, rfl, rfl⟩ := hcs
    simp only [if_true] at hm
    have each : ∀ i, i < cap → ∃ o : OpV, ∀ j, j < 9 → W.cell? (a.add (i * 9 + j)) = (opC o)[j]? := by
      intro i hi
      obtain ⟨cs', h1, h2⟩ := hel i (by omega)
      rw [Tryz.cellsO] at h1
      obtain ⟨_, hlen, hcell⟩ := World.cells?_some h1
      obtain ⟨xs, k, _, _, _, hxl, hfs⟩ := DataW.trod_struct Tryz.underlying45 h2
      match xs, hxl, cs', hlen with
      | [y0, y1, y2, y3, y4, y5], _, [v0, v1, v2, v3, v4, v5, v6, v7, v8], _ =>
        have g0 := hfs 0 _ rfl
        have g1 := hfs 1 _ rfl
        have g2 := hfs 2 _ rfl
        have g3 := hfs 3 _ rfl
        have g4 := hfs 4 _ rfl
        have g5 := hfs 5 _ rfl
        simp [Tryz.cellsI, Tryz.cellsB, Tryz.cellsN] at g0 g1 g2 g3 g4 g5
        obtain ⟨z0, e0, _⟩ := DataW.trod_int Tryz.underlying3 g0
        obtain ⟨z1, e1, _⟩ := DataW.trod_int Tryz.underlying3 g1
        obtain ⟨z2, e2, _⟩ := DataW.trod_int Tryz.underlying3 g2
        obtain ⟨z3, e3, _⟩ := DataW.trod_int Tryz.underlying3 g3
        obtain ⟨z8, e8, _⟩ := DataW.trod_bool Tryz.underlying4 g5
        obtain ⟨xn, kn, _, _, _, hxn, hfn⟩ := DataW.trod_struct Tryz.underlying43 g4
        match xn, hxn with
        | [q0, q1, q2, q3], _ =>
          have n0 := hfn 0 _ rfl
          have n1 := hfn 1 _ rfl
          have n2 := hfn 2 _ rfl
          have n3 := hfn 3 _ rfl
          simp [Tryz.cellsI] at n0 n1 n2 n3
          obtain ⟨z4, e4, _⟩ := DataW.trod_int Tryz.underlying3 n0
          obtain ⟨z5, e5, _⟩ := DataW.trod_int Tryz.underlying3 n1
          obtain ⟨z6, e6, _⟩ := DataW.trod_int Tryz.underlying3 n2
          obtain ⟨z7, e7, _⟩ := DataW.trod_int Tryz.underlying3 n3
          simp at e0 e1 e2 e3 e4 e5 e6 e7 e8
          subst e0 e1 e2 e3 e4 e5 e6 e7 e8
          refine ⟨⟨z0, z1, z2, z3, z4, z5, z6, z7, z8⟩, fun j hj => ?_⟩
          have t0 := hcell j (by simpa using hj)
          rw [add_add] at t0
          rw [t0]
          simp
    have inh : Inhabited OpV := ⟨⟨0, 0, 0, 0, 0, 0, 0, 0, false⟩⟩
    obtain ⟨q, hq⟩ := choose_lt each
    refine ⟨len, some a, cap, q, rfl, fun hpos => ?_⟩
    obtain ⟨b, off, spot⟩ := a
    have h00 := hq 0 (by omega) 0 (by omega)
    have hspot : spot = none := by simpa [Addr.add] using World.cell?_spot (h00.trans rfl)
    subst hspot
    refine ⟨b, off, rfl, fun k hk j hj => ?_⟩
    have := hq k (by omega) j hj
    simpa [add_plain, Nat.add_assoc] using this
end
set_option maxHeartbeats 1600000 in
set_option maxRecDepth 100000 in
theorem poolAlone_lifted (os : Os) (started : os.Started) (H : Type) (enc : TypeId × Value → H) :
    ReturnsInHanded {} Tryz.checked os 3 .any (fun w args => (Rows.poolAloneSpec.pre enc Tryz.prog Tryz.f3 [] false w args ∧ laidMetH Tryz.prog laidThree w) ∧ sizedMet enc Tryz.prog Tryz.f3 (OpenSpec.ofChange Rows.poolAloneSpec) false w args)
      (Rows.poolAloneSpec.post enc Tryz.prog Tryz.f3 false true false false) := by
  refine returnsInHanded_of_change_and (C := Tryz.checked) (X := fun w _ => laidMetH Tryz.prog laidThree w) (fun _ _ _ hh h => h.of_heap hh) Tryz.own started (by kernel_rfl) Tryz.func3
    (ChangeSpec.witness_shaped (enc := enc) (C := Tryz.checked) (os := os) (X := fun w _ => laidMetH Tryz.prog laidThree w) false (World.doorLaid Tryz.prog 24 os) #[.int .i64 0, .int .i64 0, .slice none 0 0] 8 rfl (World.shaped_of_RefB (by kernel_rfl) (by kernel_rfl)) (by kernel_rfl) (by kernel_rfl) (by kernel_rfl) (door_met os _)) ?_
  intro W base args ds gs before hval0 hW _ _ _ _
  have hval : ∀ (j : Nat) t v, Tryz.f3.params[j]? = some t → args[j]? = some v → Value.okWide Tryz.prog W .any base t v := hval0
  have hW' := hW
  obtain ⟨p, q, hA0, hV, rfl, hfz, hnd⟩ := hW
  have hA : DataW.TrodAll enc Tryz.prog W 0 (fun _ => true) true Tryz.f3.params.toList args.toList ds p := hA0
  rw [Tryz.params3] at hA hval
  obtain ⟨v0, v1, v2, d0, d1, d2, p0, p1, p2, rfl, rfl, rfl, h0, h1, h2⟩ := trodAll_three hA
  obtain ⟨rfl, rfl⟩ := trodVars_none hV
  obtain ⟨x0, rfl, rfl, rfl, wx0⟩ := open_int Tryz.underlying3 (hval 0 3 v0 rfl rfl) h0
  obtain ⟨x1, rfl, rfl, rfl, wx1⟩ := open_int Tryz.underlying3 (hval 1 3 v1 rfl rfl) h1
  obtain ⟨N, hO⟩ := view_ops (hval 2 22 v2 rfl rfl) h2
  clear hA0 hval0 hA
  simp only [List.append_nil] at hW'
  have hlt : ∀ x ∈ p2, x.block < W.heap.size := fun x hx => hW'.lt x (by simpa using hx)
  refine (law_all hO x0 x1).mono fun e W' ⟨he, hb⟩ => ?_
  subst he
  refine ⟨_, rfl, _, _, _, [], p2, [], hW', ?_, ?_, ?_, ?_, fun h => by cases h⟩
  · exact trodAll_mk1 (shut_bool Tryz.underlying4 _)
  · exact trodAll_mk3 (shut_int Tryz.underlying3 wx0) (shut_int Tryz.underlying3 wx1) (Below.trod Tryz.laidOut (by kernel_rfl) (of_decide_eq_true (by kernel_rfl)) h2 hb hlt)
  · rfl
  · exact hb.frame _
theorem poolAlone_holds : Rows.PoolAloneSaid :=
  OpenClaim.holds_of_wide 3 Tryz.f3 rfl rfl rfl rfl rfl rfl rfl ⟨rfl, rfl, rfl, rfl, rfl⟩ rfl rfl rfl rfl rfl (by kernel_rfl) Tryz.func3 (by kernel_rfl)
    (of_decide_eq_true (by kernel_rfl)) (by unfold Func.isWrapper; rw [if_neg (of_decide_eq_false (by kernel_rfl))]; exact ⟨rfl, rfl⟩)
    (fun os started H enc _ => poolAlone_lifted os started H enc)
theorem poolAlone_card : Rows.PoolAloneCardSaid :=
  Claim7.holds_tied_plain_at .later [] [.data, .data, .data] true (true, "32c1a0ba286a18b112cc31431e9937bef10d3d457f86a9ecff60687229aa37b5") false
    poolAlone_holds (fun _ h => by cases h) (by kernel_rfl) (fun _ h => by cases h) poolAlone_row_tie rfl ⟨rfl, rfl⟩ (by kernel_rfl) rfl
    (fun f fn hf hfn => by
      obtain rfl : f = 3 := Option.some.inj ((show Tryz.prog.funcNamed "skein/skeinlaw10.PoolAlone" = some 3 by kernel_rfl).symm.trans hf) |>.symm
      obtain rfl : fn = Tryz.f3 := (Option.some.inj (Tryz.func3.symm.trans hfn)).symm
      exact ⟨by kernel_rfl, fun j t ht => by
        rw [Tryz.params3] at ht
        have hm : t ∈ [3, 3, 22] := by simpa using Array.mem_of_getElem? ht
        have hall : ([3, 3, 22].all fun u => !Tryz.prog.wantsStandIn u) = true := by kernel_rfl
        exact (show Tryz.prog.wantsStandIn t = false by simpa using List.all_eq_true.1 hall t hm)⟩)
    (by kernel_rfl)
#print axioms poolAlone_card
end Go.Proofs.YtjbhnpofdafmbaaGreatDoor

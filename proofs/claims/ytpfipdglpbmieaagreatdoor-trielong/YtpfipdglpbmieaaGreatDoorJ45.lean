/- TrieLong answers true at every input: a long row of changes of one map, whose old nodes are given back at once: what is told is a plain map's, the slots in use are its nodes. Conditions: the table of bits starts as the program's text lays it (the card ties it). -/
import Derived.Test.YtpfipdglpbmieaaGreatDoorRows
import Derived.Test.YtpfipdglpbmieaaGreatDoorTie
import Derived.Test.YtpfipdglpbmieaaGreatDoorCards
import Derived.Test.YtpfipdglpbmieaaGreatDoorJ38
import Derived.Test.YtpfipdglpbmieaaGreatDoorJ44
import Derived.ProofKit
import Derived.LaidMore
import Derived.OpenShut
import Derived.Stop.Joined
import Derived.SizedLaws
import Derived.Lib.LaidTab
import Derived.SevenTiedAt
namespace Go.Proofs.YtpfipdglpbmieaaGreatDoor
open Go.ChangeShapes Go.WideShapes Go.ChangeAt Go.WideMaps Go.WideElems Go.RowKit
theorem Tryz.own : ownKnob Tryz.prog.godebug = none := by kernel_rfl
theorem gBit : Tryz.prog.globalNamed "skein/word.bitAt" = some 0 := by kernel_rfl
theorem tBit : (Tryz.prog.globals[0]?).map (·.type) = some 209 := by kernel_rfl
theorem cellsIntR : Tryz.prog.cellsOf 3 = 1 := by kernel_rfl
theorem cellsBit : Tryz.prog.cellsOf 209 = 32 := by kernel_rfl
def laidOne : List (String × DataW Unit) := [("skein/word.bitAt", Rows.laid_skein_word_bitAt)]
def zsB : List Int := (List.range 32).map p2
theorem zs_at (i : Nat) (h : i < 32) : zsB[i]? = some (p2 i) := by
 simp [zsB, h]
theorem laid_zs : laidOne = [("skein/word.bitAt", Lib.tabData .i64 zsB)] := by kernel_rfl
theorem tab_of_laid {W : World} (h : laidMetH Tryz.prog laidOne W) : Tab W := by
 rw [MakeChecks.laidMetH_plain _ _ _ (by kernel_rfl)] at h
 rw [laid_zs] at h
 have ht := Lib.tabIs_of_head gBit tBit Tryz.underlying209 Tryz.underlying3 cellsIntR cellsBit h
 intro i hi
 have hc := World.var?_cell gBit ht i
 rw [hc]
 simp [zs_at i hi]
theorem door_met (os : Os) (args : Array Value) : laidMetH Tryz.prog laidOne ((World.doorLaid Tryz.prog 1103 os).forCall (fun _ _ => 0) ⟨#[], args, []⟩).memory :=
 laidMetH_of_parts3 (fuel := 8) (laidMet_of_run' 8 (by kernel_rfl) (by kernel_rfl)) (by kernel_rfl) (by kernel_rfl)
theorem Tab.pos {w : World} (hT : Tab w) : 0 < w.heap.size := by
 have h := hT 0 (by omega)
 apply Classical.byContradiction
 intro hn
 rw [World.cell?] at h
 have : w.heap[0]? = none := Array.getElem?_eq_none (by omega)
 simp [this] at h
theorem wLong (begins count keys : Int) (w : World) (hTab : Tab w) : Calls Tryz.prog 3 #[.int .i64 begins, .int .i64 count, .int .i64 keys] w fun e w' => e = .returned (.bool true) ∧ Turned [] w w' := by
 have hK := cKnown hTab hTab.pos
 by_cases hin : 0 ≤ begins ∧ begins < 2147483648 ∧ count ≤ 4000 ∧ 1 ≤ keys ∧ keys ≤ 500
 ·exact cLong poolLawsZ trieLaws (fun x n h1 h2 h3 => poolLawsZ.new x n h1 h2 h3) hTab hTab.pos hK begins count keys hin.1 hin.2.1 hin.2.2.1 hin.2.2.2.1 hin.2.2.2.2
 ·have HK : Hid (Calls Tryz.prog 4 #[] w fun e w' => e = .returned (.bool true) ∧ Turned [] w w') := hK
  clear hK
  rcases (by omega : begins < 0 ∨ (¬ begins < 0 ∧ 2147483648 ≤ begins) ∨ (¬ begins < 0 ∧ ¬ 2147483648 ≤ begins ∧ 4000 < count) ∨ (¬ begins < 0 ∧ ¬ 2147483648 ≤ begins ∧ ¬ 4000 < count ∧ keys < 1) ∨ (¬ begins < 0 ∧ ¬ 2147483648 ≤ begins ∧ ¬ 4000 < count ∧ ¬ keys < 1 ∧ 500 < keys)) with h | ⟨h1, h⟩ | ⟨h1, h2, h⟩ | ⟨h1, h2, h3, h⟩ | ⟨h1, h2, h3, h4, h⟩
  all_goals
   clear hin
   go_enter Tryz.func3, Tryz.ntmps3
   go_wp2_with (go_at_call 4; refine HK.out.mono ?_; rintro e w1 ⟨rfl, ht1⟩; have HT1 : Hid _ := ht1; clear ht1)
   go_ret
   exact ⟨rfl, HT1.out⟩
set_option maxHeartbeats 1600000 in
set_option maxRecDepth 100000 in
theorem trieLong_lifted (os : Os) (started : os.Started) (H : Type) (enc : TypeId × Value → H) :
  ReturnsInHanded {} Tryz.checked os 3 .any (fun w args => (Rows.trieLongSpec.pre enc Tryz.prog Tryz.f3 [] false w args ∧ laidMetH Tryz.prog laidOne w) ∧ sizedMet enc Tryz.prog Tryz.f3 (OpenSpec.ofChange Rows.trieLongSpec) false w args)
   (Rows.trieLongSpec.post enc Tryz.prog Tryz.f3 false true false false) := by
 refine returnsInHanded_of_change_and (C := Tryz.checked) (X := fun w _ => laidMetH Tryz.prog laidOne w) (fun _ _ _ hh h => h.of_heap hh) Tryz.own started (by kernel_rfl) Tryz.func3
  (ChangeSpec.witness_shaped (enc := enc) (C := Tryz.checked) (os := os) (X := fun w _ => laidMetH Tryz.prog laidOne w) false (World.doorLaid Tryz.prog 1103 os) #[.int .i64 0, .int .i64 0, .int .i64 0] 8 rfl (World.shaped_of_RefB (by kernel_rfl) (by kernel_rfl)) (by kernel_rfl) (by kernel_rfl) (by kernel_rfl) (door_met os _)) ?_
 intro W base args ds gs before hval0 hW _ _ hL _
 have hval : ∀ (j : Nat) t v, Tryz.f3.params[j]? = some t → args[j]? = some v → Value.okWide Tryz.prog W .any base t v := hval0
 have hW' := hW
 obtain ⟨p, q, hA0, hV, rfl, hfz, hnd⟩ := hW
 have hA : DataW.TrodAll enc Tryz.prog W 0 (fun _ => true) true Tryz.f3.params.toList args.toList ds p := hA0
 rw [Tryz.params3] at hA hval
 obtain ⟨v0, v1, v2, d0, d1, d2, p0, p1, p2, rfl, rfl, rfl, h0, h1, h2⟩ := trodAll_three hA
 obtain ⟨rfl, rfl⟩ := trodVars_none hV
 obtain ⟨x0, rfl, rfl, rfl, wx0⟩ := open_int Tryz.underlying3 (hval 0 3 v0 rfl rfl) h0
 obtain ⟨x1, rfl, rfl, rfl, wx1⟩ := open_int Tryz.underlying3 (hval 1 3 v1 rfl rfl) h1
 obtain ⟨x2, rfl, rfl, rfl, wx2⟩ := open_int Tryz.underlying3 (hval 2 3 v2 rfl rfl) h2
 clear hA0 hval0 hA
 simp only [List.append_nil] at hW'
 refine (wLong x0 x1 x2 W (tab_of_laid hL)).mono fun e W' ⟨he, ht⟩ => ?_
 have hb : Below W.heap.size W W' := ht.below (Below.refl _ _) (by simp) (Nat.le_refl _)
 subst he
 refine ⟨_, rfl, _, _, _, [], [], [], hW', ?_, ?_, ?_, ?_, fun h => by cases h⟩
 ·exact trodAll_mk1 (shut_bool Tryz.underlying4 _)
 ·exact trodAll_mk3 (shut_int Tryz.underlying3 wx0) (shut_int Tryz.underlying3 wx1) (shut_int Tryz.underlying3 wx2)
 ·rfl
 ·exact hb.frame _
theorem trieLong_holds : Rows.TrieLongSaid :=
 OpenClaim.holds_of_wide 3 Tryz.f3 rfl rfl rfl rfl rfl rfl rfl ⟨rfl, rfl, rfl, rfl, rfl⟩ rfl rfl rfl rfl rfl (by kernel_rfl) Tryz.func3 (by kernel_rfl)
  (of_decide_eq_true (by kernel_rfl)) (by unfold Func.isWrapper; rw [if_neg (of_decide_eq_false (by kernel_rfl))]; exact ⟨rfl, rfl⟩)
  (fun os started H enc _ => trieLong_lifted os started H enc)
theorem trieLong_card : Rows.TrieLongCardSaid :=
 Claim7.holds_tied_plain_at .later [] [.called] true (true, "6cb482782380a34e08b5c6dd49bd3a4f6ec5d37b67d908c3aaa51af20f75200d") true
  trieLong_holds (fun _ h => by cases h) (by kernel_rfl) (fun _ h => by cases h) trieLong_row_tie rfl ⟨rfl, rfl⟩ (by kernel_rfl) rfl
  (fun f fn hf hfn => by
   obtain rfl : f = 3 := Option.some.inj ((show Tryz.prog.funcNamed "skein/skeinlaw12.TrieLong" = some 3 by kernel_rfl).symm.trans hf) |>.symm
   obtain rfl : fn = Tryz.f3 := (Option.some.inj (Tryz.func3.symm.trans hfn)).symm
   exact ⟨by kernel_rfl, fun j t ht => by
    rw [Tryz.params3] at ht
    have hm : t ∈ [3, 3, 3] := by simpa using Array.mem_of_getElem? ht
    have hall : ([3, 3, 3].all fun u => !Tryz.prog.wantsStandIn u) = true := by kernel_rfl
    exact (show Tryz.prog.wantsStandIn t = false by simpa using List.all_eq_true.1 hall t hm)⟩)
  (by kernel_rfl)
#print axioms trieLong_card
end Go.Proofs.YtpfipdglpbmieaaGreatDoor

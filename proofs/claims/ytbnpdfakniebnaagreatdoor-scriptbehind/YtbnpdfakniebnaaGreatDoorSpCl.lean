/-
  slices.Clone of pairs by contract. (By the verifier; no statement.)
-/
import Derived.Test.YtbnpdfakniebnaaGreatDoorSpRA
namespace Go.Proofs.YtbnpdfakniebnaaGreatDoor
open Go.RowKit
set_option maxRecDepth 100000 in
set_option maxHeartbeats 3200000 in
theorem cClone {B : Nat} {w : World} {p : SlV} {ps : List (Int × Int)} (hp : OW 157 2 encP B w p.v ps) (hp0 : ps = [] → p.v = .slice none 0 0) (hn : ps.length ≤ 1000000000) :
    Calls Tryz.prog 223 #[p.v] w fun q w' => ∃ u : SlV, q = .returned u.v ∧ OW 157 2 encP w.heap.size w' u.v ps ∧ (ps = [] → u.v = .slice none 0 0) ∧ Turned [] w w' := by
  have hnn : ∀ w, (binOp .eql 23 (.slice none 0 0) (.slice none 0 0)).run Tryz.prog w = .ok (.bool true) w := fun _ => by kernel_rfl
  have hns : ∀ (g n c : Nat) (w : World), (binOp .eql 23 (.slice (some ⟨g, 0, none⟩) n c) (.slice none 0 0)).run Tryz.prog w = .ok (.bool false) w := fun _ _ _ _ => by kernel_rfl
  by_cases h0 : ps = []
  · rw [hp0 h0]
    subst h0
    go_enter Tryz.func223, Tryz.ntmps223
    go_wp2
    go_ret
    exact ⟨nilS, rfl, OW.nil _ _ _ _ _, ⟨rfl, rfl, rfl⟩, Turned.refl _ _⟩
  · obtain ⟨g, c, hv⟩ := hp.at_ h0
    have HV : Hid (VW encP w (.slice (some ⟨g, 0, none⟩) ps.length c) ps) := by rw [Hid, ← hv]; exact hp.view
    have H0 : Hid (ps ≠ []) := h0
    rw [hv]
    clear hp hp0 h0 hv
    go_enter Tryz.func223, Tryz.ntmps223
    have hE : OW 157 2 encP w.heap.size (w.alloc (.cells #[] 157)) (.slice (some ⟨w.heap.size, 0, none⟩) 0 0) [] := ⟨rfl, .inr ⟨w.heap.size, 0, #[], rfl, Nat.le_refl _, blk_new _ _, Nat.le_refl _, Nat.zero_le _, rfl, rfl⟩⟩
    go_wp2_with (at_builtin; refine wpList_apO elP enP rfl _ _ rfl rfl hE rfl (HV.out.still ((Turned.refl [] _).alloc _)) (by simp; omega) (by simp) ?_; intro v2 w2 ho ht _; obtain ⟨a2, c2, rfl⟩ := ho.slice; have HO : Hid _ := ho; have HT : Hid _ := ht; clear ho ht)
    go_ret
    exact ⟨⟨a2, _, c2⟩, rfl, HO.out, fun h => absurd h H0.out, ((Turned.refl [] w).alloc _).inner HT.out (fun x hx => .inr (by have h1 : x ∈ [w.heap.size] := hx; rw [List.mem_singleton] at h1; omega))⟩
end Go.Proofs.YtbnpdfakniebnaaGreatDoor

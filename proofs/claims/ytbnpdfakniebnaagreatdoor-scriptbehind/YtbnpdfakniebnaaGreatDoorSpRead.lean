/-
  The reader's read by contract. (By the verifier; no statement.)
-/
import Derived.Test.YtbnpdfakniebnaaGreatDoorSpOk
import Derived.Test.YtbnpdfakniebnaaGreatDoorSpNewL
namespace Go.Proofs.YtbnpdfakniebnaaGreatDoor
open Go.RowKit
/-- The word's deed, whichever it is. -/
theorem deed_any {r : RS} {x : Bs} {l : Ln} (hO : r.Ok) (hl : l.ws.length ≤ 1000000000) : (deedF r.tag x = none ∧ r.deed x l = none) ∨ ∃ fn y, deedF r.tag x = some fn ∧ r.deed x l = some y ∧ (∀ args w, (callFunc fn args).run Tryz.prog w = .ok (.enter fn args) w) ∧ ∀ W0 w rb lb m mb, RL W0 w rb lb x r m mb l → Calls Tryz.prog fn #[LP rb, LP lb] w (DP W0 rb lb x y) := by
  have hcall : ∀ k, kindB x = k → ∀ W0 w rb lb m mb, RL W0 w rb lb x r m mb l → Calls Tryz.prog dCall #[LP rb, LP lb] w (DP W0 rb lb x (r.call k l)) := fun k hk W0 w rb lb m mb h => by
    subst hk
    exact cCallR h hO hl
  have htags : r.tag = 0 ∨ r.tag = 1 ∨ ∃ n, r.tag = n + 2 := by
    rcases Nat.lt_or_ge r.tag 2 with h | h
    · exact (show r.tag = 0 ∨ r.tag = 1 by omega).elim .inl (fun h => .inr (.inl h))
    · exact .inr (.inr ⟨r.tag - 2, by omega⟩)
  rcases htags with htag | htag | ⟨n, htag⟩ <;> simp only [deedF, RS.deed, htag]
  · by_cases h1 : x = wParts
    · rw [if_pos h1, if_pos h1]
      exact .inr ⟨_, _, rfl, rfl, fun _ _ => by kernel_rfl, fun W0 w rb lb m mb h => cSetup h⟩
    · rw [if_neg h1, if_neg h1]
      exact .inl ⟨rfl, rfl⟩
  · by_cases hk : kindB x ≠ 0
    · rw [if_pos hk, if_pos hk]
      exact .inr ⟨_, _, rfl, rfl, fun _ _ => by kernel_rfl, hcall _ rfl⟩
    rw [if_neg hk, if_neg hk]
    by_cases h1 : x = wSource
    · subst h1
      exact .inr ⟨_, _, rfl, rfl, fun _ _ => by kernel_rfl, fun W0 w rb lb m mb h => cSource h hO hl⟩
    by_cases h2 : x = wWorker
    · subst h2
      exact .inr ⟨_, _, rfl, rfl, fun _ _ => by kernel_rfl, fun W0 w rb lb m mb h => cWorker h hO⟩
    by_cases h3 : x = wTurns
    · subst h3
      exact .inr ⟨_, _, rfl, rfl, fun _ _ => by kernel_rfl, fun W0 w rb lb m mb h => cTurns h hO hl⟩
    by_cases h4 : x = wHalt
    · subst h4
      exact .inr ⟨_, _, rfl, rfl, fun _ _ => by kernel_rfl, fun W0 w rb lb m mb h => cHalts h hO hl⟩
    by_cases h5 : x = wUntil
    · subst h5
      exact .inr ⟨_, _, rfl, rfl, fun _ _ => by kernel_rfl, fun W0 w rb lb m mb h => cUntil h⟩
    by_cases h6 : x = wRepeat
    · subst h6
      exact .inr ⟨_, _, rfl, rfl, fun _ _ => by kernel_rfl, fun W0 w rb lb m mb h => cRepeat h⟩
    · rw [if_neg h1, if_neg h2, if_neg h3, if_neg h4, if_neg h5, if_neg h6, if_neg h6, if_neg h5, if_neg h4, if_neg h3, if_neg h2, if_neg h1]
      exact .inl ⟨rfl, rfl⟩
  · by_cases hk : kindB x ≠ 0
    · rw [if_pos hk, if_pos hk]
      exact .inr ⟨_, _, rfl, rfl, fun _ _ => by kernel_rfl, hcall _ rfl⟩
    rw [if_neg hk, if_neg hk]
    by_cases h1 : x = wEnd
    · rw [if_pos h1, if_pos h1]
      exact .inr ⟨_, _, rfl, rfl, fun _ _ => by kernel_rfl, fun W0 w rb lb m mb h => cEndR h hO (hO.tg (by omega) (by omega))⟩
    · rw [if_neg h1, if_neg h1]
      exact .inl ⟨rfl, rfl⟩
/-- The reader between two lines. -/
structure RZ (W0 w : World) (rb : Nat) (r : RS) (m : RM) (mb : Nat) : Prop where
  tu : Turned [rb] W0 w
  blk : w.heap[rb]? = some (.cells (rdCells r m mb) 96 (0, 0))
  rp : RP W0.heap.size w m r.source r.turns r.halt r.work r.body
  map : DM w mb (deedF r.tag)
  tab : TabC W0 ∧ rb ≠ 1 ∧ rb ≠ 4
  lib : LibW W0
  ok : r.Ok
section
variable {W0 w w1 : World} {rb lb : Nat} {f : Bs} {r : RS} {m : RM} {mb : Nat} {s : Ln}
theorem RZ.still (h : RZ W0 w rb r m mb) (h1 : Turned [] w w1) : RZ W0 w1 rb r m mb :=
  ⟨h.tu.inner h1 (by simp), h1.heap h.blk (by simp), h.rp.still h1, GM.keep h.map h1 (by simp), h.tab, h.lib, h.ok⟩
theorem RZ.rl (h : RZ W0 w rb r m mb) (h1 : LnAt w lb f s) (hb : W0.heap.size ≤ lb) : RL W0 w rb lb f r m mb s := ⟨h.tu, h.blk, h.rp, h.map, h1, hb, h.tab⟩
theorem RL.rz (h : RL W0 w rb lb f r m mb s) (hl : LibW W0) (hO : r.Ok) : RZ W0 w rb r m mb := ⟨h.tu, h.blk, h.rp, h.map, h.tab, hl, hO⟩
theorem RZ.at (h : RZ W0 w rb r m mb) (i : Nat) (v : Value) (hv : (rdCells r m mb)[i]? = some v) : rb < w.heap.size ∧ w.cell? ⟨rb, i, none⟩ = some v ∧ w.frozen? ⟨rb, i, none⟩ = false :=
  ⟨lt_of_heap h.blk, (cell_at h.blk i).trans hv, froz_at h.blk i⟩
set_option maxRecDepth 100000 in
set_option maxHeartbeats 6400000 in
theorem cRead (h : RZ W0 w rb r m mb) {t : Bs} (ht : t.length ≤ 1000000000) : Calls Tryz.prog 31 #[LP rb, sV t] w fun q w' => q = .returned (.int .i64 (r.read t).2) ∧ Turned [rb] W0 w' ∧ ((r.read t).2 = 0 → ∃ m' mb', RZ W0 w' rb (r.read t).1 m' mb') := by
  have HZ0 : Hid _ := h
  have hnl := cNewLine (h.lib.keep h.tu (by rw [List.mem_singleton]; exact h.tab.2.2.symm)) ht
  have hwl := wordsB_len t
  have HE : Hid (r.read t = match wordsB t with | [] => (r, 0) | w :: ws => match r.deed w ⟨ws, 0⟩ with | none => (r, 220) | some x => (x.1, x.2.err)) := by
    rw [Hid, RS.read]
    rfl
  clear h
  cases hW : wordsB t with
  | nil =>
    have HE2 : Hid (r.read t = (r, 0)) := by rw [Hid, HE.out, hW]
    rw [hW] at hnl
    clear HE hwl hW
    rw [HE2.out]
    go_enter Tryz.func31, Tryz.ntmps31
    go_wp2_with (go_at_call 85; refine hnl.mono ?_; rintro r1 w1 ⟨lb, rfl, h1, h2, h3, -⟩; clear hnl; have h4 := h3 rfl; have HT : Hid _ := h1; have l1 := lt_of_heap h4; have l2 : w1.cell? ⟨lb, 0, none⟩ = some (sV []) := (cell_at h4 0).trans rfl; clear h1 h2 h3 h4)
    go_ret
    exact ⟨rfl, HZ0.out.tu.inner HT.out (by simp), fun _ => ⟨m, mb, HZ0.out.still HT.out⟩⟩
  | cons x ws =>
    have hwl2 : ws.length ≤ 1000000000 := by
      rw [hW] at hwl
      simp at hwl
      omega
    rw [hW] at hnl
    have HE1 : Hid (r.read t = match r.deed x ⟨ws, 0⟩ with | none => (r, 220) | some x => (x.1, x.2.err)) := by rw [Hid, HE.out, hW]
    clear HE hwl hW
    have hzf : ∀ W, (zeroValue 154).run Tryz.prog W = .ok .nilFunc W := zFun
    rcases deed_any HZ0.out.ok (x := x) (l := ⟨ws, 0⟩) hwl2 with ⟨d1, d2⟩ | ⟨fn, y, d1, d2, hcf, hcall⟩
    · have HE2 : Hid (r.read t = (r, 220)) := by rw [Hid, HE1.out, d2]
      have HD1 : Hid _ := d1
      clear HE1 hwl2 d1 d2
      rw [HE2.out]
      go_enter Tryz.func31, Tryz.ntmps31
      go_wp2_with (go_at_call 85; refine hnl.mono ?_; rintro r1 w1 ⟨lb, rfl, h1, h2, -, h3⟩; clear hnl; obtain ⟨h4, h5⟩ := h3 x ws rfl; have HRL : Hid (RL W0 w1 rb lb x r m mb ⟨ws, 0⟩) := (HZ0.out.still h1).rl h5 (Nat.le_trans HZ0.out.tu.size h2); obtain ⟨b', o', c', l1, l2, -, -, -, -, -, -, -, -⟩ := h5.cells; have l3 : x.isEmpty = false := (by cases x with | nil => exact absurd rfl h4 | cons _ _ => rfl); obtain ⟨p0, p1, p2⟩ := HRL.out.at 10 (.map (some mb)) rfl; have hlk := GM.look (GM.keep HRL.out.map (Turned.refl [] w1).drew (by simp)) keyStr und_deeds (hzf _) x; rw [show (RG.F (r.rg m mb)) x = none from HD1.out] at hlk; clear h1 h2 h3 h5 hzf)
      go_region
      all_goals
        go_wp2
        go_ret
        exact ⟨rfl, HRL.out.tu.drew, fun h => by cases h⟩
    · have HE2 : Hid (r.read t = (y.1, y.2.err)) := by rw [Hid, HE1.out, d2]
      have HD1 : Hid _ := d1
      have HCF : Hid _ := hcf
      have HCA : Hid _ := hcall
      have HOK : Hid (y.2.err = 0 → y.1.Ok) := deed_ok HZ0.out.ok hwl2 rfl d2
      clear HE1 hwl2 d1 d2 hcf hcall
      rw [HE2.out]
      go_enter Tryz.func31, Tryz.ntmps31
      go_wp2_with (go_at_call 85; refine hnl.mono ?_; rintro r1 w1 ⟨lb, rfl, h1, h2, -, h3⟩; clear hnl; obtain ⟨h4, h5⟩ := h3 x ws rfl; have HRL : Hid (RL W0 w1 rb lb x r m mb ⟨ws, 0⟩) := (HZ0.out.still h1).rl h5 (Nat.le_trans HZ0.out.tu.size h2); obtain ⟨b', o', c', l1, l2, -, -, -, -, -, -, -, -⟩ := h5.cells; have l3 : x.isEmpty = false := (by cases x with | nil => exact absurd rfl h4 | cons _ _ => rfl); obtain ⟨p0, p1, p2⟩ := HRL.out.at 10 (.map (some mb)) rfl; have hlk := GM.look (GM.keep HRL.out.map (Turned.refl [] w1).drew (by simp)) keyStr und_deeds (hzf _) x; rw [show (RG.F (r.rg m mb)) x = some fn from HD1.out] at hlk; clear h1 h2 h3 h5 hzf)
      go_region
      all_goals
        go_wp2
        rw [HCF.out, Oper.upon_enter]
        refine (HCA.out _ _ _ _ _ _ (HRL.out.still (Turned.refl _ _).drew)).mono ?_
        rintro e z ⟨rfl, m', mb', hz⟩
        have HZ : Hid _ := hz
        obtain ⟨b2, o2, c2, k1, -, -, k2, -, -, -, -, -, -⟩ := hz.ln.cells
        clear hz hlk p0 p1 p2 l1 l2 l3
        go_wp2
        go_ret
        exact ⟨rfl, HZ.out.tu, fun he => ⟨m', mb', RL.rz HZ.out HZ0.out.lib (HOK.out he)⟩⟩
end
end Go.Proofs.YtbnpdfakniebnaaGreatDoor

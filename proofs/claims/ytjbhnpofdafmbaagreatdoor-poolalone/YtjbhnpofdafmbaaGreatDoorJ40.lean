/- The law's 'does', whole. -/
import Derived.Test.YtjbhnpofdafmbaaGreatDoorJ39
import Derived.Test.YtjbhnpofdafmbaaGreatDoorJ36
namespace Go.Proofs.YtjbhnpofdafmbaaGreatDoor
open Go.RowKit
theorem ev_some {a : Act} {s : Nat} {v : Value} (h : a.eval (.tmp s) = v) (hv : v ≠ undef) : a.tmps[s]? = some v := by
  simp only [Act.eval, Array.getD_eq_getD_getElem?] at h
  cases hx : a.tmps[s]? with
  | none => rw [hx] at h; exact absurd h.symm hv
  | some u => rw [hx] at h; exact congrArg some h
/-- The slots that live. -/
structure DF (b : PairB) (ob tb : Nat) (hh kind : Int) (a : Act) : Prop where
  size : a.tmps.size = 316
  defers : a.defers = []
  s0 : a.eval (.tmp 0) = pv b.x 0
  s3 : a.eval (.tmp 3) = pv ob 0
  s5 : a.eval (.tmp 5) = pv tb 0
  s6 : a.eval (.tmp 6) = vi hh
  s60 : a.eval (.tmp 60) = vi kind
section
variable {K : Act → World → Prop} {Q : Exit → Act → World → Prop} {a : Act} {w : World} {b : PairB} {ob tb : Nat} {hh kind : Int}
set_option maxRecDepth 100000 in
set_option maxHeartbeats 3200000 in
theorem does_t6 (hF : DF b ob tb hh kind a) (hEnd : ∀ a1, DF b ob tb hh kind a1 → a1.eval (.tmp 61) = .bool (kind == 1) → K a1 w) : (Code.region 6 (opsOf 6 Tryz.f6.body) false).wp Tryz.prog (Exit.then K Q) a w := by
  obtain ⟨cc, rfl, hcc⟩ := expand316 hF.size hF.defers
  have y0 : cc 0 = .pointer (some ⟨b.x, 0, none⟩) := (hcc 0).trans hF.s0
  have y3 : cc 3 = .pointer (some ⟨ob, 0, none⟩) := (hcc 3).trans hF.s3
  have y5 : cc 5 = .pointer (some ⟨tb, 0, none⟩) := (hcc 5).trans hF.s5
  have y6 : cc 6 = .int .i64 hh := (hcc 6).trans hF.s6
  have y60 : cc 60 = .int .i64 kind := (hcc 60).trans hF.s60
  clear hcc hF
  conv => arg 2; whnf
  unfold lit316
  simp only [y0, y3, y5, y6, y60]
  clear y0 y3 y5 y6 y60
  go_wp2
  exact hEnd _ ⟨rfl, rfl, rfl, rfl, rfl, rfl, rfl⟩ rfl
set_option maxRecDepth 100000 in
set_option maxHeartbeats 3200000 in
theorem does_t12 (hF : DF b ob tb hh kind a) (hEnd : ∀ a1, DF b ob tb hh kind a1 → a1.eval (.tmp 109) = .bool (kind == 2) → K a1 w) : (Code.region 12 (opsOf 12 Tryz.f6.body) false).wp Tryz.prog (Exit.then K Q) a w := by
  obtain ⟨cc, rfl, hcc⟩ := expand316 hF.size hF.defers
  have y0 : cc 0 = .pointer (some ⟨b.x, 0, none⟩) := (hcc 0).trans hF.s0
  have y3 : cc 3 = .pointer (some ⟨ob, 0, none⟩) := (hcc 3).trans hF.s3
  have y5 : cc 5 = .pointer (some ⟨tb, 0, none⟩) := (hcc 5).trans hF.s5
  have y6 : cc 6 = .int .i64 hh := (hcc 6).trans hF.s6
  have y60 : cc 60 = .int .i64 kind := (hcc 60).trans hF.s60
  clear hcc hF
  conv => arg 2; whnf
  unfold lit316
  simp only [y0, y3, y5, y6, y60]
  clear y0 y3 y5 y6 y60
  go_wp2
  exact hEnd _ ⟨rfl, rfl, rfl, rfl, rfl, rfl, rfl⟩ rfl
set_option maxRecDepth 100000 in
set_option maxHeartbeats 3200000 in
theorem does_t14 (hF : DF b ob tb hh kind a) (hEnd : ∀ a1, DF b ob tb hh kind a1 → a1.eval (.tmp 126) = .bool (kind == 3) → K a1 w) : (Code.region 14 (opsOf 14 Tryz.f6.body) false).wp Tryz.prog (Exit.then K Q) a w := by
  obtain ⟨cc, rfl, hcc⟩ := expand316 hF.size hF.defers
  have y0 : cc 0 = .pointer (some ⟨b.x, 0, none⟩) := (hcc 0).trans hF.s0
  have y3 : cc 3 = .pointer (some ⟨ob, 0, none⟩) := (hcc 3).trans hF.s3
  have y5 : cc 5 = .pointer (some ⟨tb, 0, none⟩) := (hcc 5).trans hF.s5
  have y6 : cc 6 = .int .i64 hh := (hcc 6).trans hF.s6
  have y60 : cc 60 = .int .i64 kind := (hcc 60).trans hF.s60
  clear hcc hF
  conv => arg 2; whnf
  unfold lit316
  simp only [y0, y3, y5, y6, y60]
  clear y0 y3 y5 y6 y60
  go_wp2
  exact hEnd _ ⟨rfl, rfl, rfl, rfl, rfl, rfl, rfl⟩ rfl
set_option maxRecDepth 100000 in
set_option maxHeartbeats 3200000 in
theorem does_t18 (hF : DF b ob tb hh kind a) (hEnd : ∀ a1, DF b ob tb hh kind a1 → a1.eval (.tmp 156) = .bool (kind == 4) → K a1 w) : (Code.region 18 (opsOf 18 Tryz.f6.body) false).wp Tryz.prog (Exit.then K Q) a w := by
  obtain ⟨cc, rfl, hcc⟩ := expand316 hF.size hF.defers
  have y0 : cc 0 = .pointer (some ⟨b.x, 0, none⟩) := (hcc 0).trans hF.s0
  have y3 : cc 3 = .pointer (some ⟨ob, 0, none⟩) := (hcc 3).trans hF.s3
  have y5 : cc 5 = .pointer (some ⟨tb, 0, none⟩) := (hcc 5).trans hF.s5
  have y6 : cc 6 = .int .i64 hh := (hcc 6).trans hF.s6
  have y60 : cc 60 = .int .i64 kind := (hcc 60).trans hF.s60
  clear hcc hF
  conv => arg 2; whnf
  unfold lit316
  simp only [y0, y3, y5, y6, y60]
  clear y0 y3 y5 y6 y60
  go_wp2
  exact hEnd _ ⟨rfl, rfl, rfl, rfl, rfl, rfl, rfl⟩ rfl
set_option maxRecDepth 100000 in
set_option maxHeartbeats 3200000 in
theorem does_t22 (hF : DF b ob tb hh kind a) (hEnd : ∀ a1, DF b ob tb hh kind a1 → a1.eval (.tmp 186) = .bool (kind == 5) → K a1 w) : (Code.region 22 (opsOf 22 Tryz.f6.body) false).wp Tryz.prog (Exit.then K Q) a w := by
  obtain ⟨cc, rfl, hcc⟩ := expand316 hF.size hF.defers
  have y0 : cc 0 = .pointer (some ⟨b.x, 0, none⟩) := (hcc 0).trans hF.s0
  have y3 : cc 3 = .pointer (some ⟨ob, 0, none⟩) := (hcc 3).trans hF.s3
  have y5 : cc 5 = .pointer (some ⟨tb, 0, none⟩) := (hcc 5).trans hF.s5
  have y6 : cc 6 = .int .i64 hh := (hcc 6).trans hF.s6
  have y60 : cc 60 = .int .i64 kind := (hcc 60).trans hF.s60
  clear hcc hF
  conv => arg 2; whnf
  unfold lit316
  simp only [y0, y3, y5, y6, y60]
  clear y0 y3 y5 y6 y60
  go_wp2
  exact hEnd _ ⟨rfl, rfl, rfl, rfl, rfl, rfl, rfl⟩ rfl
set_option maxRecDepth 100000 in
set_option maxHeartbeats 3200000 in
theorem does_t26 (hF : DF b ob tb hh kind a) (hEnd : ∀ a1, DF b ob tb hh kind a1 → a1.eval (.tmp 224) = .bool (kind == 6) → K a1 w) : (Code.region 26 (opsOf 26 Tryz.f6.body) false).wp Tryz.prog (Exit.then K Q) a w := by
  obtain ⟨cc, rfl, hcc⟩ := expand316 hF.size hF.defers
  have y0 : cc 0 = .pointer (some ⟨b.x, 0, none⟩) := (hcc 0).trans hF.s0
  have y3 : cc 3 = .pointer (some ⟨ob, 0, none⟩) := (hcc 3).trans hF.s3
  have y5 : cc 5 = .pointer (some ⟨tb, 0, none⟩) := (hcc 5).trans hF.s5
  have y6 : cc 6 = .int .i64 hh := (hcc 6).trans hF.s6
  have y60 : cc 60 = .int .i64 kind := (hcc 60).trans hF.s60
  clear hcc hF
  conv => arg 2; whnf
  unfold lit316
  simp only [y0, y3, y5, y6, y60]
  clear y0 y3 y5 y6 y60
  go_wp2
  exact hEnd _ ⟨rfl, rfl, rfl, rfl, rfl, rfl, rfl⟩ rfl
set_option maxRecDepth 100000 in
set_option maxHeartbeats 3200000 in
theorem does_t30 (hF : DF b ob tb hh kind a) (hEnd : ∀ a1, DF b ob tb hh kind a1 → a1.eval (.tmp 254) = .bool (kind == 7) → K a1 w) : (Code.region 30 (opsOf 30 Tryz.f6.body) false).wp Tryz.prog (Exit.then K Q) a w := by
  obtain ⟨cc, rfl, hcc⟩ := expand316 hF.size hF.defers
  have y0 : cc 0 = .pointer (some ⟨b.x, 0, none⟩) := (hcc 0).trans hF.s0
  have y3 : cc 3 = .pointer (some ⟨ob, 0, none⟩) := (hcc 3).trans hF.s3
  have y5 : cc 5 = .pointer (some ⟨tb, 0, none⟩) := (hcc 5).trans hF.s5
  have y6 : cc 6 = .int .i64 hh := (hcc 6).trans hF.s6
  have y60 : cc 60 = .int .i64 kind := (hcc 60).trans hF.s60
  clear hcc hF
  conv => arg 2; whnf
  unfold lit316
  simp only [y0, y3, y5, y6, y60]
  clear y0 y3 y5 y6 y60
  go_wp2
  exact hEnd _ ⟨rfl, rfl, rfl, rfl, rfl, rfl, rfl⟩ rfl
set_option maxRecDepth 100000 in
set_option maxHeartbeats 3200000 in
theorem does_t34 (hF : DF b ob tb hh kind a) (hEnd : ∀ a1, DF b ob tb hh kind a1 → a1.eval (.tmp 288) = .bool (kind == 8) → K a1 w) : (Code.region 34 (opsOf 34 Tryz.f6.body) false).wp Tryz.prog (Exit.then K Q) a w := by
  obtain ⟨cc, rfl, hcc⟩ := expand316 hF.size hF.defers
  have y0 : cc 0 = .pointer (some ⟨b.x, 0, none⟩) := (hcc 0).trans hF.s0
  have y3 : cc 3 = .pointer (some ⟨ob, 0, none⟩) := (hcc 3).trans hF.s3
  have y5 : cc 5 = .pointer (some ⟨tb, 0, none⟩) := (hcc 5).trans hF.s5
  have y6 : cc 6 = .int .i64 hh := (hcc 6).trans hF.s6
  have y60 : cc 60 = .int .i64 kind := (hcc 60).trans hF.s60
  clear hcc hF
  conv => arg 2; whnf
  unfold lit316
  simp only [y0, y3, y5, y6, y60]
  clear y0 y3 y5 y6 y60
  go_wp2
  exact hEnd _ ⟨rfl, rfl, rfl, rfl, rfl, rfl, rfl⟩ rfl
set_option maxRecDepth 100000 in
set_option maxHeartbeats 3200000 in
theorem does_t36 (hF : DF b ob tb hh kind a) (hEnd : ∀ a1, DF b ob tb hh kind a1 → a1.eval (.tmp 293) = .bool (kind == 10) → K a1 w) : (Code.region 36 (opsOf 36 Tryz.f6.body) false).wp Tryz.prog (Exit.then K Q) a w := by
  obtain ⟨cc, rfl, hcc⟩ := expand316 hF.size hF.defers
  have y0 : cc 0 = .pointer (some ⟨b.x, 0, none⟩) := (hcc 0).trans hF.s0
  have y3 : cc 3 = .pointer (some ⟨ob, 0, none⟩) := (hcc 3).trans hF.s3
  have y5 : cc 5 = .pointer (some ⟨tb, 0, none⟩) := (hcc 5).trans hF.s5
  have y6 : cc 6 = .int .i64 hh := (hcc 6).trans hF.s6
  have y60 : cc 60 = .int .i64 kind := (hcc 60).trans hF.s60
  clear hcc hF
  conv => arg 2; whnf
  unfold lit316
  simp only [y0, y3, y5, y6, y60]
  clear y0 y3 y5 y6 y60
  go_wp2
  exact hEnd _ ⟨rfl, rfl, rfl, rfl, rfl, rfl, rfl⟩ rfl
end
section
variable {Q : Exit → Act → World → Prop} {a : Act} {w w0 : World} {b : PairB} {hs_ : List Int} {s : PSt} {ob tb it : Nat} {o_ : OpV} {T : List Nat} {hh : Int}
set_option maxRecDepth 100000 in
set_option maxHeartbeats 3200000 in
theorem does_k8 (hs : a.tmps.size = 316) (hd : a.defers = []) (x0 : a.eval (.tmp 0) = pv b.x 0) (x5 : a.eval (.tmp 5) = pv tb 0) (hG : Good s it) (hf : hs_.length ≤ it) (hlt : ∀ y, y ∈ b.r.all → y < w0.heap.size) (hD : DS w0 b hs_ s s ob tb o_ T 0 w)
    (hQ : ∀ a' w', a'.defers = [] → a'.eval (.tmp 4) = .bool true → DPost w0 b s it w' → Q .ret a' w') : (atc Tryz.f6.body [1, 1, 1, 1, 0, 1, 0, 1, 1, 1, 1, 1, 1, 1, 1, 1, 1, 1, 1, 1, 1, 1, 0]).wp Tryz.prog Q a w := by
  have H1 := cLLooks hD hG.ok (by omega) hlt
  obtain ⟨cc, rfl, hcc⟩ := expand316 hs hd
  have y0 : cc 0 = .pointer (some ⟨b.x, 0, none⟩) := (hcc 0).trans x0
  have y5 : cc 5 = .pointer (some ⟨tb, 0, none⟩) := (hcc 5).trans x5
  clear hcc x0 x5 hs hd hD
  conv => arg 2; whnf
  unfold lit316
  simp only [y0, y5]
  clear y0 y5
  go_wp2_with (go_at_call 31; refine H1.mono ?_; rintro e w1 ⟨rfl, T1, d1⟩; have HD1 : Hid _ := d1; clear d1 H1)
  exact hQ _ _ rfl rfl (HD1.out.post hG.more hf rfl)
theorem DF.rest {kind : Int} (h : DF b ob tb hh kind a) : a.tmps.size = 316 ∧ a.defers = [] := ⟨h.size, h.defers⟩
set_option maxRecDepth 100000 in
set_option maxHeartbeats 3200000 in
theorem does_rest (hs : a.tmps.size = 316) (hd : a.defers = []) (x0 : a.eval (.tmp 0) = pv b.x 0) (x3 : a.eval (.tmp 3) = pv ob 0) (x5 : a.eval (.tmp 5) = pv tb 0) (x6 : a.eval (.tmp 6) = vi hh) (hG : Good s it) (hit : it ≤ 1000) (hf : hs_.length ≤ it) (hlt : ∀ y, y ∈ b.r.all → y < w0.heap.size) (hD : DS w0 b hs_ s s ob tb o_ T 0 w)
    (hQ : ∀ a' w', a'.defers = [] → a'.eval (.tmp 4) = .bool true → DPost w0 b s it w' → Q .ret a' w') : (atc Tryz.f6.body [1, 1, 1, 1]).wp Tryz.prog Q a w := by
  refine (show ((((Code.region 5 (opsOf 5 Tryz.f6.body) false)).seq (.block 0 (atc Tryz.f6.body [1, 1, 1, 1, 0, 1, 0]))).seq (atc Tryz.f6.body [1, 1, 1, 1, 1])).wp Tryz.prog Q a w from ?_)
  refine wp_seq ?_
  refine wp_seq ?_
  have hk : w.cell? ⟨ob, 0, none⟩ = some (.int .i64 o_.kind) := (cell_at hD.op 0).trans (by simp)
  have first : ∀ {K : Act → World → Prop} {Q : Exit → Act → World → Prop}, (∀ a1, DF b ob tb hh o_.kind a1 → K a1 w) → ((Code.region 5 (opsOf 5 Tryz.f6.body) false)).wp Tryz.prog (Exit.then K Q) a w := by
    intro K Q hEnd
    obtain ⟨cc, rfl, hcc⟩ := expand316 hs hd
    have y0 : cc 0 = .pointer (some ⟨b.x, 0, none⟩) := (hcc 0).trans x0
    have y3 : cc 3 = .pointer (some ⟨ob, 0, none⟩) := (hcc 3).trans x3
    have y5 : cc 5 = .pointer (some ⟨tb, 0, none⟩) := (hcc 5).trans x5
    have y6 : cc 6 = .int .i64 hh := (hcc 6).trans x6
    clear hcc x0 x3 x5 x6 hs hd hD hQ
    conv => arg 2; whnf
    unfold lit316
    simp only [y0, y3, y5, y6]
    clear y0 y3 y5 y6
    go_wp2
    exact ⟨rfl, rfl, rfl, rfl, rfl, rfl, rfl⟩
  refine first ?_
  clear first x0 x3 x5 x6 hs hd hk
  intro a1 F1
  refine wp_block ?_
  refine (show (((Code.region 6 (opsOf 6 Tryz.f6.body) false)).seq (.cond (.tmp 61) (atc Tryz.f6.body [1, 1, 1, 1, 0, 1, 0, 1, 0]) (atc Tryz.f6.body [1, 1, 1, 1, 0, 1, 0, 1, 1]))).wp Tryz.prog _ _ w from ?_)
  refine wp_seq ?_
  refine does_t6 F1 ?_
  clear F1
  intro a2 F2 e1
  by_cases c1 : o_.kind = 1
  · refine wp_cond_true (e1.trans (by simp [c1])) ?_
    exact does_k1 F2.size F2.defers F2.s0 F2.s3 F2.s5 hG hit hf hD (fun a' w' p1 p2 p3 => hQ a' w' p1 p2 p3)
  refine wp_cond_false (e1.trans (by simp [c1])) ?_
  clear e1
  refine (show (((Code.region 12 (opsOf 12 Tryz.f6.body) false)).seq (.cond (.tmp 109) (atc Tryz.f6.body [1, 1, 1, 1, 0, 1, 0, 1, 1, 1, 0]) (atc Tryz.f6.body [1, 1, 1, 1, 0, 1, 0, 1, 1, 1, 1]))).wp Tryz.prog _ _ w from ?_)
  refine wp_seq ?_
  refine does_t12 F2 ?_
  clear F2
  intro a3 F3 e2
  by_cases c2 : o_.kind = 2
  · refine wp_cond_true (e2.trans (by simp [c2])) ?_
    exact does_k2 F3.size F3.defers F3.s0 F3.s5 F3.s6 hG hit hf hD (fun a' w' p1 p2 p3 => hQ a' w' p1 p2 p3)
  refine wp_cond_false (e2.trans (by simp [c2])) ?_
  clear e2
  refine (show (((Code.region 14 (opsOf 14 Tryz.f6.body) false)).seq (.cond (.tmp 126) (atc Tryz.f6.body [1, 1, 1, 1, 0, 1, 0, 1, 1, 1, 1, 1, 0]) (atc Tryz.f6.body [1, 1, 1, 1, 0, 1, 0, 1, 1, 1, 1, 1, 1]))).wp Tryz.prog _ _ w from ?_)
  refine wp_seq ?_
  refine does_t14 F3 ?_
  clear F3
  intro a4 F4 e3
  by_cases c3 : o_.kind = 3
  · refine wp_cond_true (e3.trans (by simp [c3])) ?_
    exact does_k3 F4.size F4.defers F4.s0 F4.s3 F4.s5 F4.s6 hG hit hf hD (fun a' w' p1 p2 p3 => hQ a' w' p1 p2 p3)
  refine wp_cond_false (e3.trans (by simp [c3])) ?_
  clear e3
  refine (show (((Code.region 18 (opsOf 18 Tryz.f6.body) false)).seq (.cond (.tmp 156) (atc Tryz.f6.body [1, 1, 1, 1, 0, 1, 0, 1, 1, 1, 1, 1, 1, 1, 0]) (atc Tryz.f6.body [1, 1, 1, 1, 0, 1, 0, 1, 1, 1, 1, 1, 1, 1, 1]))).wp Tryz.prog _ _ w from ?_)
  refine wp_seq ?_
  refine does_t18 F4 ?_
  clear F4
  intro a5 F5 e4
  by_cases c4 : o_.kind = 4
  · refine wp_cond_true (e4.trans (by simp [c4])) ?_
    exact does_k4 F5.size F5.defers F5.s0 F5.s3 F5.s5 F5.s6 hG hit hf hD (fun a' w' p1 p2 p3 => hQ a' w' p1 p2 p3)
  refine wp_cond_false (e4.trans (by simp [c4])) ?_
  clear e4
  refine (show (((Code.region 22 (opsOf 22 Tryz.f6.body) false)).seq (.cond (.tmp 186) (atc Tryz.f6.body [1, 1, 1, 1, 0, 1, 0, 1, 1, 1, 1, 1, 1, 1, 1, 1, 0]) (atc Tryz.f6.body [1, 1, 1, 1, 0, 1, 0, 1, 1, 1, 1, 1, 1, 1, 1, 1, 1]))).wp Tryz.prog _ _ w from ?_)
  refine wp_seq ?_
  refine does_t22 F5 ?_
  clear F5
  intro a6 F6 e5
  by_cases c5 : o_.kind = 5
  · refine wp_cond_true (e5.trans (by simp [c5])) ?_
    exact does_k5 F6.size F6.defers F6.s0 F6.s3 F6.s5 F6.s6 hG hit hf hD (fun a' w' p1 p2 p3 => hQ a' w' p1 p2 p3)
  refine wp_cond_false (e5.trans (by simp [c5])) ?_
  clear e5
  refine (show (((Code.region 26 (opsOf 26 Tryz.f6.body) false)).seq (.cond (.tmp 224) (atc Tryz.f6.body [1, 1, 1, 1, 0, 1, 0, 1, 1, 1, 1, 1, 1, 1, 1, 1, 1, 1, 0]) (atc Tryz.f6.body [1, 1, 1, 1, 0, 1, 0, 1, 1, 1, 1, 1, 1, 1, 1, 1, 1, 1, 1]))).wp Tryz.prog _ _ w from ?_)
  refine wp_seq ?_
  refine does_t26 F6 ?_
  clear F6
  intro a7 F7 e6
  by_cases c6 : o_.kind = 6
  · refine wp_cond_true (e6.trans (by simp [c6])) ?_
    exact does_k6 F7.size F7.defers F7.s0 F7.s3 F7.s5 F7.s6 hG hit hf hD (fun a' w' p1 p2 p3 => hQ a' w' p1 p2 p3)
  refine wp_cond_false (e6.trans (by simp [c6])) ?_
  clear e6
  refine (show (((Code.region 30 (opsOf 30 Tryz.f6.body) false)).seq (.cond (.tmp 254) (atc Tryz.f6.body [1, 1, 1, 1, 0, 1, 0, 1, 1, 1, 1, 1, 1, 1, 1, 1, 1, 1, 1, 1, 0]) (atc Tryz.f6.body [1, 1, 1, 1, 0, 1, 0, 1, 1, 1, 1, 1, 1, 1, 1, 1, 1, 1, 1, 1, 1]))).wp Tryz.prog _ _ w from ?_)
  refine wp_seq ?_
  refine does_t30 F7 ?_
  clear F7
  intro a8 F8 e7
  by_cases c7 : o_.kind = 7
  · refine wp_cond_true (e7.trans (by simp [c7])) ?_
    exact does_k7 F8.size F8.defers F8.s0 F8.s3 F8.s5 F8.s6 hG hit hf hD (fun a' w' p1 p2 p3 => hQ a' w' p1 p2 p3)
  refine wp_cond_false (e7.trans (by simp [c7])) ?_
  clear e7
  refine (show (((Code.region 34 (opsOf 34 Tryz.f6.body) false)).seq (.cond (.tmp 288) (atc Tryz.f6.body [1, 1, 1, 1, 0, 1, 0, 1, 1, 1, 1, 1, 1, 1, 1, 1, 1, 1, 1, 1, 1, 1, 0]) (atc Tryz.f6.body [1, 1, 1, 1, 0, 1, 0, 1, 1, 1, 1, 1, 1, 1, 1, 1, 1, 1, 1, 1, 1, 1, 1]))).wp Tryz.prog _ _ w from ?_)
  refine wp_seq ?_
  refine does_t34 F8 ?_
  clear F8
  intro a9 F9 e8
  by_cases c8 : o_.kind = 8
  · refine wp_cond_true (e8.trans (by simp [c8])) ?_
    exact does_k8 F9.size F9.defers F9.s0 F9.s5 hG hf hlt hD (fun a' w' p1 p2 p3 => hQ a' w' p1 p2 p3)
  refine wp_cond_false (e8.trans (by simp [c8])) ?_
  clear e8
  refine (show (((Code.region 36 (opsOf 36 Tryz.f6.body) false)).seq (.cond (.tmp 293) (atc Tryz.f6.body [1, 1, 1, 1, 0, 1, 0, 1, 1, 1, 1, 1, 1, 1, 1, 1, 1, 1, 1, 1, 1, 1, 1, 1, 0]) .skip)).wp Tryz.prog _ _ w from ?_)
  refine wp_seq ?_
  refine does_t36 F9 ?_
  clear F9
  intro a10 F10 e9
  by_cases c9 : o_.kind = 10
  · refine wp_cond_true (e9.trans (by simp [c9])) ?_
    exact does_k9 F10.size F10.defers F10.s0 F10.s3 F10.s5 hG hit hf hD (fun a' w' p1 p2 p3 => hQ a' w' p1 p2 p3)
  refine wp_cond_false (e9.trans (by simp [c9])) ?_
  clear e9
  refine wp_skip ?_
  show (atc Tryz.f6.body [1, 1, 1, 1, 1]).wp Tryz.prog Q _ w
  obtain ⟨cc, rfl, hcc⟩ := expand316 F10.size F10.defers
  have HP : Hid (DPost w0 b s it w) := hD.post hG.more hf rfl
  clear hcc F10 hD
  conv => arg 2; whnf
  unfold lit316
  go_wp2
  exact hQ _ _ rfl rfl HP.out
end
section
variable {w : World} {b : PairB} {s : PSt} {hs : List Int} {it : Nat}
theorem Pair.lt (h : Pair w b s hs it) : ∀ y, y ∈ b.F s.n → y < w.heap.size := fun y hy => by
  rcases List.mem_append.1 hy with e | e
  · rcases List.mem_cons.1 e with e | e
    · rw [e]
      exact lt_of_heap h.obj
    · rcases List.mem_append.1 e with e | e
      · exact h.rp.lt y e
      · obtain ⟨cur, hc⟩ := Row.obj h.row (by simpa using e)
        exact lt_of_heap hc
  · exact h.pa.lt y e
theorem Pair.start (h : Pair w b s hs it) {x : World} {ob tb : Nat} {o : OpV} (ht : Turned [] w x) (hop : x.heap[ob]? = some (.cells (opC o) 45 (0, 0))) (hth : Th [tb] x tb b.r.m 0) (htb : w.heap.size ≤ tb) : DS w b hs s s ob tb o [tb] 0 x :=
  ⟨ht.heap h.obj (by simp), hop, ⟨b.L, h.pa.keep ht (by simp), Wider.refl _ _⟩, h.rp.turned ht (by simp), hth, by
    have := h.rp.lt b.r.g (by simp [RB.all])
    simp
    omega, by simpa using htb, Row.keep h.row ht (by simp), h.gl, fun g hg => by
    obtain ⟨cur, hc⟩ := Row.obj h.row hg
    exact lt_of_heap hc, ht.mono (by simp)⟩
set_option maxRecDepth 100000 in
set_option maxHeartbeats 3200000 in
theorem cDoes (hP : Pair w b s hs it) (hit : it ≤ 1000) (o_ : OpV) : Calls Tryz.prog 6 #[.pointer (some ⟨b.x, 0, none⟩), .agg (opC o_)] w fun e w' => e = .returned (.bool true) ∧ DPost w b s it w' := by
  have hlt : ∀ y, y ∈ b.r.all → y < w.heap.size := fun y hy => hP.lt y (List.mem_append_left _ (List.mem_cons_of_mem _ (List.mem_append_left _ hy)))
  have hG := hP.good
  have hf := hP.few
  have hA := cRAlone (w.alloc (.cells (opC o_) 45)) b.r.m
  have c2 : (w.alloc (.cells (opC o_) 45)).cell? ⟨b.x, 2, none⟩ = some (.pointer (some ⟨b.r.m, 0, none⟩)) := (cell_at (blk_old hP.obj _) 2).trans (by simp)
  have hob := blk_new w (.cells (opC o_) 45)
  have HP : Hid _ := hP
  go_enter Tryz.func6, Tryz.ntmps6
  refine wp_seq_k fun K1 hK1 => ?_
  have HK1 : Hid _ := hK1
  clear hK1 hP
  go_wp2
  refine HK1.out _ _ ?_
  clear HK1 K1
  refine wp_seq_k fun K1 hK1 => ?_
  have HK1 : Hid _ := hK1
  clear hK1
  go_wp2_with (go_at_call 19; refine hA.mono ?_; rintro e w1 ⟨rfl, th1, t1⟩; have HTh : Hid _ := th1; have HT1 : Hid _ := t1; clear th1 t1 hA c2)
  refine HK1.out _ _ ?_
  clear HK1 K1
  have ho1 := HT1.out.heap hob (by simp)
  have hD := HP.out.start (tb := (w.alloc (.cells (opC o_) 45)).heap.size) (((Turned.refl [] w).alloc _).trans HT1.out) ho1 HTh.out (by simp)
  simp only [show (w.alloc (.cells (opC o_) 45)).heap.size = w.heap.size + 1 by simp] at hD ⊢
  have n1 := cell_at ho1 1
  simp at n1
  refine wp_seq_k fun K1 hK1 => ?_
  have HK1 : Hid _ := hK1
  clear hK1
  go_wp2
  refine HK1.out _ _ ?_
  clear HK1 K1
  refine wp_seq_k fun K1 hK1 => ?_
  have HR : Hid (∀ (a : Act) (hh : Int), a.tmps.size = 316 → a.defers = [] → a.eval (.tmp 0) = pv b.x 0 → a.eval (.tmp 3) = pv w.heap.size 0 → a.eval (.tmp 5) = pv (w.heap.size + 1) 0 → a.eval (.tmp 6) = vi hh → K1 a w1) := fun a hh h1 h2 h3 h4 h5 h6 => hK1 _ _ (does_rest h1 h2 h3 h4 h5 h6 hG hit hf hlt hD (fun a' w' d q4 hp => by
    have e4 := ev_some q4 (by simp [undef])
    refine bodyPost_ret (v := .bool true) ?_ d ⟨rfl, hp⟩
    simp [results, Tryz.results6, go_sem, e4]))
  have c3 := hD.c3
  have hrow := hD.row
  obtain ⟨la, lc, hla⟩ := Row.shape hrow
  rw [hla] at c3 hrow
  have hm : hs.length ≤ 1000 := by omega
  generalize o_.h = H at n1 
  have HRow : Hid _ := hrow
  clear hK1 hD hrow ho1 HT1 HTh hob HP
  generalize hml : hs.length = m at *
  rcases (by omega : 0 ≤ H ∨ (H < 0 ∧ -(m : Int) ≤ H) ∨ (H < 0 ∧ H < -(m : Int))) with h1 | ⟨h1, h2⟩ | ⟨h1, h2⟩
  · have d1 : decide (H < 0) = false := decide_eq_false (by omega)
    go_wp2
    exact HR.out _ H rfl rfl rfl rfl rfl rfl
  · have d1 : decide (H < 0) = true := decide_eq_true h1
    have d2 : decide (-(m : Int) ≤ H) = true := decide_eq_true h2
    obtain ⟨q, hq⟩ : ∃ q : Nat, -H - 1 = (q : Int) := ⟨(-H - 1).toNat, by omega⟩
    obtain ⟨gl, cap, cur, e, hgl, hcap⟩ := Row.form HRow.out (by omega)
    simp only [Value.slice.injEq, true_and] at e
    obtain ⟨rfl, rfl⟩ := e
    have hqm : q < m := by omega
    have hqi : (q : Int) < (m : Int) := by omega
    have cq := World.ownsRow.cellAt HRow.out q (by omega)
    obtain ⟨v, hv⟩ : ∃ v, hs[q]? = some v := ⟨hs[q]'(by omega), List.getElem?_eq_getElem (by omega)⟩
    rw [List.getElem?_map, hv] at cq
    simp only [Option.map_some] at cq
    clear hgl hv
    go_wp2
    exact HR.out _ v rfl rfl rfl rfl rfl rfl
  · have d1 : decide (H < 0) = true := decide_eq_true h1
    have d2 : decide (-(m : Int) ≤ H) = false := decide_eq_false (by omega)
    go_wp2
    exact HR.out _ H rfl rfl rfl rfl rfl rfl
end
end Go.Proofs.YtjbhnpofdafmbaaGreatDoor

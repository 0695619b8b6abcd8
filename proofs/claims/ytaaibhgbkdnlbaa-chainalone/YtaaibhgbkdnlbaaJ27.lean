/- ChainAlone: the check behind each call, a round. (Written by tools/gen/genchl2.py.) -/
import Derived.Test.YtaaibhgbkdnlbaaJ26
namespace Go.Proofs.Ytaaibhgbkdnlbaa
open Go.RowKit
section
variable {W x : World} {n p kb c c2 used it ct i : Nat} {now : Int} {G : Int → List Int} {R : List VRow} {N : List Nat} {ta : Option Addr} {Lc tc g rl rc ob B : Nat} {kd oa od : Int} {sa va : Option Addr} {sl sc vl vc : Nat} {old nh : Int} {r0 : VRow} {t : Bool} {l : List Int} {a : Act} {K : Act → World → Prop} {Q : Exit → Act → World → Prop}
/-- What is known of one version while it is looked at. -/
structure PhC (W : World) (n p kb c c2 used it : Nat) (now : Int) (G : Int → List Int) (R : List VRow) (rv vv : Value) (nb : Nat) (za zb zc zd : Int) (h : Int) (j : Nat) (u : Nat → Value) (x : World) : Prop where
  y : LY W x 1 n p kb c c2 used it now G (R.map VRow.v) []
  rows : VR W.heap.size x rv R
  vers : IR W.heap.size x vv ((R.map VRow.v).map (·.h))
  node : x.heap[nb]? = some (nodeO za zb zc zd)
  set : 1 ≤ j → IR 0 x (u 16) (G h)
theorem PhC.mv {W x y : World} {n p kb c c2 used it : Nat} {now : Int} {G : Int → List Int} {R : List VRow} {rv vv : Value} {nb : Nat} {za zb zc zd : Int} {h : Int} {j j' : Nat} {u u' : Nat → Value} (H : PhC W n p kb c c2 used it now G R rv vv nb za zb zc zd h j u x) (hk : Keeps x y) (hy : LY W y 1 n p kb c c2 used it now G (R.map VRow.v) []) (hs : 1 ≤ j' → IR 0 y (u' 16) (G h)) : PhC W n p kb c c2 used it now G R rv vv nb za zb zc zd h j' u' y :=
  ⟨hy, H.rows.kept hk, H.vers.kept hk, hk.blk _ _ _ (by decide) H.node, hs⟩
theorem ch_one {vb k : Nat} (f : FB n p kb c c2 ta Lc tc g R.length rc now used ct i a) (x39 : a.eval (.tmp 39) = .slice (some ⟨vb, 0, none⟩) R.length vc) (x40 : a.eval (.tmp 40) = .int .i64 k) (h : LS W x n p kb c c2 used it now G R (.slice (some ⟨g, 0, none⟩) R.length rc) []) (hvs : IR W.heap.size x (.slice (some ⟨vb, 0, none⟩) R.length vc) ((R.map VRow.v).map (·.h))) (hk : k < R.length)
    (hK : ∀ a' y, FB n p kb c c2 ta Lc tc g R.length rc now used ct i a' → a'.eval (.tmp 39) = .slice (some ⟨vb, 0, none⟩) R.length vc → a'.eval (.tmp 40) = .int .i64 k → LS W y n p kb c c2 used it now G R (.slice (some ⟨g, 0, none⟩) R.length rc) [] → IR W.heap.size y (.slice (some ⟨vb, 0, none⟩) R.length vc) ((R.map VRow.v).map (·.h)) → K a' y) : (atc Try.f3.body [1, 1, 1, 1, 1, 1, 1, 1, 1, 1, 1, 1, 1, 1, 0, 1, 0, 0, 1, 0, 0, 1, 1, 1, 1, 1, 0, 0, 1, 0, 0]).wp Try.prog (Exit.then K Q) a x := by
  have hml : k < ((R.map VRow.v).map (·.h)).length := by simpa using hk
  have hm : R[k].v ∈ R.map VRow.v := List.mem_map.2 ⟨R[k], List.getElem_mem hk, rfl⟩
  have hcell : ∀ {y : World}, IR W.heap.size y (.slice (some ⟨vb, 0, none⟩) R.length vc) ((R.map VRow.v).map (·.h)) → y.cell? ⟨vb, k, none⟩ = some (.int .i64 R[k].v.h) := fun {y} hv => by
    have := IR.cells (by rw [show ((R.map VRow.v).map (·.h)).length = R.length by simp]; exact hv) hml
    simpa using this
  obtain ⟨hiv, hgl⟩ := h.sets R[k] (List.getElem_mem hk)
  refine wp_seq (ch_85 f.hs f.hd f.x0 f.x1 f.x5 f.x7 f.x9 f.x10 f.x15 f.x16 f.x17 f.x18 f.x19 x39 x40 (by omega) (hcell hvs) (yRead h.y hm) ?_)
  clear f x39 x40
  rintro a1 y z nb nc nd hs hd x0 x1 x5 x7 x9 x10 x15 x16 x17 x18 x19 x39 x40 x41 x42 ⟨hkp, hy⟩ rfl
  obtain ⟨sa, sc, hru, -⟩ := hiv.ex
  have T0 : Turned [] z (z.alloc (nodeO R[k].v.a nb nc nd)) := (Turned.refl [] _).alloc _
  refine wp_seq (alone_r86 (Ph := PhC W n p kb c c2 used it now G R (.slice (some ⟨g, 0, none⟩) R.length rc) (.slice (some ⟨vb, 0, none⟩) R.length vc) z.heap.size R[k].v.a nb nc nd R[k].v.h) (lh := R[k].v.h) (za := R[k].v.a) (sa := sa) (sl := (G R[k].v.h).length) (sc := sc) hs x39 x40 x15 x9 x41 x42 hk (fun j u w H => ?_) ?_ (fun u w H => ?_) (fun u w H => ?_) ?_)
  · have c4 := H.rows.cell hk
    rw [hru] at c4
    exact ⟨hcell H.vers, c4.1, c4.2.1, c4.2.2.2, cell_at H.node 0⟩
  · have T1 : Turned [] (z.alloc (nodeO R[k].v.a nb nc nd)) (z.alloc (nodeO R[k].v.a nb nc nd)).drew := (Turned.refl [] _).drew
    exact ⟨(hy.still T0).still T1, ((h.rows.kept hkp).still T0).still T1, ((hvs.kept hkp).still T0).still T1, T1.heap (blk_new _ _) (by simp), by omega⟩
  · refine (ySet H.y hm (by omega)).mono ?_
    rintro e w' ⟨v, rfl, hi, hk', hy'⟩
    refine ⟨v, rfl, H.mv hk' hy' (fun _ => ?_)⟩
    rw [upd_same]
    exact hi.lower (Nat.zero_le _)
  · have hiw := hiv.still H.y.turned
    rw [hru] at hiw
    refine (cInts (H.set (Nat.le_refl _)).view hiw (by omega)).mono ?_
    rintro e w' ⟨rfl, ht⟩
    exact ⟨rfl, H.mv (Keeps.of ht) (H.y.still ht) (fun _ => (H.set (Nat.le_refl _)).still ht)⟩
  · intro a' w u hs' hd' hoff x473 H
    refine wp_cond_false x473 ?_
    refine wp_skip ?_
    refine hK a' w ⟨hs'.trans hs, hd'.trans hd, (hoff 0 (by decide)).trans x0, (hoff 1 (by decide)).trans x1, (hoff 5 (by decide)).trans x5, (hoff 7 (by decide)).trans x7, (hoff 9 (by decide)).trans x9, (hoff 10 (by decide)).trans x10, (hoff 15 (by decide)).trans x15, (hoff 16 (by decide)).trans x16, (hoff 17 (by decide)).trans x17, (hoff 18 (by decide)).trans x18, (hoff 19 (by decide)).trans x19⟩ ((hoff 39 (by decide)).trans x39) ((hoff 40 (by decide)).trans x40) ⟨H.y, H.rows, h.ne, h.sets⟩ H.vers
theorem ch_check (f : FB n p kb c c2 ta Lc tc g R.length rc now used ct i a) (h : LS W x n p kb c c2 used it now G R (.slice (some ⟨g, 0, none⟩) R.length rc) []) (hn : n ≤ 200)
    (hK : ∀ a' y, FB n p kb c c2 ta Lc tc g R.length rc now used ct i a' → LS W y n p kb c c2 used it now G R (.slice (some ⟨g, 0, none⟩) R.length rc) [] → K a' y) : (atc Try.f3.body [1, 1, 1, 1, 1, 1, 1, 1, 1, 1, 1, 1, 1, 1, 0, 1, 0, 0, 1, 0, 0, 1, 1]).wp Try.prog (Exit.then K Q) a x := by
  have hlen := h.y.len
  rw [List.length_map] at hlen
  have hs0 := h.y.turned.size
  refine wp_seq (ch_79 f.hs f.hd f.x0 f.x1 f.x5 f.x7 f.x9 f.x10 f.x15 f.x16 f.x17 f.x18 f.x19 (PP := fun v x' => IR x.heap.size x' v ((R.map VRow.v).map (·.h)) ∧ Keeps x x' ∧ LY W x' 1 n p kb c c2 used it now G (R.map VRow.v) []) (yVersions h.y) ?_)
  clear f
  rintro a1 y v hs hd x0 x1 x5 x7 x9 x10 x15 x16 x17 x18 x19 x39 ⟨hi, hk, hy⟩
  have hne : ((R.map VRow.v).map (·.h)) ≠ [] := by simpa using h.ne
  obtain ⟨vb, vc, rfl⟩ := hi.at_ hne
  have el : ((R.map VRow.v).map (·.h)).length = R.length := by simp
  rw [el] at x39 hi
  refine wp_seq (ch_80 (fr := n - used) hs hd x0 x1 x5 x7 x9 x10 x15 x16 x17 x18 x19 x39 (P1 := fun x' => Keeps y x' ∧ LY W x' 1 n p kb c c2 used it now G (R.map VRow.v) []) (P2 := fun x' => Keeps y x' ∧ LY W x' 1 n p kb c c2 used it now G (R.map VRow.v) []) (yOther hy) (fun z hz => (yFree hz.2).mono fun e x' hh => ⟨hh.1, hz.1.trans hh.2.1, hh.2.2⟩) (by omega) (by omega) ?_)
  clear hs hd x0 x1 x5 x7 x9 x10 x15 x16 x17 x18 x19 x39
  rintro a2 y2 hs hd x0 x1 x5 x7 x9 x10 x15 x16 x17 x18 x19 x39 ⟨hk2, hy2⟩
  refine wp_seq (ch_82 hs hd x0 x1 x5 x7 x9 x10 x15 x16 x17 x18 x19 x39 ?_)
  clear hs hd x0 x1 x5 x7 x9 x10 x15 x16 x17 x18 x19 x39
  intro a3 hs hd x0 x1 x5 x7 x9 x10 x15 x16 x17 x18 x19 x39 x40
  have h2 : LS W y2 n p kb c c2 used it now G R (.slice (some ⟨g, 0, none⟩) R.length rc) [] := ⟨hy2, (h.rows.kept hk).kept hk2, h.ne, h.sets⟩
  have hv2 : IR W.heap.size y2 (.slice (some ⟨vb, 0, none⟩) R.length vc) ((R.map VRow.v).map (·.h)) := (hi.kept hk2).lower hs0
  clear hy hk hk2 hi
  refine wp_block ?_
  refine wp_loop (fun a' z => FB n p kb c c2 ta Lc tc g R.length rc now used ct i a' ∧ a'.eval (.tmp 39) = .slice (some ⟨vb, 0, none⟩) R.length vc ∧ LS W z n p kb c c2 used it now G R (.slice (some ⟨g, 0, none⟩) R.length rc) [] ∧ IR W.heap.size z (.slice (some ⟨vb, 0, none⟩) R.length vc) ((R.map VRow.v).map (·.h)) ∧ ∃ k : Nat, k ≤ R.length ∧ a'.eval (.tmp 40) = .int .i64 k) (fun a' _ => R.length - (intOf (a'.eval (.tmp 40))).toNat) ⟨⟨hs, hd, x0, x1, x5, x7, x9, x10, x15, x16, x17, x18, x19⟩, x39, h2, hv2, 0, Nat.zero_le _, x40⟩ ?_
  clear hs hd x0 x1 x5 x7 x9 x10 x15 x16 x17 x18 x19 x39 x40 h2 hv2 h hy2
  rintro a4 z ⟨f, x39, h, hv, k, hk, x40⟩
  by_cases hlt : k < R.length
  · refine wp_seq (ch_83in f.hs f.hd f.x0 f.x1 f.x5 f.x7 f.x9 f.x10 f.x15 f.x16 f.x17 f.x18 f.x19 x39 x40 (by omega) ?_)
    intro a5 hs hd x0 x1 x5 x7 x9 x10 x15 x16 x17 x18 x19 y39 y40
    refine wp_seq (wp_block ?_)
    refine wp_lastB (ch_one ⟨hs, hd, x0, x1, x5, x7, x9, x10, x15, x16, x17, x18, x19⟩ y39 y40 h hv hlt ?_)
    clear hs hd x0 x1 x5 x7 x9 x10 x15 x16 x17 x18 x19 y39 y40
    intro a6 z2 f2 y39 y40 h' hv'
    refine wp_endB (ch_84 f2.hs f2.hd f2.x0 f2.x1 f2.x5 f2.x7 f2.x9 f2.x10 f2.x15 f2.x16 f2.x17 f2.x18 f2.x19 y39 y40 (by omega) ?_)
    intro a7 hs hd x0 x1 x5 x7 x9 x10 x15 x16 x17 x18 x19 z39 z40
    refine ⟨⟨⟨hs, hd, x0, x1, x5, x7, x9, x10, x15, x16, x17, x18, x19⟩, z39, h', hv', k + 1, by omega, z40⟩, ?_⟩
    rw [z40, x40]; simp only [intOf]; omega
  · have e : k = R.length := by omega
    subst e
    refine wp_seq (ch_83out f.hs f.hd f.x0 f.x1 f.x5 f.x7 f.x9 f.x10 f.x15 f.x16 f.x17 f.x18 f.x19 x39 x40 ?_)
    intro a5 hs hd x0 x1 x5 x7 x9 x10 x15 x16 x17 x18 x19
    exact hK a5 z ⟨hs, hd, x0, x1, x5, x7, x9, x10, x15, x16, x17, x18, x19⟩ h
/-- What is asked, whatever it is. -/
theorem ch_switch (f : FB n p kb c c2 ta Lc tc g R.length rc now used ct i a) (x20 : a.eval (.tmp 20) = .pointer (some ⟨ob, 0, none⟩)) (h : LS W x n p kb c c2 used it now G R (.slice (some ⟨g, 0, none⟩) R.length rc) []) (hob : x.heap[ob]? = some (opO kd oa od sa sl sc)) (hv : IV W (.slice sa sl sc) l) (hn : n ≤ 200) (hit : it ≤ 900) (hct : ct ≤ 300) (hnow : now ≤ 1000)
    (hK : ∀ a' y, ST W n p kb c c2 ta Lc tc i (now + 1) (ct + 1) (it + 2) a' y → K a' y) : (atc Try.f3.body [1, 1, 1, 1, 1, 1, 1, 1, 1, 1, 1, 1, 1, 1, 0, 1, 0, 0, 1, 0, 0, 1, 0]).wp Try.prog (Exit.then K Q) a x := by
  refine wp_seq (ch_23 f.hs f.hd f.x0 f.x1 f.x5 f.x7 f.x9 f.x10 f.x15 f.x16 f.x17 f.x18 f.x19 x20 hob ?_)
  clear f x20
  intro a1 hs hd x0 x1 x5 x7 x9 x10 x15 x16 x17 x18 x19 x20 x132
  refine wp_block ?_
  by_cases z1 : kd = 1
  · refine wp_seq (ch_24 hs hd x0 x1 x5 x7 x9 x10 x15 x16 x17 x18 x19 x20 x132 (t := true) (by simp [z1]) ?_)
    clear hs hd x0 x1 x5 x7 x9 x10 x15 x16 x17 x18 x19 x20 x132
    intro a2 hs hd x0 x1 x5 x7 x9 x10 x15 x16 x17 x18 x19 x20 x132 x133
    refine wp_cond_true x133 ?_
    exact ch_k1 ⟨hs, hd, x0, x1, x5, x7, x9, x10, x15, x16, x17, x18, x19⟩ x20 h hob hv hn hit (fun a' y hs => hK a' y hs) (fun a' y hs => hK a' y hs)
  refine wp_seq (ch_24 hs hd x0 x1 x5 x7 x9 x10 x15 x16 x17 x18 x19 x20 x132 (t := false) (by simp [z1]) ?_)
  clear hs hd x0 x1 x5 x7 x9 x10 x15 x16 x17 x18 x19 x20 x132
  intro a2 hs hd x0 x1 x5 x7 x9 x10 x15 x16 x17 x18 x19 x20 x132 x133
  refine wp_cond_false x133 ?_
  clear x133
  by_cases z2 : kd = 2
  · refine wp_seq (ch_43 hs hd x0 x1 x5 x7 x9 x10 x15 x16 x17 x18 x19 x20 x132 (t := true) (by simp [z2]) ?_)
    clear hs hd x0 x1 x5 x7 x9 x10 x15 x16 x17 x18 x19 x20 x132
    intro a3 hs hd x0 x1 x5 x7 x9 x10 x15 x16 x17 x18 x19 x20 x132 x222
    refine wp_cond_true x222 ?_
    exact ch_k2 ⟨hs, hd, x0, x1, x5, x7, x9, x10, x15, x16, x17, x18, x19⟩ h (fun a' y hs => hK a' y hs)
  refine wp_seq (ch_43 hs hd x0 x1 x5 x7 x9 x10 x15 x16 x17 x18 x19 x20 x132 (t := false) (by simp [z2]) ?_)
  clear hs hd x0 x1 x5 x7 x9 x10 x15 x16 x17 x18 x19 x20 x132
  intro a3 hs hd x0 x1 x5 x7 x9 x10 x15 x16 x17 x18 x19 x20 x132 x222
  refine wp_cond_false x222 ?_
  clear x222
  by_cases z3 : kd = 3
  · refine wp_seq (ch_47 hs hd x0 x1 x5 x7 x9 x10 x15 x16 x17 x18 x19 x20 x132 (t := true) (by simp [z3]) ?_)
    clear hs hd x0 x1 x5 x7 x9 x10 x15 x16 x17 x18 x19 x20 x132
    intro a4 hs hd x0 x1 x5 x7 x9 x10 x15 x16 x17 x18 x19 x20 x132 x248
    refine wp_cond_true x248 ?_
    exact ch_k3 ⟨hs, hd, x0, x1, x5, x7, x9, x10, x15, x16, x17, x18, x19⟩ x20 h hob hn (fun a' y hs => hK a' y hs)
  refine wp_seq (ch_47 hs hd x0 x1 x5 x7 x9 x10 x15 x16 x17 x18 x19 x20 x132 (t := false) (by simp [z3]) ?_)
  clear hs hd x0 x1 x5 x7 x9 x10 x15 x16 x17 x18 x19 x20 x132
  intro a4 hs hd x0 x1 x5 x7 x9 x10 x15 x16 x17 x18 x19 x20 x132 x248
  refine wp_cond_false x248 ?_
  clear x248
  by_cases z4 : kd = 4
  · refine wp_seq (ch_57 hs hd x0 x1 x5 x7 x9 x10 x15 x16 x17 x18 x19 x20 x132 (t := true) (by simp [z4]) ?_)
    clear hs hd x0 x1 x5 x7 x9 x10 x15 x16 x17 x18 x19 x20 x132
    intro a5 hs hd x0 x1 x5 x7 x9 x10 x15 x16 x17 x18 x19 x20 x132 x294
    refine wp_cond_true x294 ?_
    exact ch_k4 ⟨hs, hd, x0, x1, x5, x7, x9, x10, x15, x16, x17, x18, x19⟩ x20 h hob hn hct (fun a' y hs => hK a' y hs) (fun a' y hs => hK a' y hs)
  refine wp_seq (ch_57 hs hd x0 x1 x5 x7 x9 x10 x15 x16 x17 x18 x19 x20 x132 (t := false) (by simp [z4]) ?_)
  clear hs hd x0 x1 x5 x7 x9 x10 x15 x16 x17 x18 x19 x20 x132
  intro a5 hs hd x0 x1 x5 x7 x9 x10 x15 x16 x17 x18 x19 x20 x132 x294
  refine wp_cond_false x294 ?_
  clear x294
  by_cases z5 : kd = 5
  · refine wp_seq (ch_74 hs hd x0 x1 x5 x7 x9 x10 x15 x16 x17 x18 x19 x20 x132 (t := true) (by simp [z5]) ?_)
    clear hs hd x0 x1 x5 x7 x9 x10 x15 x16 x17 x18 x19 x20 x132
    intro a6 hs hd x0 x1 x5 x7 x9 x10 x15 x16 x17 x18 x19 x20 x132 x374
    refine wp_cond_true x374 ?_
    exact ch_k5 ⟨hs, hd, x0, x1, x5, x7, x9, x10, x15, x16, x17, x18, x19⟩ h hnow (fun a' y hs => hK a' y hs)
  refine wp_seq (ch_74 hs hd x0 x1 x5 x7 x9 x10 x15 x16 x17 x18 x19 x20 x132 (t := false) (by simp [z5]) ?_)
  clear hs hd x0 x1 x5 x7 x9 x10 x15 x16 x17 x18 x19 x20 x132
  intro a6 hs hd x0 x1 x5 x7 x9 x10 x15 x16 x17 x18 x19 x20 x132 x374
  refine wp_cond_false x374 ?_
  clear x374
  refine wp_skip ?_
  exact hK a6 x ⟨now, used, ct, it, G, R, g, rc, ⟨hs, hd, x0, x1, x5, x7, x9, x10, x15, x16, x17, x18, x19⟩, h, by omega, by omega, by omega⟩
/-- A script's calls as they lie in memory. -/
structure Ops (W : World) (ta : Option Addr) (Lc : Nat) : Prop where
  at_ : ∀ j, j < Lc → ∃ qb qo kd oa od sa sl sc l, ta = some ⟨qb, qo, none⟩ ∧ W.cell? ⟨qb, qo + j * 4, none⟩ = some (.int .i64 kd) ∧ W.cell? ⟨qb, qo + j * 4 + 1, none⟩ = some (.int .i64 oa) ∧ W.cell? ⟨qb, qo + j * 4 + 2, none⟩ = some (.int .i64 od) ∧ W.cell? ⟨qb, qo + j * 4 + 3, none⟩ = some (.slice sa sl sc) ∧ IV W (.slice sa sl sc) l
structure CL (W : World) (n p kb c c2 : Nat) (ta : Option Addr) (Lc tc : Nat) (a : Act) (x : World) : Prop where
  ex : ∃ i, i ≤ Lc ∧ ST W n p kb c c2 ta Lc tc i (i + 1) i (2 * i + 1) a x
theorem ch_round (hn : n ≤ 200) (hL : Lc ≤ 200) (hS : Ops W ta Lc) (hC : CL W n p kb c c2 ta Lc tc a x)
    (hQ : ∀ a' y, CL W n p kb c c2 ta Lc tc a' y → Q (.exit 0) a' y) :
    (atc Try.f3.body [1, 1, 1, 1, 1, 1, 1, 1, 1, 1, 1, 1, 1, 1, 0, 1, 0, 0]).wp Try.prog (Exit.then (fun a' y => CL W n p kb c c2 ta Lc tc a' y ∧ Lc - (intOf (a'.eval (.tmp 19))).toNat < Lc - (intOf (a.eval (.tmp 19))).toNat) Q) a x := by
  obtain ⟨i, hi, hST⟩ := hC.ex
  obtain ⟨now, used, ct, it, G, R, g, rc, f, h, b1, b2, b3⟩ := hST.ex
  have hmu : (intOf (a.eval (.tmp 19))).toNat = i := by rw [f.x19]; simp [intOf]
  rw [hmu]
  by_cases hlt : i < Lc
  · obtain ⟨qb, qo, kd, oa, od, sa, sl, sc, l, rfl, c0, c1, c2', c3, hv⟩ := hS.at_ i hlt
    have tw := h.y.turned
    refine wp_seq (ch_in f.hs f.hd f.x0 f.x1 f.x5 f.x7 f.x9 f.x10 f.x15 f.x16 f.x17 f.x18 f.x19 (by omega) ?_)
    clear f hmu hST hC
    intro a1 hs hd x0 x1 x5 x7 x9 x10 x15 x16 x17 x18 x19
    refine wp_seq (wp_block ?_)
    refine wp_seq (ch_22 hs hd x0 x1 x5 x7 x9 x10 x15 x16 x17 x18 x19 (by omega) (tw.cell c0 (by simp)) (tw.cell c1 (by simp)) (tw.cell c2' (by simp)) (tw.cell c3 (by simp)) ?_)
    clear hs hd x0 x1 x5 x7 x9 x10 x15 x16 x17 x18 x19
    rintro a2 y hs hd x0 x1 x5 x7 x9 x10 x15 x16 x17 x18 x19 x20 rfl
    have T0 : Turned [] x (x.alloc (opO kd oa od sa sl sc)) := (Turned.refl [] _).alloc _
    refine wp_seq (ch_switch ⟨hs, hd, x0, x1, x5, x7, x9, x10, x15, x16, x17, x18, x19⟩ x20 ⟨h.y.still T0, h.rows.still T0, h.ne, h.sets⟩ (blk_new _ _) hv hn (by omega) (by omega) (by omega) ?_)
    clear hs hd x0 x1 x5 x7 x9 x10 x15 x16 x17 x18 x19 x20 h
    intro a3 y2 hST
    obtain ⟨now', used', ct', it', G', R', g', rc', f, h, d1, d2, d3⟩ := hST.ex
    refine wp_lastB (ch_check f h hn ?_)
    clear f h hST
    intro a4 y3 f h
    refine wp_endB (ch_21 f.hs f.hd f.x0 f.x1 f.x5 f.x7 f.x9 f.x10 f.x15 f.x16 f.x17 f.x18 f.x19 (by omega) ?_)
    clear f
    intro a5 hs hd x0 x1 x5 x7 x9 x10 x15 x16 x17 x18 x19
    refine ⟨⟨i + 1, by omega, ⟨now', used', ct', it', G', R', g', rc', ⟨hs, hd, x0, x1, x5, x7, x9, x10, x15, x16, x17, x18, x19⟩, h, by omega, by omega, by omega⟩⟩, ?_⟩
    rw [x19]; simp only [intOf]; omega
  · refine wp_seq (ch_out f.hs f.hd f.x0 f.x1 f.x5 f.x7 f.x9 f.x10 f.x15 f.x16 f.x17 f.x18 f.x19 (by omega) ?_)
    intro a1 hs hd x0 x1 x5 x7 x9 x10 x15 x16 x17 x18 x19
    exact hQ a1 x ⟨i, hi, ⟨now, used, ct, it, G, R, g, rc, ⟨hs, hd, x0, x1, x5, x7, x9, x10, x15, x16, x17, x18, x19⟩, h, b1, b2, b3⟩⟩
end
end Go.Proofs.Ytaaibhgbkdnlbaa

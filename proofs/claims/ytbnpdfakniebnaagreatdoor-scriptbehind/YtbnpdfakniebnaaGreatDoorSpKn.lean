/-
  'known' by contract. (By the verifier; no statement.)
-/
import Derived.Test.YtbnpdfakniebnaaGreatDoorSpKnM
import Derived.BigQuiet
namespace Go.Proofs.YtbnpdfakniebnaaGreatDoor
open Go.RowKit
set_option linter.constructorNameAsVariable false
abbrev encW : Nat × Nat → List Value := fun x => [.int .i64 x.1, .int .i64 x.2]
theorem enW : En 2 encW := ⟨fun _ => rfl, fun r u hu => by
  simp only [encW, List.mem_cons, List.not_mem_nil, or_false] at hu
  rcases hu with rfl | rfl <;> rfl⟩
/-- What stands while the faults are tried. -/
structure KnS (w wr : World) (g : Nat) : Prop where
  tu : Turned [] w wr
  t7 : wr.heap[g]? = some (.cells (knT.map sV).toArray 9 (0, 0))
  t8 : wr.heap[g + 1]? = some (.cells (knW.flatMap encW).toArray 33 (0, 0))
theorem KnS.still {w wr w' : World} {g : Nat} (h : KnS w wr g) (ht : Turned [] wr w') : KnS w w' g := ⟨h.tu.trans ht, ht.heap h.t7 (by simp), ht.heap h.t8 (by simp)⟩
theorem kn_start {w w2 : World} (ht : Turned [] w w2) {A B : Array Value} (hA : A = (knT.map sV).toArray) (hB : B = (knW.flatMap encW).toArray) : KnS w ((w2.alloc (.cells A 9)).alloc (.cells B 33)) w2.heap.size := by
  subst hA hB
  exact ⟨(ht.alloc _).alloc _, blk20 _ _ _, blk21 _ _ _⟩
theorem kn_err : ∀ i, i < 8 → ∃ t x, knT[i]? = some t ∧ knW[i]? = some x ∧ parseB t = .error x ∧ x.2 ≠ 0 ∧ t.length ≤ 1000000000
  | 0, _ => ⟨_, _, rfl, rfl, by kernel_rfl, by decide, by decide⟩
  | 1, _ => ⟨_, _, rfl, rfl, by kernel_rfl, by decide, by decide⟩
  | 2, _ => ⟨_, _, rfl, rfl, by kernel_rfl, by decide, by decide⟩
  | 3, _ => ⟨_, _, rfl, rfl, by kernel_rfl, by decide, by decide⟩
  | 4, _ => ⟨_, _, rfl, rfl, by kernel_rfl, by decide, by decide⟩
  | 5, _ => ⟨_, _, rfl, rfl, by kernel_rfl, by decide, by decide⟩
  | 6, _ => ⟨_, _, rfl, rfl, by kernel_rfl, by decide, by decide⟩
  | 7, _ => ⟨_, _, rfl, rfl, by kernel_rfl, by decide, by decide⟩
theorem KnS.at {w wr : World} {g i : Nat} {t : Bs} {x : Nat × Nat} (h : KnS w wr g) (h7 : knT[i]? = some t) (h8 : knW[i]? = some x) : g + 1 < wr.heap.size ∧ wr.cell? ⟨g, i, none⟩ = some (sV t) ∧ wr.cell? ⟨g + 1, i * 2, none⟩ = some (.int .i64 x.1) ∧ wr.cell? ⟨g + 1, i * 2 + 1, none⟩ = some (.int .i64 x.2) := by
  have hl : i < knW.length := (List.getElem?_eq_some_iff.1 h8).1
  have he : knW[i] = x := (List.getElem?_eq_some_iff.1 h8).2
  refine ⟨lt_of_heap h.t8, ?_, ?_, ?_⟩
  · rw [cell_at h.t7, List.getElem?_toArray, List.getElem?_map, h7]; rfl
  · rw [cell_at h.t8, List.getElem?_toArray]
    have := rowO_at enW knW hl (j := 0) (by decide)
    rw [he] at this
    exact this
  · rw [cell_at h.t8, List.getElem?_toArray]
    have := rowO_at enW knW hl (j := 1) (by decide)
    rw [he] at this
    exact this
theorem kn_print {w : World} {m : RM} {a1 a2 a3 : Option Addr} {c1 c2 c3 c4 gw : Nat} (hT : TabC w) (hP : PowW w) (hB : LibW w) (hm : m.vs = .slice a1 1 c1 ∧ m.vw = .slice (some ⟨gw, 0, none⟩) 2 c4 ∧ m.vt = .slice a2 3 c2 ∧ m.vh = .slice a3 0 c3) (hV : SV w m [(5, 50)] [0, 1, 0] []) (hL : SL m [(5, 50)] [0, 1, 0] []) (hW : (m.rows.map fun p => p.2.map (·.1)) = knWk) : Calls Tryz.prog 17 #[.agg #[.int .i64 1, .int .i64 2, .int .i64 40, .int .i64 2, .slice a1 1 c1, .int .i64 0, .slice (some ⟨gw, 0, none⟩) 2 c4, .slice a2 3 c2, .slice a3 0 c3, .int .i64 100]] w fun q w' => q = .returned (.tuple #[sV knB, .nilIface]) ∧ Turned [] w w' := by
  have h := cPrint hT hP hB hV hL knSI
  rw [hm.1, hm.2.1, hm.2.2.1, hm.2.2.2, hW] at h
  refine h.mono fun q w' ⟨t, e, h1, h2, h3⟩ => ⟨?_, h2⟩
  rw [show printB 1 2 40 2 0 [(5, 50)] knWk [0, 1, 0] [] 100 = .ok knB from knB_ok] at h3
  obtain ⟨rfl, rfl⟩ := h3
  exact h1
set_option maxRecDepth 100000 in
set_option maxHeartbeats 6400000 in
theorem cKnown {w : World} (hT : TabC w) (hP : PowW w) (hB : LibW w) : Calls Tryz.prog 9 #[] w fun q w' => q = .returned (.bool true) ∧ Turned [] w w' := by
  have HT : Hid _ := hT
  have HP : Hid _ := hP
  have HB : Hid _ := hB
  clear hT hP hB
  go_enter Tryz.func9, Tryz.ntmps9
  go_wp2_with (first | (go_at_call 17; refine (kn_print ((HT.out.still HT1.out).still ((Turned.refl _ _).alloc _)) ((HP.out.still HT1.out).still ((Turned.refl _ _).alloc _)) ((HB.out.still HT1.out).still ((Turned.refl _ _).alloc _)) HM.out (HV.out.still ((Turned.refl _ _).alloc _)) HL.out HW.out).mono ?_; rintro r2 w2 ⟨rfl, ht⟩; have HT2 : Hid _ := (HT1.out.alloc _).trans ht; clear ht p0 p1 p2 p3 p4 p5 p6 p7) | (go_at_call 11; refine (cParse (t := knA) HT.out HB.out (by decide)).mono ?_; rintro r1 w1 ⟨s, e, rfl, ht, hp⟩; obtain ⟨rfl, m, a1, a2, a3, c1, c2, c3, c4, c5, c6, gw, g0, g1, rfl, hm, hV, hL, hW, ⟨p0, p1, p2⟩, ⟨p3, p4, p5⟩, p6, p7⟩ := kn_mem hp; have HT1 : Hid _ := ht; have HM : Hid _ := hm; have HV : Hid _ := hV; have HL : Hid _ := hL; have HW : Hid _ := hW; clear ht hp hm hV hL hW))
  clear HM HV HL HW
  generalize hg : w2.heap.size = g7 at *
  have HG : Hid _ := hg
  clear hg
  go_loopg [9] 8 (fun g v wr => Hid (∃ i : Nat, v = .int .i64 i ∧ i + g = 8 ∧ KnS w wr g7))
  case atStart => exact ⟨0, rfl, rfl, by rw [← HG.out]; exact kn_start HT2.out (by kernel_rfl) (by kernel_rfl)⟩
  case round =>
    obtain ⟨i, rfl, hi, hS⟩ := hrel.out
    clear hrel HT1 HT2
    have HS : Hid _ := hS
    by_cases hlt : i < 8
    · obtain ⟨g, rfl⟩ : ∃ g, gk = g + 1 := ⟨gk - 1, by omega⟩
      obtain ⟨t, x, h7, h8, hpe, hx0, htl⟩ := kn_err i hlt
      obtain ⟨q0, q1, q2, q3⟩ := hS.at h7 h8
      have HAt : Hid (∀ W, KnS w W g7 → W.cell? ⟨g7 + 1, i * 2, none⟩ = some (.int .i64 x.1) ∧ W.cell? ⟨g7 + 1, i * 2 + 1, none⟩ = some (.int .i64 x.2) ∧ g7 + 1 < W.heap.size) := fun W h => ⟨(h.at h7 h8).2.2.1, (h.at h7 h8).2.2.2, (h.at h7 h8).1⟩
      have HPe : Hid _ := hpe
      have HX0 : Hid ((x.2 : Int) ≠ 0) := by rw [Hid]; omega
      have HTl : Hid _ := htl
      obtain ⟨x1, x2⟩ := x
      clear hpe hx0 htl hS h7 h8 q2 q3
      go_wp2_with (first | (go_at_call 12; refine (cTold (HF.out _)).mono ?_; rintro r4 w4 ⟨rfl, ht⟩; have HS4 : Hid _ := HS3.out.still (((Turned.refl _ _).alloc _).trans ht); obtain ⟨e1, e2, e3⟩ := HAt.out _ HS4.out; clear ht) | (go_at_call 11; refine (cParse (t := t) (HT.out.still HS.out.tu) (HB.out.still HS.out.tu) HTl.out).mono ?_; rintro r3 w3 ⟨s, e, rfl, ht, hp⟩; have HS3 : Hid _ := HS.out.still ht; unfold PaP at hp; rw [HPe.out] at hp; obtain ⟨rfl, fb, rfl, hb, -⟩ := hp; have HF : Hid (∀ o, FtAt (w3.alloc o) (.iface 61 (.pointer (some ⟨fb, 0, none⟩))) (x1 : Int) (x2 : Int)) := fun o => .inr ⟨fb, rfl, blk_old hb _, HX0.out⟩; clear ht hb q0 q1))
      go_quiet (fail)
      go_wp2
      go_roundg g
      case rel => exact ⟨i + 1, by first | (simp; done) | (simp; unfold wrap64; omega), by omega, HS4.out.still (((Turned.refl _ _).alloc _).trans (Turned.drewN _ _))⟩
      · omega
    · obtain rfl : i = 8 := by omega
      clear hS
      go_wp2
      go_ret
      exact ⟨rfl, HS.out.tu⟩
end Go.Proofs.YtbnpdfakniebnaaGreatDoor

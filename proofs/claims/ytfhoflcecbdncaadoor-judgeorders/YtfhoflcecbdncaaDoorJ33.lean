/-
  The document's Order by contract. (By the verifier; no statement.)
-/
import Derived.Test.YtfhoflcecbdncaaDoorJ32
import Derived.Test.YtfhoflcecbdncaaDoorJ28
import Derived.Test.YtfhoflcecbdncaaDoorJ24
import Derived.Deep.RegionHeld3
namespace Go.Proofs.YtfhoflcecbdncaaDoor
open Go.RowKit
theorem infoVs : (Tryd.prog.info? 113).map (fun i => (i.zero, i.size, i.bytes)) = some (some (.slice none 0 0), 1, 24) := by kernel_rfl
theorem run_mkVs (n : Nat) (h : n ≤ 1000000) (w : World) :
    (Instr.makeSlice 80 (.int .i64 ((n : Int) + 1)) (.int .i64 ((n : Int) + 1))).run Tryd.prog w = .ok (.slice (some ⟨w.heap.size, 0, none⟩) (n + 1) (n + 1)) (w.alloc (.cells (madeCells #[.slice none 0 0] (n + 1)) 113 (0, 0))) := by
  obtain ⟨i, hi, hzz⟩ := Option.map_eq_some_iff.1 infoVs
  simp only [Prod.mk.injEq] at hzz
  obtain ⟨hz, hs, hb⟩ := hzz
  have hr := run_make (P := Tryd.prog) w 80 113 i _ (by kernel_rfl) hi hz .i64 .i64 ((n : Int) + 1) ((n : Int) + 1) (by omega) (Int.le_refl _) (by rw [hb]; omega) (by omega)
  simp only [show ((n : Int) + 1).toNat = n + 1 by omega, hs, Nat.mul_one] at hr
  exact hr
theorem made_vs (n i : Nat) (h : i < n) : (madeCells #[Value.slice none 0 0] n)[i]? = some (.slice none 0 0) := by
  unfold madeCells
  simp [h, Nat.mod_one]
theorem made_sz (n : Nat) (v : Value) : (madeCells #[v] n).size = n := by
  unfold madeCells
  simp
theorem pL_rep (n : Nat) : pL (List.replicate n false) = bitsP 0 := by
  funext i
  unfold pL bitsP
  simp [List.getD_eq_getElem?_getD, List.getElem?_replicate]
  split <;> rfl
theorem alike0 {D : List Dd} {F : List Int} (hr : ∀ i, i < D.length → (dAt D i).right F.length) : Alike D (vL F) (v0F F) := fun i hi => by
  have h := hr i hi
  unfold Dd.right at h
  unfold vL v0F
  rw [if_pos (by omega)]
/-- The search, from the start. -/
theorem cGoes0 {D : List Dd} {F : List Int} {ad : Option Addr} {cap : Nat} {w y w2 : World} {xb vb ga gb cap1 : Nat} {cs1 : Array Value} (hr : ∀ i, i < D.length → (dAt D i).right F.length) (hn : D.length ≤ 14) (hm : F.length ≤ 256) (hb : ∀ b o, ad = some ⟨b, o, none⟩ → b < w.heap.size) (hD : DsAt w ad D) (hwy : Turned [] w y) (hv : y.heap[vb]? = some (.cells (madeCells #[.slice none 0 0] (D.length + 1)) 113 (0, 0))) (hvb : w.heap.size ≤ vb) (hx : y.heap[xb]? = some (.cells #[.slice ad D.length cap, .slice (some ⟨vb, 0, none⟩) (D.length + 1) (D.length + 1)] 82 (0, 0)))
    (ht : Turned [] y w2) (h1 : w2.heap[ga]? = some (.cells (madeCells #[.bool false] D.length) 4 (0, 0))) (l1 : w.heap.size ≤ ga) (h2 : w2.heap[gb]? = some (.cells cs1 3 (0, 0))) (l2 : w.heap.size ≤ gb) (hN : NR 1 (fun q : Int => [Value.int .i64 q]) F cs1 cap1) :
    Calls Tryd.prog 35 #[.pointer (some ⟨xb, 0, none⟩), .agg #[.slice (some ⟨ga, 0, none⟩) D.length D.length, .slice (some ⟨gb, 0, none⟩) F.length cap1], .slice none 0 0] w2 fun r z => Turned [] w z ∧ ∃ an v ok, r = .returned (.tuple #[v, .bool ok]) ∧ Ans D (bitsP 0) (v0F F) an ∧ ((∃ os, an = some os ∧ ok = true ∧ IR w.heap.size z v (ints os)) ∨ (an = none ∧ ok = false ∧ v = .slice none 0 0)) := by
  have hw2 := hwy.trans ht
  have hl : (List.replicate D.length false).length = D.length := List.length_replicate
  have hout : outN D.length (pL (List.replicate D.length false)) ≤ D.length := outN_le _ _
  have hU : HU D F.length w.heap.size xb vb (.slice ad D.length cap) [] 0 w2 := by
    refine ⟨ht.heap hx (by simp), hvb, hw2.size, (fun g hg => by cases hg), _, fun _ => .slice none 0 0, fun _ => [], ht.heap hv (by simp), made_sz _ _, fun j hj => ⟨made_vs _ _ (by omega), OW.nil _ _ _ _ _, (fun g hg => by cases hg), Nat.le_refl _, (fun p hp => by cases hp)⟩, fun i j _ _ _ => .inl rfl⟩
  have hS : ST D.length F.length w.heap.size w2 ((some ⟨ga, 0, none⟩, D.length), (some ⟨gb, 0, none⟩, cap1)) (List.replicate D.length false) F := by
    refine ⟨⟨?_, .inr ⟨ga, D.length, _, by rw [hl], l1, h1, by rw [hl]; exact Nat.le_refl _, by unfold maxLen; omega, by rw [made_sz, Nat.mul_one], ?_⟩⟩, (hN.own enI h2 l2).ir, hl, rfl⟩
    · rw [rowO_len enB]
    · rw [flat_single, hl, Nat.mul_one]
      refine List.ext_getElem? fun i => ?_
      by_cases hi : i < D.length
      · rw [List.getElem?_take_of_lt hi, Array.getElem?_toList, made_bl _ _ hi]
        simp [hi]
      · rw [List.getElem?_eq_none (by simp; omega), List.getElem?_eq_none (by simp; omega)]
  have hD2 := hD.still hw2
  refine (cGoes hr hn hm hb D.length _ hl hout F [] [] 0 w2 _ (.slice none 0 0) hU hS (IR.nil _ _) hD2 (by simpa using hout) (by rw [Nat.zero_add]; exact tN_mono (by omega))).mono fun r z hp => ?_
  obtain ⟨an, v, ok, e1, e2, e3⟩ := hp.ans
  refine ⟨hw2.inner hp.tu (fun g hg => .inr (by rw [List.mem_singleton.1 hg]; exact hvb)), an, v, ok, e1, ?_, ?_⟩
  · rw [pL_rep] at e2
    exact e2.alike (alike0 hr)
  · simpa using e3
end Go.Proofs.YtfhoflcecbdncaaDoor
/-
  The document's Order by contract: its walk. (By the verifier; no statement.)
-/
namespace Go.Proofs.YtfhoflcecbdncaaDoor
open Go.RowKit
set_option maxRecDepth 100000 in
set_option maxHeartbeats 6400000 in
theorem cRefOrder {D : List Dd} {F : List Int} {fv : Value} {ad : Option Addr} {cap : Nat} {w : World} (hF : IV w fv F) (hD : DsAt w ad D) (hn : D.length ≤ 1000) (h14 : D.length ≤ 14 ∨ 64 < D.length) (hb : ∀ b o, ad = some ⟨b, o, none⟩ → b < w.heap.size) :
    Calls Tryd.prog 13 #[fv, .slice ad D.length cap] w fun r w' => RoP D F w r w' := by
  have HFv : Hid (IV w fv F) := hF
  obtain ⟨fa, fc, rfl, -, -⟩ := hF.ex
  clear hF
  have HE : Hid (∀ r w', Turned [] w w' → chkD F.length D ≠ 0 → r = .returned (.tuple #[.slice none 0 0, .bool false, .int .i64 (chkD F.length D)]) → RoP D F w r w') := fun r w' h1 h2 h3 => ⟨h1, .inl ⟨h2, h3⟩⟩
  by_cases h0 : F.length = 0
  · have HC : Hid (chkD F.length D = 201) := by rw [Hid, chkD, if_pos (by omega)]
    have d0 : ((F.length : Int) == 0) = true := by simpa using h0
    go_enter Tryd.func13, Tryd.ntmps13
    go_wp2
    go_ret3
    exact HE.out _ _ (Turned.refl _ _) (by rw [HC.out]; decide) (by rw [HC.out]; rfl)
  have d0 : ((F.length : Int) == 0) = false := by simpa using h0
  by_cases h1 : 256 < F.length
  · have HC : Hid (chkD F.length D = 201) := by rw [Hid, chkD, if_pos (by omega)]
    have d1 : decide ((256 : Int) < F.length) = true := decide_eq_true (by omega)
    go_enter Tryd.func13, Tryd.ntmps13
    go_wp2
    go_ret3
    exact HE.out _ _ (Turned.refl _ _) (by rw [HC.out]; decide) (by rw [HC.out]; rfl)
  have d1 : decide ((256 : Int) < F.length) = false := decide_eq_false (by omega)
  by_cases h2 : 64 < D.length
  · have HC : Hid (chkD F.length D = 201) := by rw [Hid, chkD, if_pos (by omega)]
    have d2 : decide ((64 : Int) < D.length) = true := decide_eq_true (by omega)
    go_enter Tryd.func13, Tryd.ntmps13
    go_wp2
    go_ret3
    exact HE.out _ _ (Turned.refl _ _) (by rw [HC.out]; decide) (by rw [HC.out]; rfl)
  have d2 : decide ((64 : Int) < D.length) = false := decide_eq_false (by omega)
  have HS : Hid (chkD F.length D = if D.all (rightB F.length) then (if D.all (fun d => decide (cntB D d.b ≤ 8)) then 0 else 201) else 200) := by rw [Hid, chkD, if_neg (by omega)]
  have hn14 : D.length ≤ 14 := by omega
  have hF256 : F.length ≤ 256 := by omega
  have hne : F ≠ [] := fun e => h0 (by rw [e]; rfl)
  have HD : Hid (DsAt w ad D) := hD
  have HBd : Hid (∀ b o, ad = some ⟨b, o, none⟩ → b < w.heap.size) := hb
  clear h0 h1 h2 h14 hD hb
  have P := fun b e k a x c n ok w => cRRight (b := b) (e := e) (k := k) (a := a) (x := x) (c := c) (n := n) (ok := ok) (fa := fa) (m := F.length) (fc := fc) w
  have HP : Hid (∀ (t : Int) (x : World), Turned [] w x → Calls Tryd.prog 34 #[.slice ad D.length cap, .int .i64 t] x fun r w' => r = .returned (.int .i64 (cntB D t)) ∧ Turned [] x w') := fun t x ht => cROpen (HD.out.still ht) hn
  go_enter Tryd.func13, Tryd.ntmps13
  go_wp2
  go_loopw [7] (fun i wx => ∃ k : Nat, k ≤ D.length ∧ i = .int .i64 k ∧ Hid ((D.take k).all (rightB F.length) = true) ∧ Hid (Turned [] w wx)) (fun i _ => D.length - (intOf i).toNat)
  case atStart => exact ⟨0, Nat.zero_le _, rfl, rfl, Turned.refl _ _⟩
  case round =>
    obtain ⟨k, hk, rfl, HA, HT⟩ := hrel
    by_cases hlt : k < D.length
    · obtain ⟨d, hd⟩ : ∃ d, D[k]? = some d := ⟨_, List.getElem?_eq_getElem hlt⟩
      obtain ⟨b, o, rfl, hb, h0, h1, h2, h3, h4, h5, h6, h7⟩ := (HD.out.still HT.out).all k d hd
      have Hd : Hid (D[k]? = some d) := hd
      clear hd
      cases d3 : rightB F.length d with
      | false =>
        have d4 : rightB F.length ⟨d.b, d.e, d.k, d.a, d.x, d.c, d.n, d.ok⟩ = false := d3
        have HC : Hid (chkD F.length D = 200) := by rw [Hid, HS.out, all_no Hd.out d3]; rfl
        go_wp2_with (go_at_call 33; refine (P _ _ _ _ _ _ _ _ _).mono ?_; rintro r x1 ⟨rfl, T1⟩; have HT1 : Hid _ := T1; clear T1)
        go_ret3
        exact HE.out _ _ (HT.out.trans HT1.out) (by rw [HC.out]; decide) (by rw [HC.out]; rfl)
      | true =>
        have d4 : rightB F.length ⟨d.b, d.e, d.k, d.a, d.x, d.c, d.n, d.ok⟩ = true := d3
        go_wp2_with (go_at_call 33; refine (P _ _ _ _ _ _ _ _ _).mono ?_; rintro r x1 ⟨rfl, T1⟩; have HT1 : Hid _ := T1; clear T1)
        go_roundw
        case rel => exact ⟨k + 1, by omega, by go_num, by rw [Hid, all_take Hd.out, HA.out, d3]; rfl, HT.out.trans HT1.out⟩
        case measure => simp [intOf]; omega
    · obtain rfl : k = D.length := by omega
      have HA2 : Hid (D.all (rightB F.length) = true) := by
        have := HA.out
        rw [List.take_length] at this
        exact this
      clear HA P
      go_wp2
      go_loopw [8] (fun i wx => ∃ j : Nat, j ≤ D.length ∧ i = .int .i64 j ∧ Hid ((D.take j).all (fun d => decide (cntB D d.b ≤ 8)) = true) ∧ Hid (Turned [] w wx)) (fun i _ => D.length - (intOf i).toNat)
      case atStart => exact ⟨0, Nat.zero_le _, rfl, rfl, HT⟩
      case round =>
        obtain ⟨j, hj, rfl, HB, HT2⟩ := hrel
        by_cases hlt2 : j < D.length
        · obtain ⟨d, hd⟩ : ∃ d, D[j]? = some d := ⟨_, List.getElem?_eq_getElem hlt2⟩
          obtain ⟨b, o, rfl, hb, h0, h1, h2, h3, h4, h5, h6, h7⟩ := (HD.out.still HT2.out).all j d hd
          have Hd : Hid (D[j]? = some d) := hd
          clear hd
          by_cases h8 : cntB D d.b ≤ 8
          · have d5 : decide ((8 : Int) < cntB D d.b) = false := decide_eq_false (by omega)
            go_wp2_with (go_at_call 34; refine (HP.out _ _ HT2.out).mono ?_; rintro r x1 ⟨rfl, T1⟩; have HT1 : Hid _ := T1; clear T1)
            go_roundw
            case rel => exact ⟨j + 1, by omega, by go_num, by rw [Hid, all_take Hd.out, HB.out]; simp [h8], HT2.out.trans HT1.out⟩
            case measure => simp [intOf]; omega
          · have d5 : decide ((8 : Int) < cntB D d.b) = true := decide_eq_true (by omega)
            have HC : Hid (chkD F.length D = 201) := by rw [Hid, HS.out, HA2.out, all_no (p := fun d => decide (cntB D d.b ≤ 8)) Hd.out (by simp [h8])]; rfl
            go_wp2_with (go_at_call 34; refine (HP.out _ _ HT2.out).mono ?_; rintro r x1 ⟨rfl, T1⟩; have HT1 : Hid _ := T1; clear T1)
            go_ret3
            exact HE.out _ _ (HT2.out.trans HT1.out) (by rw [HC.out]; decide) (by rw [HC.out]; rfl)
        · obtain rfl : j = D.length := by omega
          have HC : Hid (chkD F.length D = 0) := by
            have := HB.out
            rw [List.take_length] at this
            rw [Hid, HS.out, HA2.out, this]
            rfl
          have HR : Hid (∀ i, i < D.length → (dAt D i).right F.length) := (chk_ok HC.out).2.2.2
          obtain ⟨x1, hx1⟩ : ∃ x1, x1 = wr := ⟨_, rfl⟩
          have HT1 : Hid (Turned [] w x1) := by rw [Hid, hx1]; exact HT2.out
          rw [← hx1]
          clear hx1 HT2 HT HB HS HE HP hk hlt hj hlt2
          have hmk := fun y => run_mkVs D.length (by omega) y
          have hmk2 := fun y => run_mkBl D.length (by omega) y
          have hl1 : F.length * 8 ≤ 140737488355328 := by omega
          go_wp2
          clear hmk
          have HVb : Hid (((x1.alloc (.cells (madeCells #[.slice none 0 0] (D.length + 1)) 113 (0, 0))).alloc (.cells #[.slice ad D.length cap, .slice (some ⟨x1.heap.size, 0, none⟩) (D.length + 1) (D.length + 1)] 82 (0, 0))).heap[x1.heap.size]? = some (.cells (madeCells #[.slice none 0 0] (D.length + 1)) 113 (0, 0))) := blk20 _ _ _
          have HXb : Hid (((x1.alloc (.cells (madeCells #[.slice none 0 0] (D.length + 1)) 113 (0, 0))).alloc (.cells #[.slice ad D.length cap, .slice (some ⟨x1.heap.size, 0, none⟩) (D.length + 1) (D.length + 1)] 82 (0, 0))).heap[x1.heap.size + 1]? = some (.cells #[.slice ad D.length cap, .slice (some ⟨x1.heap.size, 0, none⟩) (D.length + 1) (D.length + 1)] 82 (0, 0))) := blk21 _ _ _
          have HTy : Hid (Turned [] w ((x1.alloc (.cells (madeCells #[.slice none 0 0] (D.length + 1)) 113 (0, 0))).alloc (.cells #[.slice ad D.length cap, .slice (some ⟨x1.heap.size, 0, none⟩) (D.length + 1) (D.length + 1)] 82 (0, 0)))) := (HT1.out.alloc _).alloc _
          have hvb := HT1.out.size
          generalize (x1.alloc (.cells (madeCells #[.slice none 0 0] (D.length + 1)) 113 (0, 0))).alloc (.cells #[.slice ad D.length cap, .slice (some ⟨x1.heap.size, 0, none⟩) (D.length + 1) (D.length + 1)] 82 (0, 0)) = y at HVb HXb HTy ⊢
          generalize x1.heap.size + 1 = xb at HXb ⊢
          generalize x1.heap.size = vb at HVb HXb hvb ⊢
          have HIc : Hid _ := fun w2 ga gb cap1 cs1 ht h1 l1 h2 l2 hN => cGoes0 (w2 := w2) (ga := ga) (gb := gb) (cap1 := cap1) (cs1 := cs1) HR.out hn14 hF256 HBd.out HD.out HTy.out HVb.out hvb HXb.out ht h1 l1 h2 l2 hN
          have HVf : Hid (∀ z, Turned [] y z → VW (fun q : Int => [Value.int .i64 q]) z (.slice fa F.length fc) F) := fun z hz => (HFv.out.still (HTy.out.trans hz)).vw
          have hys := HTy.out.size
          clear HD HBd HFv HT1 x1
          go_region_held3 (fun _ => True) (trivial) (first | (refine step_newO elI enI (u := .slice fa F.length fc) (M := F) rfl _ _ rfl ?_ ?_ (HVf.out _ ?_) hne hl1 ?_; (focus (simp [Act.eval]; done)); (focus (simp [Act.eval]; done)); (focus (repeat first | exact Turned.refl _ _ | refine Turned.drew ?_ | refine Turned.alloc ?_ _)); intro cs1 cap1 hN; have HN1 : Hid _ := hN; clear hN) | (go_at_call 35; refine (HIc.out _ _ _ _ cs1 ?_ ?_ ?_ ?_ ?_ HN1.out).mono ?_; (focus (repeat first | exact Turned.refl _ _ | refine Turned.drew ?_ | refine Turned.alloc ?_ _)); (focus (first | exact blk20 _ _ _ | exact blk21 _ _ _)); (focus (first | exact hys | exact Nat.le_succ_of_le hys)); (focus (first | exact blk20 _ _ _ | exact blk21 _ _ _)); (focus (first | exact hys | exact Nat.le_succ_of_le hys)); rintro r z ⟨hz, an, v, ok, rfl, hz2, hz3⟩; have HZ : Hid _ := hz; have HZ2 : Hid _ := hz2; have HZ3 : Hid _ := hz3; clear hz hz2 hz3))
          all_goals
            go_wp2
            go_ret3
            exact ⟨HZ.out, .inr ⟨HC.out, an, v, ok, rfl, HZ2.out, HZ3.out⟩⟩
end Go.Proofs.YtfhoflcecbdncaaDoor

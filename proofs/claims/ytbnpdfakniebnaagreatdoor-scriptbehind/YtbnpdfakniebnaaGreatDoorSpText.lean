/-
  textOf by contract. (By the verifier; no statement.)
-/
import Derived.Test.YtbnpdfakniebnaaGreatDoorSpSet
import Derived.Test.YtbnpdfakniebnaaGreatDoorSpView
namespace Go.Proofs.YtbnpdfakniebnaaGreatDoor
open Go.RowKit
def wc (s : Sh) (c : Cl) : Sh := writeC (rowT c.k.toNat) s c
def rowS (s : Sh) (l : List Cl) : Sh := l.foldl wc (s.word [119, 111, 114, 107, 101, 114]).fin
def workS (s : Sh) (W : List (List Cl)) : Sh := W.foldl rowS s
def endS (s : Sh) (T H : List Int) (u : Int) : Sh :=
  let t := listS (listS s [116, 117, 114, 110, 115] T) [104, 97, 108, 116] H
  if u = 0 then t else (t.named [117, 110, 116, 105, 108] u).fin
def textS (p w sl l f : Int) (S : List (Int × Int)) (W : List (List Cl)) (T H : List Int) (u : Int) : Sh := endS (workS (setupS ⟨[], 0, 65536, false⟩ p w sl l f S) W) T H u
theorem row_fine : ∀ q ∈ callT, q.1.length ≤ 1000000000 ∧ (q.2.1 = 0 ∨ q.2.1 = 1 ∨ q.2.1 = 2 ∨ q.2.1 = 3) := by decide
theorem isN_i64 {n : Int} (h : isN n = true) : I64 n := by
  unfold isN mostN at h
  simp at h
  exact ⟨by omega, by omega⟩
theorem fitN_i64 {i : Nat} {nn n : Int} (h : fitN i nn n = true) : I64 n := by
  unfold fitN at h
  split at h
  · exact isN_i64 h
  · have : n = 0 := by simpa using h
    subst this
    decide
theorem hasT_fine {c : Cl} (h : hasT c = true) : ∃ (k nn : Nat) (wd : Bs) (pb : Bool), c.k = (k : Int) ∧ k < 20 ∧ callT[k]? = some (wd, (nn : Int), pb) ∧ rowT c.k.toNat = (wd, (nn : Int), pb) ∧ wd.length ≤ 1000000000 ∧ (nn = 0 ∨ nn = 1 ∨ nn = 2 ∨ nn = 3) ∧ I64 c.a ∧ I64 c.b ∧ I64 c.c ∧ ∀ x ∈ c.ps, I64 x.1 ∧ I64 x.2 := by
  unfold hasT at h
  simp only [Bool.and_eq_true, decide_eq_true_eq] at h
  obtain ⟨⟨h1, h2⟩, h3⟩ := h
  obtain ⟨k, hk⟩ : ∃ k : Nat, c.k = (k : Int) := ⟨c.k.toNat, by omega⟩
  have hk20 : k < callT.length := by show k < 20; omega
  obtain ⟨⟨wd, n, pb⟩, hq⟩ : ∃ q, callT[k]? = some q := ⟨_, List.getElem?_eq_getElem hk20⟩
  have hr := row_fine _ (List.mem_of_getElem? hq)
  obtain ⟨nn, rfl⟩ : ∃ nn : Nat, n = (nn : Int) := ⟨n.toNat, by have := hr.2; simp only at this; omega⟩
  have hrow : rowT c.k.toNat = (wd, (nn : Int), pb) := by rw [hk, Int.toNat_natCast]; exact rowT_at hq
  rw [hrow] at h3
  unfold fitsB at h3
  simp only [Bool.and_eq_true, List.all_eq_true] at h3
  obtain ⟨⟨⟨a1, a2⟩, a3⟩, a4⟩ := h3
  refine ⟨k, nn, wd, pb, hk, hk20, hq, hrow, hr.1, by have := hr.2; simp only at this; omega, fitN_i64 a1, fitN_i64 a2, fitN_i64 a3, fun x hx => ?_⟩
  have := a4 x hx
  exact ⟨isN_i64 this.1.2, isN_i64 this.2⟩
theorem range_of {w : World} {b : Nat} {cs : Array Value} {T : TypeId} {l : List Value} (h : w.heap[b]? = some (.cells cs T (0, 0))) (hl : ∀ (j : Nat) (v : Value), l[j]? = some v → cs[0 + j]? = some v) : w.rangeAt b 0 l := fun j v hj => (cell_at h (0 + j)).trans (hl j v hj)
theorem cells10 {w : World} {b : Nat} {v0 v1 v2 v3 v4 v5 v6 v7 v8 v9 : Value} {T : TypeId} (h : w.heap[b]? = some (.cells #[v0, v1, v2, v3, v4, v5, v6, v7, v8, v9] T (0, 0))) : b < w.heap.size ∧ w.cell? ⟨b, 6, none⟩ = some v6 ∧ w.cell? ⟨b, 7, none⟩ = some v7 ∧ w.cell? ⟨b, 8, none⟩ = some v8 ∧ w.cell? ⟨b, 9, none⟩ = some v9 ∧ w.rangeAt b 0 [v0, v1, v2, v3, v4, v5] :=
  ⟨lt_of_heap h, (cell_at h 6).trans rfl, (cell_at h 7).trans rfl, (cell_at h 8).trans rfl, (cell_at h 9).trans rfl, range_of h fun j v hj => by
    rcases j with _ | _ | _ | _ | _ | _ | j <;> first | exact hj | (simp at hj)⟩
/-- The numbers of a script fit. -/
structure SI (p w sl l f : Int) (S : List (Int × Int)) (T H : List Int) (u : Int) : Prop where
  p : I64 p
  w : I64 w
  sl : I64 sl
  l : I64 l
  f : I64 f
  S : ∀ x ∈ S, I64 x.1 ∧ I64 x.2
  T : ∀ x ∈ T, I64 x
  H : ∀ x ∈ H, I64 x
  u : I64 u
section
variable {w : World} {m : RM} {p wk sl ls f u : Int} {S : List (Int × Int)} {T H : List Int}
set_option maxRecDepth 100000 in
set_option maxHeartbeats 6400000 in
theorem cTextOf (hT : TabC w) (hP : PowW w) (hV : SV w m S T H) (hL : SL m S T H) (hI : SI p wk sl ls f S T H u) (hA : ∀ q ∈ m.rows.flatMap (·.2), hasT q.1 = true) : Calls Tryz.prog 49 #[.agg #[.int .i64 p, .int .i64 wk, .int .i64 sl, .int .i64 ls, m.vs, .int .i64 f, m.vw, m.vt, m.vh, .int .i64 u]] w fun q w' => q = .returned (.tuple #[sV ((textS p wk sl ls f S (m.rows.map fun p => p.2.map (·.1)) T H u).text.take (textS p wk sl ls f S (m.rows.map fun p => p.2.map (·.1)) T H u).start), .bool (!(textS p wk sl ls f S (m.rows.map fun p => p.2.map (·.1)) T H u).full)]) ∧ Turned [] w w' := by
  obtain ⟨va, vc, hv, -, -⟩ := hV.wrk.ex
  rw [List.length_map] at hv
  have HVW : Hid _ := hv
  obtain ⟨sa, sc, hvs, -, -⟩ := hV.src.ex
  have HI : Hid _ := hI
  have HL : Hid _ := hL
  have HA : Hid _ := hA
  have HTU : Hid (Turned [] w (w.alloc (.cells #[.int .i64 p, .int .i64 wk, .int .i64 sl, .int .i64 ls, m.vs, .int .i64 f, m.vw, m.vt, m.vh, .int .i64 u] 31))) := (Turned.refl [] w).alloc _
  have hbx := blk_new w (.cells #[.int .i64 p, .int .i64 wk, .int .i64 sl, .int .i64 ls, m.vs, .int .i64 f, m.vw, m.vt, m.vh, .int .i64 u] 31)
  have HBX : Hid _ := hbx
  have HT : Hid _ := hT.still HTU.out
  have HP : Hid _ := hP.still HTU.out
  have HV : Hid _ := hV.still HTU.out
  have HE : Hid (textS p wk sl ls f S (m.rows.map fun p => p.2.map (·.1)) T H u = endS (workS (setupS ⟨[], 0, 65536, false⟩ p wk sl ls f S) (m.rows.map fun p => p.2.map (·.1))) T H u) := rfl
  rw [HE.out]
  clear hT hP hV hL hI hA hbx HE hv hvs
  have HEd : Hid (∀ s : Sh, endS s T H u = (if u = 0 then listS (listS s [116, 117, 114, 110, 115] T) [104, 97, 108, 116] H else ((listS (listS s [116, 117, 114, 110, 115] T) [104, 97, 108, 116] H).named [117, 110, 116, 105, 108] u).fin)) := fun _ => rfl
  generalize hW0 : w.alloc (.cells #[.int .i64 p, .int .i64 wk, .int .i64 sl, .int .i64 ls, m.vs, .int .i64 f, m.vw, m.vt, m.vh, .int .i64 u] 31) = W0 at *
  have HW0 : Hid _ := hW0
  clear hW0
  go_enter Tryz.func49, Tryz.ntmps49
  go_wp2_with (first | (go_at_call 103; rw [HW0.out]; refine (cNewS (n := 65536) (by decide)).mono ?_; rintro r1 w1 ⟨sb, v1, rfl, hs, -⟩; have HS1 : Hid _ := hs; have hb1 := hs.tu.heap HBX.out (by simp); have HB1 : Hid _ := hb1; have HR1 : Hid _ := (cells10 hb1).2.2.2.2.2; clear hs hb1) | (refine wpList_load_mid rfl 25 (.tmp 11) rfl w.heap.size 0 rfl [.int .i64 p, .int .i64 wk, .int .i64 sl, .int .i64 ls, m.vs, .int .i64 f] _ HR1.out Tryz.underlying25 rfl (by kernel_rfl) ?_) | (go_at_call 104; refine (cSetupW HS1.out HP.out HV.out.src HI.out.p HI.out.w HI.out.sl HI.out.l HI.out.f HI.out.S HL.out.src).mono ?_; rintro r1 w2 ⟨rfl, hk, hs⟩; have HS2 : Hid (WS W0 W0 w2 sb w.heap.size #[.int .i64 p, .int .i64 wk, .int .i64 sl, .int .i64 ls, m.vs, .int .i64 f, m.vw, m.vt, m.vh, .int .i64 u] 31 (setupS ⟨[], 0, 65536, false⟩ p wk sl ls f S)) := ⟨(KeepS.still HS1.out.tu).trans hk, hk.cells HB1.out (by decide), hs⟩; clear hs hk HB1 HR1; obtain ⟨l1, c6, c7, c8, c9, -⟩ := cells10 HS2.out.blk; rw [HVW.out] at c6))
  clear l1 c6 c7 c8 c9
  have HWd : Hid (∀ W s, WS W0 W0 W sb w.heap.size #[.int .i64 p, .int .i64 wk, .int .i64 sl, .int .i64 ls, m.vs, .int .i64 f, m.vw, m.vt, m.vh, .int .i64 u] 31 s → Calls Tryz.prog 105 #[LP sb, .string ⟨#[119, 111, 114, 107, 101, 114]⟩] W (WP W0 W0 W sb w.heap.size #[.int .i64 p, .int .i64 wk, .int .i64 sl, .int .i64 ls, m.vs, .int .i64 f, m.vw, m.vt, m.vh, .int .i64 u] 31 (s.word [119, 111, 114, 107, 101, 114]))) := fun W s h => h.word (p := [119, 111, 114, 107, 101, 114]) (by decide) (by decide)
  have HFi : Hid (∀ W s, WS W0 W0 W sb w.heap.size #[.int .i64 p, .int .i64 wk, .int .i64 sl, .int .i64 ls, m.vs, .int .i64 f, m.vw, m.vt, m.vh, .int .i64 u] 31 s → Calls Tryz.prog 106 #[LP sb] W (WP W0 W0 W sb w.heap.size #[.int .i64 p, .int .i64 wk, .int .i64 sl, .int .i64 ls, m.vs, .int .i64 f, m.vw, m.vt, m.vh, .int .i64 u] 31 s.fin)) := fun W s h => h.fin (by decide)
  generalize hs1 : setupS ⟨[], 0, 65536, false⟩ p wk sl ls f S = s1 at *
  have HS1e : Hid _ := hs1
  clear hs1
  go_loopg [18] m.rows.length (fun g x wr => Hid (∃ i : Nat, x = .int .i64 i ∧ i + g = m.rows.length ∧ WS W0 W0 wr sb w.heap.size #[.int .i64 p, .int .i64 wk, .int .i64 sl, .int .i64 ls, m.vs, .int .i64 f, m.vw, m.vt, m.vh, .int .i64 u] 31 (workS s1 ((m.rows.take i).map fun p => p.2.map (·.1)))))
  case atStart => exact ⟨0, rfl, by omega, HS2.out⟩
  case round =>
    obtain ⟨i, rfl, hi, hs⟩ := hrel.out
    clear hrel
    have HS : Hid _ := hs
    have hml := HL.out.wrk
    by_cases hlt : i < m.rows.length
    · obtain ⟨g, rfl⟩ : ∃ g, gk = g + 1 := ⟨gk - 1, by omega⟩
      obtain ⟨a, c, cs, b, o, d, hr, hvw, hb, hc, hR, hPr⟩ := (HV.out.still hs.tu).row hlt
      have hvw2 := hvw
      rw [HVW.out] at hvw2
      simp only [Value.slice.injEq] at hvw2
      obtain ⟨rfl, -, rfl⟩ := hvw2
      have HSt : Hid (∀ s0, rowS s0 (cs.map (·.1)) = (cs.map (·.1)).foldl wc (s0.word [119, 111, 114, 107, 101, 114]).fin) := fun _ => rfl
      have HNx : Hid (workS s1 ((m.rows.take (i + 1)).map fun p => p.2.map (·.1)) = rowS (workS s1 ((m.rows.take i).map fun p => p.2.map (·.1))) (cs.map (·.1))) := by
        rw [Hid, List.take_add_one, List.getElem?_eq_getElem hlt, List.map_append, workS, List.foldl_append, hr]
        rfl
      have hmem := List.getElem_mem hlt
      have HPL : Hid (∀ q ∈ cs, q.1.ps.length ≤ 1000000000) := fun q hq => HL.out.prs _ hmem q (by rw [hr]; exact hq)
      have HAc : Hid (∀ q ∈ cs, hasT q.1 = true) := fun q hq => HA.out q (List.mem_flatMap.2 ⟨_, hmem, by rw [hr]; exact hq⟩)
      have hcl : cs.length ≤ 1000000000 := by
        have h1 := HL.out.rws
        have h2 : (m.rows.take (i + 1)).flatMap (·.2) = (m.rows.take i).flatMap (·.2) ++ cs := by rw [fm_succ _ hlt, hr]
        have h3 : m.rows.flatMap (·.2) = (m.rows.take (i + 1)).flatMap (·.2) ++ (m.rows.drop (i + 1)).flatMap (·.2) := by rw [← List.flatMap_append, List.take_append_drop]
        rw [h3, h2, List.length_append, List.length_append] at h1
        omega
      have HRow : Hid (VW encC W0 (.slice a cs.length c) cs) := by have := HV.out.rws _ hmem; rw [hr] at this; exact this
      have HPs : Hid (∀ q ∈ cs, VW encP W0 q.2.v q.1.ps) := fun q hq => HV.out.prs _ hmem q (by rw [hr]; exact hq)
      generalize workS s1 ((m.rows.take i).map fun p => p.2.map (·.1)) = s2 at *
      clear hr hvw hR hPr hmem hs
      unfold WP at HWd HFi
      go_wp2_with (first | (go_at_call 106; refine (HFi.out _ _ HS3.out).mono ?_; rintro r1 w4 ⟨rfl, -, hs⟩; have HS4 : Hid _ := hs; clear hs) | (go_at_call 105; refine (HWd.out _ _ HS.out).mono ?_; rintro r1 w3 ⟨rfl, -, hs⟩; have HS3 : Hid _ := hs; clear hs hb hc))
      have HSt2 := HSt.out s2
      have HSt3 : Hid _ := HSt2
      clear HSt HSt2
      generalize (s2.word [119, 111, 114, 107, 101, 114]).fin = s3 at *
      go_loopg [28] cs.length (fun g x wr => Hid (∃ j : Nat, x = .int .i64 j ∧ j + g = cs.length ∧ WS W0 W0 wr sb w.heap.size #[.int .i64 p, .int .i64 wk, .int .i64 sl, .int .i64 ls, m.vs, .int .i64 f, m.vw, m.vt, m.vh, .int .i64 u] 31 (((cs.take j).map (·.1)).foldl wc s3)))
      case atStart => exact ⟨0, rfl, by omega, HS4.out⟩
      case round =>
        obtain ⟨j, rfl, hj, hs⟩ := hrel.out
        clear hrel
        have HSj : Hid _ := hs
        by_cases hjt : j < cs.length
        · obtain ⟨g2, rfl⟩ : ∃ g, gk = g + 1 := ⟨gk - 1, by omega⟩
          obtain ⟨b2, o2, d2, k, ca, cb, cc, ps, pa, pn, pc, hv2, hb2, hr2, hc0, hc1, hc2, hc3, hc4⟩ := (HRow.out.still hs.tu).call hjt
          simp only [Value.slice.injEq] at hv2
          obtain ⟨rfl, -, rfl⟩ := hv2
          have hmem := List.getElem_mem hjt
          have hp := HPs.out _ hmem
          have hpl := HPL.out _ hmem
          have hha := HAc.out _ hmem
          rw [hr2] at hp hpl hha
          obtain ⟨kn, nn, wd, pb, hk, hk20, hq, hrow, hwl, hnn, i1, i2, i3, i4⟩ := hasT_fine hha
          simp only at hk hp hpl i1 i2 i3 i4 hrow
          subst hk
          have HX : Hid (WS W0 W0 (wr.alloc (.cells #[.int .i64 kn, .int .i64 ca, .int .i64 cb, .int .i64 cc, .slice pa pn pc] 79)) sb w.heap.size #[.int .i64 p, .int .i64 wk, .int .i64 sl, .int .i64 ls, m.vs, .int .i64 f, m.vw, m.vt, m.vh, .int .i64 u] 31 (((cs.take j).map (·.1)).foldl wc s3)) := hs.still ((Turned.refl _ _).alloc _)
          have hrw := (HT.out.still HX.out.tu).row hq
          have HRw : Hid _ := hrw
          have t0 := hrw 0 _ rfl
          rw [Nat.add_zero] at t0
          have t1 := hrw 1 _ rfl
          have t2 := hrw 2 _ rfl
          have hlt1 := TabC.lt (HT.out.still HX.out.tu)
          have hk20i : (kn : Int) < 20 := by omega
          have HWr : Hid (∀ W s, WS W0 W0 W sb w.heap.size #[.int .i64 p, .int .i64 wk, .int .i64 sl, .int .i64 ls, m.vs, .int .i64 f, m.vw, m.vt, m.vh, .int .i64 u] 31 s → Calls Tryz.prog 107 #[.agg #[sV wd, .int .i64 nn, .bool pb], LP sb, .agg #[.int .i64 kn, .int .i64 ca, .int .i64 cb, .int .i64 cc, .slice pa pn pc]] W fun q w' => q = .returned (.tuple #[]) ∧ WS W0 W0 w' sb w.heap.size #[.int .i64 p, .int .i64 wk, .int .i64 sl, .int .i64 ls, m.vs, .int .i64 f, m.vw, m.vt, m.vh, .int .i64 u] 31 (wc s ⟨kn, ca, cb, cc, ps⟩)) := fun W s h => (h.of (by decide) fun v hs => by
            have := cWrite (pb := pb) (k := kn) hs HP.out hp hwl hnn i1 i2 i3 i4 hpl
            rw [show wc s ⟨kn, ca, cb, cc, ps⟩ = writeC (wd, nn, pb) s ⟨kn, ca, cb, cc, ps⟩ from by rw [wc, hrow]]
            exact this).mono fun _ _ h => ⟨h.1, h.2.2⟩
          have HTk : Hid ((((cs.take (j + 1)).map (·.1)).foldl wc s3) = wc (((cs.take j).map (·.1)).foldl wc s3) ⟨kn, ca, cb, cc, ps⟩) := by
            rw [Hid, List.take_add_one, List.getElem?_eq_getElem hjt, hr2, List.map_append, List.foldl_append]
            rfl
          generalize (((cs.take j).map (·.1)).foldl wc s3) = s4 at *
          clear hrw hmem hp hpl hha hr2 hq hrow hwl hnn i1 i2 i3 i4 hs
          go_wp2
          go_region_law (go_simp; go_at_call 107; refine (HWr.out _ _ (HX.out.still ?_)).mono ?_; (focus (repeat first | exact Turned.refl _ _ | refine Turned.drew ?_ | refine Turned.alloc ?_ _)); rintro r1 w5 ⟨rfl, hs⟩; have HS5 : Hid _ := hs; clear hs; try go_wp2_with fail)
          all_goals
            clear hc0 hc1 hc2 hc3 hc4 t0 t1 t2
            go_wp2
            go_roundg g2
            case rel => exact ⟨j + 1, by first | (simp; done) | (simp; unfold wrap64; omega), by omega, by rw [HTk.out]; exact HS5.out⟩
            · omega
        · obtain rfl : j = cs.length := by omega
          have HF : Hid (WS W0 W0 wr sb w.heap.size #[.int .i64 p, .int .i64 wk, .int .i64 sl, .int .i64 ls, m.vs, .int .i64 f, m.vw, m.vt, m.vh, .int .i64 u] 31 ((cs.map (·.1)).foldl wc s3)) := by rw [List.take_length] at hs; exact hs
          clear hs
          go_wp2
          go_roundg g
          case rel => exact ⟨i + 1, by first | (simp; done) | (simp; unfold wrap64; omega), by omega, by rw [HNx.out, HSt3.out]; exact HF.out⟩
          · omega
    · obtain rfl : i = m.rows.length := by omega
      have HF : Hid (WS W0 W0 wr sb w.heap.size #[.int .i64 p, .int .i64 wk, .int .i64 sl, .int .i64 ls, m.vs, .int .i64 f, m.vw, m.vt, m.vh, .int .i64 u] 31 (workS s1 (m.rows.map fun p => p.2.map (·.1)))) := by rw [List.take_length] at hs; exact hs
      have HN0 : Hid _ := HEd.out (workS s1 (m.rows.map fun p => p.2.map (·.1)))
      clear hs HEd
      have HLi : Hid (∀ W s q l uv, WS W0 W0 W sb w.heap.size #[.int .i64 p, .int .i64 wk, .int .i64 sl, .int .i64 ls, m.vs, .int .i64 f, m.vw, m.vt, m.vh, .int .i64 u] 31 s → q.length ≤ 1000000000 → VW encI W0 uv l → (∀ n ∈ l, I64 n) → l.length ≤ 1000000000 → Calls Tryz.prog 108 #[LP sb, sV q, uv] W (WP W0 W0 W sb w.heap.size #[.int .i64 p, .int .i64 wk, .int .i64 sl, .int .i64 ls, m.vs, .int .i64 f, m.vw, m.vt, m.vh, .int .i64 u] 31 (listS s q l))) := fun W s q l uv h hq hu hl hn => h.of (by decide) fun v hs => cWriteList hs HP.out hq hu hl hn
      unfold WP at HLi HFi
      obtain ⟨l1, c6, c7, c8, c9, -⟩ := cells10 HF.out.blk
      by_cases hu : u = 0
      · have hn := HN0.out
        rw [if_pos hu] at hn
        have HN1 : Hid _ := hn
        clear hn HN0
        subst hu
        go_wp2_with (first | (go_at_call 110; obtain ⟨v9, hs9⟩ := HT2.out.sx; refine (cTextS hs9).mono ?_; rintro r1 w10 ⟨rfl, ht⟩; have HT9 : Hid (Turned [] w w10) := HTU.out.trans (hs9.tu.trans ht); clear ht hs9) | (go_at_call 108; refine (HLi.out _ _ [104, 97, 108, 116] H m.vh HT1.out (by decide) HV.out.hlt HI.out.H HL.out.hlt).mono ?_; rintro r1 w7 ⟨rfl, -, hs⟩; have HT2 : Hid _ := hs; clear l1 c6 c7 c8 c9; obtain ⟨l1, c6, c7, c8, c9, -⟩ := cells10 hs.blk; clear hs) | (go_at_call 108; refine (HLi.out _ _ [116, 117, 114, 110, 115] T m.vt HF.out (by decide) HV.out.trn HI.out.T HL.out.trn).mono ?_; rintro r1 w6 ⟨rfl, -, hs⟩; have HT1 : Hid _ := hs; clear l1 c6 c7 c8 c9; obtain ⟨l1, c6, c7, c8, c9, -⟩ := cells10 hs.blk; clear hs))
        refine bodyPost_ret (results_tmp2 rfl _ _ _) rfl ?_
        rw [HS1e.out, HN1.out]
        exact ⟨rfl, HT9.out⟩
      · have hn := HN0.out
        rw [if_neg hu] at hn
        have HN1 : Hid _ := hn
        clear hn HN0
        go_wp2_with (first | (go_at_call 110; obtain ⟨v9, hs9⟩ := HT4.out.sx; refine (cTextS hs9).mono ?_; rintro r1 w10 ⟨rfl, ht⟩; have HT9 : Hid (Turned [] w w10) := HTU.out.trans (hs9.tu.trans ht); clear ht hs9) | (go_at_call 106; refine (HFi.out _ _ HT3.out).mono ?_; rintro r1 w9 ⟨rfl, -, hs⟩; have HT4 : Hid _ := hs; clear hs) | (go_at_call 109; refine (HT2.out.named (p := [117, 110, 116, 105, 108]) (by decide) HP.out HI.out.u (by decide)).mono ?_; rintro r1 w8 ⟨rfl, -, hs⟩; have HT3 : Hid _ := hs; clear hs) | (go_at_call 108; refine (HLi.out _ _ [104, 97, 108, 116] H m.vh HT1.out (by decide) HV.out.hlt HI.out.H HL.out.hlt).mono ?_; rintro r1 w7 ⟨rfl, -, hs⟩; have HT2 : Hid _ := hs; clear l1 c6 c7 c8 c9; obtain ⟨l1, c6, c7, c8, c9, -⟩ := cells10 hs.blk; clear hs) | (go_at_call 108; refine (HLi.out _ _ [116, 117, 114, 110, 115] T m.vt HF.out (by decide) HV.out.trn HI.out.T HL.out.trn).mono ?_; rintro r1 w6 ⟨rfl, -, hs⟩; have HT1 : Hid _ := hs; clear l1 c6 c7 c8 c9; obtain ⟨l1, c6, c7, c8, c9, -⟩ := cells10 hs.blk; clear hs))
        refine bodyPost_ret (results_tmp2 rfl _ _ _) rfl ?_
        rw [HS1e.out, HN1.out]
        exact ⟨rfl, HT9.out⟩
end
end Go.Proofs.YtbnpdfakniebnaaGreatDoor

/-
  A setup written on a sheet, by contract. (By the verifier; no statement.)
-/
import Derived.Test.YtbnpdfakniebnaaGreatDoorSpWr
namespace Go.Proofs.YtbnpdfakniebnaaGreatDoor
open Go.RowKit
def srcS (s : Sh) (x : Int × Int) : Sh := ((s.named [115, 111, 117, 114, 99, 101] x.1).num x.2).fin
def headS (s : Sh) (p w sl l f : Int) : Sh :=
  let s4 := (((s.named [112, 97, 114, 116, 115] p).named [119, 111, 114, 107, 101, 114, 115] w).named [115, 108, 111, 116, 115] sl).named [108, 101, 97, 115, 101, 115] l
  (if f = 0 then s4 else s4.named [102, 97, 105, 108, 115] f).fin
def setupS (s : Sh) (p w sl l f : Int) (S : List (Int × Int)) : Sh := S.foldl srcS (headS s p w sl l f)
theorem cells6 {w : World} {b : Nat} {v0 v1 v2 v3 v4 v5 : Value} {T : TypeId} (h : w.heap[b]? = some (.cells #[v0, v1, v2, v3, v4, v5] T (0, 0))) : b < w.heap.size ∧ w.cell? ⟨b, 1, none⟩ = some v1 ∧ w.cell? ⟨b, 2, none⟩ = some v2 ∧ w.cell? ⟨b, 3, none⟩ = some v3 ∧ w.cell? ⟨b, 4, none⟩ = some v4 ∧ w.cell? ⟨b, 5, none⟩ = some v5 :=
  ⟨lt_of_heap h, (cell_at h 1).trans rfl, (cell_at h 2).trans rfl, (cell_at h 3).trans rfl, (cell_at h 4).trans rfl, (cell_at h 5).trans rfl⟩
section
variable {W0 w : World} {sb : Nat} {s : Sh} {v pv : Value}
set_option maxRecDepth 100000 in
set_option maxHeartbeats 6400000 in
theorem cSetupW (h : SX W0 w sb v s) (hT : PowW W0) {p wk sl ls f : Int} {S : List (Int × Int)} (hv : VW encP W0 pv S) (i1 : I64 p) (i2 : I64 wk) (i3 : I64 sl) (i4 : I64 ls) (i5 : I64 f) (iS : ∀ x ∈ S, I64 x.1 ∧ I64 x.2) (hl : S.length ≤ 1000000000) : Calls Tryz.prog 104 #[LP sb, .agg #[.int .i64 p, .int .i64 wk, .int .i64 sl, .int .i64 ls, pv, .int .i64 f]] w (SP W0 w sb (setupS s p wk sl ls f S)) := by
  have HV : Hid _ := hv
  obtain ⟨pa, pc, rfl, -, -⟩ := hv.ex
  have HS0 : Hid (WS W0 w (w.alloc (.cells #[.int .i64 p, .int .i64 wk, .int .i64 sl, .int .i64 ls, .slice pa S.length pc, .int .i64 f] 25)) sb w.heap.size #[.int .i64 p, .int .i64 wk, .int .i64 sl, .int .i64 ls, .slice pa S.length pc, .int .i64 f] 25 s) := ⟨KeepS.still ((Turned.refl _ _).alloc _), blk_new _ _, v, h.still ((Turned.refl _ _).alloc _)⟩
  have HNm : Hid (∀ W s q n, WS W0 w W sb w.heap.size #[.int .i64 p, .int .i64 wk, .int .i64 sl, .int .i64 ls, .slice pa S.length pc, .int .i64 f] 25 s → I64 n → q.length ≤ 1000000000 → Calls Tryz.prog 109 #[LP sb, sV q, .int .i64 n] W (WP W0 w W sb w.heap.size #[.int .i64 p, .int .i64 wk, .int .i64 sl, .int .i64 ls, .slice pa S.length pc, .int .i64 f] 25 (s.named q n))) := fun W s q n h hn hq => h.named (by decide) hT hn hq
  have HNu : Hid (∀ W s n, WS W0 w W sb w.heap.size #[.int .i64 p, .int .i64 wk, .int .i64 sl, .int .i64 ls, .slice pa S.length pc, .int .i64 f] 25 s → I64 n → Calls Tryz.prog 139 #[LP sb, .int .i64 n] W (WP W0 w W sb w.heap.size #[.int .i64 p, .int .i64 wk, .int .i64 sl, .int .i64 ls, .slice pa S.length pc, .int .i64 f] 25 (s.num n))) := fun W s n h hn => h.num (by decide) hT hn
  have HFi : Hid (∀ W s, WS W0 w W sb w.heap.size #[.int .i64 p, .int .i64 wk, .int .i64 sl, .int .i64 ls, .slice pa S.length pc, .int .i64 f] 25 s → Calls Tryz.prog 106 #[LP sb] W (WP W0 w W sb w.heap.size #[.int .i64 p, .int .i64 wk, .int .i64 sl, .int .i64 ls, .slice pa S.length pc, .int .i64 f] 25 s.fin)) := fun W s h => h.fin (by decide)
  have HI1 : Hid _ := i1
  have HI2 : Hid _ := i2
  have HI3 : Hid _ := i3
  have HI4 : Hid _ := i4
  have HI5 : Hid _ := i5
  have HIS : Hid _ := iS
  have HE : Hid (setupS s p wk sl ls f S = S.foldl srcS (headS s p wk sl ls f)) := rfl
  rw [HE.out]
  clear HE h hT hv i1 i2 i3 i4 i5 iS
  have HEh : Hid (headS s p wk sl ls f = (if f = 0 then ((((s.named [112, 97, 114, 116, 115] p).named [119, 111, 114, 107, 101, 114, 115] wk).named [115, 108, 111, 116, 115] sl).named [108, 101, 97, 115, 101, 115] ls) else (((((s.named [112, 97, 114, 116, 115] p).named [119, 111, 114, 107, 101, 114, 115] wk).named [115, 108, 111, 116, 115] sl).named [108, 101, 97, 115, 101, 115] ls).named [102, 97, 105, 108, 115] f)).fin) := rfl
  generalize headS s p wk sl ls f = s6 at *
  unfold WP at *
  by_cases hf : f = 0
  · subst hf
    rw [Hid, if_pos rfl] at HEh
    have HEh2 : Hid _ := HEh
    clear HEh
    go_enter Tryz.func104, Tryz.ntmps104
    go_wp2_with (first | (go_at_call 106; refine (HFi.out _ _ HS4.out).mono ?_; rintro r1 w6 ⟨rfl, -, hs⟩; have HS6 : Hid (WS W0 w w6 sb w.heap.size #[.int .i64 p, .int .i64 wk, .int .i64 sl, .int .i64 ls, .slice pa S.length pc, .int .i64 0] 25 s6) := (by rw [Hid, HEh2.out]; exact hs); clear l1 c1 c2 c3 c4 c5; obtain ⟨l1, c1, c2, c3, c4, c5⟩ := cells6 hs.blk; clear hs) | (go_at_call 109; refine (HNm.out _ _ [102, 97, 105, 108, 115] _ HS4.out HI5.out (by decide)).mono ?_; rintro r1 w5 ⟨rfl, -, hs⟩; have HS5 : Hid _ := hs; clear l1 c1 c2 c3 c4 c5; obtain ⟨l1, c1, c2, c3, c4, c5⟩ := cells6 hs.blk; clear hs) | (go_at_call 109; refine (HNm.out _ _ [108, 101, 97, 115, 101, 115] _ HS3.out HI4.out (by decide)).mono ?_; rintro r1 w4 ⟨rfl, -, hs⟩; have HS4 : Hid _ := hs; clear l1 c1 c2 c3 c4 c5; obtain ⟨l1, c1, c2, c3, c4, c5⟩ := cells6 hs.blk; clear hs) | (go_at_call 109; refine (HNm.out _ _ [115, 108, 111, 116, 115] _ HS2.out HI3.out (by decide)).mono ?_; rintro r1 w3 ⟨rfl, -, hs⟩; have HS3 : Hid _ := hs; clear l1 c1 c2 c3 c4 c5; obtain ⟨l1, c1, c2, c3, c4, c5⟩ := cells6 hs.blk; clear hs) | (go_at_call 109; refine (HNm.out _ _ [119, 111, 114, 107, 101, 114, 115] _ HS1.out HI2.out (by decide)).mono ?_; rintro r1 w2 ⟨rfl, -, hs⟩; have HS2 : Hid _ := hs; clear l1 c1 c2 c3 c4 c5; obtain ⟨l1, c1, c2, c3, c4, c5⟩ := cells6 hs.blk; clear hs) | (go_at_call 109; refine (HNm.out _ _ [112, 97, 114, 116, 115] _ HS0.out HI1.out (by decide)).mono ?_; rintro r1 w1 ⟨rfl, -, hs⟩; have HS1 : Hid _ := hs; obtain ⟨l1, c1, c2, c3, c4, c5⟩ := cells6 hs.blk; clear hs))
    clear HEh2 c1 c2 c3 c4 c5 l1
    go_loopg [34] S.length (fun g x wr => Hid (∃ i : Nat, x = .int .i64 i ∧ i + g = S.length ∧ WS W0 w wr sb w.heap.size #[.int .i64 p, .int .i64 wk, .int .i64 sl, .int .i64 ls, .slice pa S.length pc, .int .i64 0] 25 ((S.take i).foldl srcS s6)))
    case atStart => exact ⟨0, rfl, by omega, HS6.out⟩
    case round =>
      obtain ⟨i, rfl, hi, hs⟩ := hrel.out
      clear hrel
      have HS : Hid _ := hs
      by_cases hlt : i < S.length
      · obtain ⟨g, rfl⟩ : ∃ g, gk = g + 1 := ⟨gk - 1, by omega⟩
        obtain ⟨b, o, c, hv, hb, hc⟩ := (HV.out.still hs.tu).get enP (by decide) hlt
        simp only [Value.slice.injEq] at hv
        obtain ⟨rfl, -, rfl⟩ := hv
        have HIx : Hid _ := HIS.out _ (List.getElem_mem hlt)
        have HSt : Hid ((S.take (i + 1)).foldl srcS s6 = srcS ((S.take i).foldl srcS s6) S[i]) := by
          rw [Hid, List.take_add_one, List.getElem?_eq_getElem hlt, List.foldl_append]
          rfl
        generalize S[i] = n at *
        obtain ⟨n1, n2⟩ := n
        have hc0 := hc 0 (.int .i64 n1) rfl
        have hc1 := hc 1 (.int .i64 n2) rfl
        rw [Nat.add_zero] at hc0
        rw [← Nat.add_assoc] at hc1
        have HA : Hid _ := hs.still ((Turned.refl [] wr).alloc (.cells #[.int .i64 n1, .int .i64 n2] 157))
        clear hc hs
        go_wp2_with (first | (go_at_call 109; refine (HNm.out _ _ [115, 111, 117, 114, 99, 101] _ HA.out HIx.out.1 (by decide)).mono ?_; rintro r1 w1 ⟨rfl, hk, hs⟩; have HB1 : Hid _ := hs; have hb2 := hk.cells (blk_new wr (.cells #[.int .i64 n1, .int .i64 n2] 157)) (by decide); have e1 := lt_of_heap hb2; have e2 := (cell_at hb2 1).trans (show _ = some (Value.int .i64 n2) from rfl); clear hs hk hb2) | (go_at_call 139; refine (HNu.out _ _ _ HB1.out HIx.out.2).mono ?_; rintro r1 w2 ⟨rfl, -, hs⟩; have HB2 : Hid _ := hs; clear hs) | (go_at_call 106; refine (HFi.out _ _ HB2.out).mono ?_; rintro r1 w3 ⟨rfl, -, hs⟩; have HB3 : Hid _ := hs; clear hs))
        go_roundg g
        case rel => exact ⟨i + 1, by first | (simp; done) | (simp; unfold wrap64; omega), by omega, by rw [HSt.out]; exact HB3.out⟩
        · omega
      · obtain rfl : i = S.length := by omega
        have HF : Hid (WS W0 w wr sb w.heap.size #[.int .i64 p, .int .i64 wk, .int .i64 sl, .int .i64 ls, .slice pa S.length pc, .int .i64 0] 25 (S.foldl srcS s6)) := by rw [List.take_length] at hs; exact hs
        clear hs
        go_wp2
        refine bodyPost_end (results_none rfl _ _ _) rfl ?_
        exact ⟨rfl, HF.out.ks, HF.out.sx⟩
  · rw [Hid, if_neg hf] at HEh
    have HEh2 : Hid _ := HEh
    clear HEh
    go_enter Tryz.func104, Tryz.ntmps104
    go_wp2_with (first | (go_at_call 106; refine (HFi.out _ _ HS5.out).mono ?_; rintro r1 w6 ⟨rfl, -, hs⟩; have HS6 : Hid (WS W0 w w6 sb w.heap.size #[.int .i64 p, .int .i64 wk, .int .i64 sl, .int .i64 ls, .slice pa S.length pc, .int .i64 f] 25 s6) := (by rw [Hid, HEh2.out]; exact hs); clear l1 c1 c2 c3 c4 c5; obtain ⟨l1, c1, c2, c3, c4, c5⟩ := cells6 hs.blk; clear hs) | (go_at_call 109; refine (HNm.out _ _ [102, 97, 105, 108, 115] _ HS4.out HI5.out (by decide)).mono ?_; rintro r1 w5 ⟨rfl, -, hs⟩; have HS5 : Hid _ := hs; clear l1 c1 c2 c3 c4 c5; obtain ⟨l1, c1, c2, c3, c4, c5⟩ := cells6 hs.blk; clear hs) | (go_at_call 109; refine (HNm.out _ _ [108, 101, 97, 115, 101, 115] _ HS3.out HI4.out (by decide)).mono ?_; rintro r1 w4 ⟨rfl, -, hs⟩; have HS4 : Hid _ := hs; clear l1 c1 c2 c3 c4 c5; obtain ⟨l1, c1, c2, c3, c4, c5⟩ := cells6 hs.blk; clear hs) | (go_at_call 109; refine (HNm.out _ _ [115, 108, 111, 116, 115] _ HS2.out HI3.out (by decide)).mono ?_; rintro r1 w3 ⟨rfl, -, hs⟩; have HS3 : Hid _ := hs; clear l1 c1 c2 c3 c4 c5; obtain ⟨l1, c1, c2, c3, c4, c5⟩ := cells6 hs.blk; clear hs) | (go_at_call 109; refine (HNm.out _ _ [119, 111, 114, 107, 101, 114, 115] _ HS1.out HI2.out (by decide)).mono ?_; rintro r1 w2 ⟨rfl, -, hs⟩; have HS2 : Hid _ := hs; clear l1 c1 c2 c3 c4 c5; obtain ⟨l1, c1, c2, c3, c4, c5⟩ := cells6 hs.blk; clear hs) | (go_at_call 109; refine (HNm.out _ _ [112, 97, 114, 116, 115] _ HS0.out HI1.out (by decide)).mono ?_; rintro r1 w1 ⟨rfl, -, hs⟩; have HS1 : Hid _ := hs; obtain ⟨l1, c1, c2, c3, c4, c5⟩ := cells6 hs.blk; clear hs))
    clear HEh2 c1 c2 c3 c4 c5 l1
    go_loopg [34] S.length (fun g x wr => Hid (∃ i : Nat, x = .int .i64 i ∧ i + g = S.length ∧ WS W0 w wr sb w.heap.size #[.int .i64 p, .int .i64 wk, .int .i64 sl, .int .i64 ls, .slice pa S.length pc, .int .i64 f] 25 ((S.take i).foldl srcS s6)))
    case atStart => exact ⟨0, rfl, by omega, HS6.out⟩
    case round =>
      obtain ⟨i, rfl, hi, hs⟩ := hrel.out
      clear hrel
      have HS : Hid _ := hs
      by_cases hlt : i < S.length
      · obtain ⟨g, rfl⟩ : ∃ g, gk = g + 1 := ⟨gk - 1, by omega⟩
        obtain ⟨b, o, c, hv, hb, hc⟩ := (HV.out.still hs.tu).get enP (by decide) hlt
        simp only [Value.slice.injEq] at hv
        obtain ⟨rfl, -, rfl⟩ := hv
        have HIx : Hid _ := HIS.out _ (List.getElem_mem hlt)
        have HSt : Hid ((S.take (i + 1)).foldl srcS s6 = srcS ((S.take i).foldl srcS s6) S[i]) := by
          rw [Hid, List.take_add_one, List.getElem?_eq_getElem hlt, List.foldl_append]
          rfl
        generalize S[i] = n at *
        obtain ⟨n1, n2⟩ := n
        have hc0 := hc 0 (.int .i64 n1) rfl
        have hc1 := hc 1 (.int .i64 n2) rfl
        rw [Nat.add_zero] at hc0
        rw [← Nat.add_assoc] at hc1
        have HA : Hid _ := hs.still ((Turned.refl [] wr).alloc (.cells #[.int .i64 n1, .int .i64 n2] 157))
        clear hc hs
        go_wp2_with (first | (go_at_call 109; refine (HNm.out _ _ [115, 111, 117, 114, 99, 101] _ HA.out HIx.out.1 (by decide)).mono ?_; rintro r1 w1 ⟨rfl, hk, hs⟩; have HB1 : Hid _ := hs; have hb2 := hk.cells (blk_new wr (.cells #[.int .i64 n1, .int .i64 n2] 157)) (by decide); have e1 := lt_of_heap hb2; have e2 := (cell_at hb2 1).trans (show _ = some (Value.int .i64 n2) from rfl); clear hs hk hb2) | (go_at_call 139; refine (HNu.out _ _ _ HB1.out HIx.out.2).mono ?_; rintro r1 w2 ⟨rfl, -, hs⟩; have HB2 : Hid _ := hs; clear hs) | (go_at_call 106; refine (HFi.out _ _ HB2.out).mono ?_; rintro r1 w3 ⟨rfl, -, hs⟩; have HB3 : Hid _ := hs; clear hs))
        go_roundg g
        case rel => exact ⟨i + 1, by first | (simp; done) | (simp; unfold wrap64; omega), by omega, by rw [HSt.out]; exact HB3.out⟩
        · omega
      · obtain rfl : i = S.length := by omega
        have HF : Hid (WS W0 w wr sb w.heap.size #[.int .i64 p, .int .i64 wk, .int .i64 sl, .int .i64 ls, .slice pa S.length pc, .int .i64 f] 25 (S.foldl srcS s6)) := by rw [List.take_length] at hs; exact hs
        clear hs
        go_wp2
        refine bodyPost_end (results_none rfl _ _ _) rfl ?_
        exact ⟨rfl, HF.out.ks, HF.out.sx⟩
end
end Go.Proofs.YtbnpdfakniebnaaGreatDoor

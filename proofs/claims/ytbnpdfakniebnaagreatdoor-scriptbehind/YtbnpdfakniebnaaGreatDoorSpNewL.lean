/-
  newLine by contract: a line's words in memory. (By the verifier; no statement.)
-/
import Derived.Test.YtbnpdfakniebnaaGreatDoorSpShelf
import Derived.Test.YtbnpdfakniebnaaGreatDoorSpLine2
import Derived.Test.YtbnpdfakniebnaaGreatDoorSpWord2
import Derived.RegionTactic
namespace Go.Proofs.YtbnpdfakniebnaaGreatDoor
open Go.RowKit
/-- What the library's ways ask of memory. -/
structure LibW (w : World) : Prop where
  mx : ∃ m, w.cell? ⟨4, 0, none⟩ = some (.int .i64 m)
theorem LibW.keep {w w' : World} {l : List Nat} (h : LibW w) (ht : Turned l w w') (h0 : 4 ∉ l) : LibW w' := by
  obtain ⟨m, hm⟩ := h.mx
  exact ⟨m, ht.cell hm h0⟩
theorem LibW.still {w w' : World} (h : LibW w) (ht : Turned [] w w') : LibW w' := h.keep ht (by simp)
theorem Turned.drewN (w : World) (n : Nat) : Turned [] w (w.drewN n) := ⟨rfl, rfl, rfl, Nat.le_refl _, fun _ _ _ => rfl⟩
theorem cBlank (W : World) (x : Nat) : Calls Tryz.prog 132 #[.int .i32 (x : Int)] W fun r w' => r = .returned (.bool (pBl x)) ∧ w' = W := by
  by_cases h1 : x = 32
  · subst h1
    go_enter Tryz.func132, Tryz.ntmps132
    go_wp2
    go_ret
    exact ⟨rfl, rfl⟩
  · have e : Hid ((((x : Int) == 32) || ((x : Int) == 9)) = pBl x) := by
      have h1' : ((x : Int) == 32) = false := by rw [beq_eq_false_iff_ne]; omega
      have h1'' : (x == 32) = false := by simpa using h1
      rw [Hid]
      unfold pBl
      rw [h1', h1'']
      by_cases h2 : x = 9
      · subst h2; rfl
      · have h2' : ((x : Int) == 9) = false := by rw [beq_eq_false_iff_ne]; omega
        have h2'' : (x == 9) = false := by simpa using h2
        rw [h2', h2'']
    have hx : ((x : Int) == 32) = false := by rw [beq_eq_false_iff_ne]; omega
    clear h1
    go_enter Tryz.func132, Tryz.ntmps132
    go_wp2
    go_ret
    refine ⟨?_, rfl⟩
    rw [← e.out, hx]
    rfl
theorem blank_pred (w : World) : PredAtRunes Tryz.prog 132 #[] pBl w := fun W x _ _ => (cBlank W x).mono fun _ _ ⟨h1, h2⟩ => ⟨h1, 0, h2⟩
theorem cCut {w : World} (hL : LibW w) {t : Bs} (ht : t.length < 4294967281) : Calls Tryz.prog 130 #[sV t, .string ⟨#[35]⟩] w fun r w' => ∃ a b, r = .returned (.tuple #[sV (bareB t), .string a, .bool b]) ∧ Turned [] w w' := by
  obtain ⟨m, hm⟩ := hL.mx
  refine (Tryz.strings_Cut ⟨t.toArray⟩ ⟨#[35]⟩ m w (by rw [size_of]; exact ht) hm).mono ?_
  rintro r w' ⟨rfl, n, rfl⟩
  refine ⟨⟨(Lib.cut t [35]).2.1.toArray⟩, (Lib.cut t [35]).2.2, ?_, Turned.drewN w n⟩
  have : (Lib.cut t [35]).1 = bareB t := cut_bare t
  show Ending.returned (.tuple #[.string ⟨(Lib.cut t [35]).1.toArray⟩, .string ⟨(Lib.cut t [35]).2.1.toArray⟩, .bool (Lib.cut t [35]).2.2]) = _
  rw [this]
theorem cFields {w : World} {x : Bs} (hx : x.length ≤ 4294967296) : Calls Tryz.prog 131 #[sV x, .func (.func 132) #[] #[]] w fun r w' => ∃ A cs, r = .returned (.slice (some ⟨A, 0, none⟩) (fieldsB [] x).length (fieldsB [] x).length) ∧ w.heap.size ≤ A ∧ w'.heap[A]? = some (.cells cs 9 (0, 0)) ∧ (∀ (i : Nat) (y : Bs), (fieldsB [] x)[i]? = some y → cs[i]? = some (sV y)) ∧ Turned [] w w' := by
  refine (Tryz.strings_FieldsFunc_runes 132 #[] (fun args w => by kernel_rfl) pBl ⟨x.toArray⟩ w (by rw [size_of]; exact hx) (blank_pred w)).mono ?_
  rintro r w' ⟨A, rfl, hA, hown, hB⟩
  have hf : (Lib.goFieldsP pBl ⟨x.toArray⟩).map (fun y => y.data.toList) = fieldsB [] x := fields_b ⟨x.toArray⟩
  have hl : (Lib.goFieldsP pBl ⟨x.toArray⟩).length = (fieldsB [] x).length := by rw [← hf, List.length_map]
  have hv : (Lib.goFieldsP pBl ⟨x.toArray⟩).map Value.string = (fieldsB [] x).map sV := by
    rw [← hf, List.map_map]
    rfl
  rw [hl, hv] at hown
  rw [hl]
  rcases hown.2 with ⟨h0, _⟩ | ⟨g, c, cs, he, hg1, hg, h1, h2, h3, h4⟩
  · cases h0
  · cases he
    refine ⟨_, cs, rfl, hA, hg, fun i y hy => ?_, Turned.of hB⟩
    have hi := (List.getElem?_eq_some_iff.1 hy).1
    rw [Nat.mul_one] at h4
    have e : (cs.toList.take (fieldsB [] x).length)[i]? = ((fieldsB [] x).map sV)[i]? := by rw [h4]
    rw [List.getElem?_take_of_lt hi, Array.getElem?_toList, List.getElem?_map, hy] at e
    exact e
set_option maxRecDepth 100000 in
set_option maxHeartbeats 3200000 in
theorem cNewLine {w : World} (hL : LibW w) {t : Bs} (ht : t.length ≤ 1000000000) : Calls Tryz.prog 85 #[sV t] w fun r w' => ∃ lb, r = .returned (LP lb) ∧ Turned [] w w' ∧ w.heap.size ≤ lb ∧ (wordsB t = [] → w'.heap[lb]? = some (.cells #[sV [], .slice none 0 0, .int .i64 0] 152 (0, 0))) ∧ ∀ x ws, wordsB t = x :: ws → x ≠ [] ∧ LnAt w' lb x ⟨ws, 0⟩ := by
  have hcut := cCut hL (t := t) (by omega)
  have hfl := fun W => @cFields W (bareB t) (by have := bareB_len t; omega)
  have hok := fun x (h : x ∈ wordsB t) => wordsB_ok h
  have hwl := wordsB_len t
  have HL : Hid (t.length ≤ 1000000000) := ht
  have HO : Hid (∀ x, x ∈ wordsB t → x ≠ [] ∧ x.length ≤ t.length) := hok
  have HW : Hid ((wordsB t).length ≤ t.length) := hwl
  have e : fieldsB [] (bareB t) = wordsB t := rfl
  rw [e] at hfl
  clear e ht hL hok hwl
  generalize bareB t = bt at *
  generalize wordsB t = W at *
  cases W with
  | nil =>
    simp only [List.length_nil] at hfl
    go_enter Tryz.func85, Tryz.ntmps85
    go_wp2_with (first | (go_at_call 130; refine hcut.mono ?_; rintro r1 w1 ⟨ca, cb, rfl, h⟩; clear hcut; have HT1 : Hid _ := h; clear h) | (go_at_call 131; refine (hfl _).mono ?_; rintro r2 w2 ⟨A, cs, rfl, h1, h2, -, h4⟩; clear hfl; have HT2 : Hid _ := h4; have HA : Hid _ := h2; clear h1 h2 h4))
    go_ret
    have hs := (HT1.out.trans HT2.out).size
    exact ⟨_, rfl, (HT1.out.trans HT2.out).alloc _, hs, fun _ => blk_new _ _, fun x ws h => by cases h⟩
  | cons x ws =>
    simp only [List.length_cons] at hfl
    have HC : Hid (∀ (W2 : World) (A : Nat) (cs : Array Value) (c : Nat), W2.heap[A]? = some (.cells cs 9 (0, 0)) → (∀ (i : Nat) (y : Bs), (x :: ws)[i]? = some y → cs[i]? = some (sV y)) → ws.length ≤ c → c ≤ 140737488355328 → ∀ o : Nat, (o = 1 ∨ ws = []) → LnAt (W2.alloc (.cells #[sV x, .slice (some ⟨A, o, none⟩) ws.length c, .int .i64 0] 152)) W2.heap.size x ⟨ws, 0⟩) := fun W2 A cs c h1 h2 h3 h4 o ho => ⟨A, o, c, cs, blk_new _ _, blk_old h1 _, h3, h4, fun i hi => by
      have hi' : i < ws.length := hi
      rcases ho with rfl | rfl
      · have := h2 (i + 1) ws[i] (by simp)
        rw [Nat.add_comm]
        refine ⟨this, ?_⟩
        have h5 := (HO.out ws[i] (by simp)).2
        have h6 := HL.out
        show ws[i].length ≤ _
        omega
      · simp at hi'⟩
    have hxl : Hid (x ≠ []) := (HO.out x (by simp)).1
    have hn : Hid (ws.length ≤ 140737488355328) := by
      have h5 := HW.out
      have h6 := HL.out
      simp at h5
      rw [Hid]
      omega
    clear HL HO HW
    generalize hnn : ws.length = n at *
    have HN : Hid _ := hnn
    clear hnn
    have e1 : ((n + 1 : Nat) : Int) = (n : Int) + 1 := by omega
    go_enter Tryz.func85, Tryz.ntmps85
    go_wp2_with (first | (go_at_call 130; refine hcut.mono ?_; rintro r1 w1 ⟨ca, cb, rfl, h⟩; clear hcut; have HT1 : Hid _ := h; clear h) | (go_at_call 131; refine (hfl _).mono ?_; rintro r2 w2 ⟨A, cs, rfl, h1, h2, h3, h4⟩; clear hfl; have HT2 : Hid _ := h4; have HA : Hid _ := h2; have H3 : Hid _ := h3; have hca : w2.cell? ⟨A, 0, none⟩ = some (sV x) := (cell_at h2 0).trans (h3 0 x rfl); have hla := lt_of_heap h2; clear h1 h2 h3 h4))
    have hs := (HT1.out.trans HT2.out).size
    have HS : Hid _ := hs
    clear hs
    go_region
    all_goals go_wp2
    all_goals go_ret
    · obtain rfl : n = 0 := h
      have hq := HC.out w2 A cs 0 HA.out H3.out (by omega) (by omega) 0 (.inr (List.length_eq_zero_iff.1 HN.out))
      exact ⟨_, rfl, ((HT1.out.trans HT2.out).alloc _).drew, HS.out, hxl.out, hq.still (Turned.refl [] _).drew⟩
    · have hq := HC.out w2 A cs n HA.out H3.out (Nat.le_refl _) hn.out 1 (.inl rfl)
      exact ⟨_, rfl, ((HT1.out.trans HT2.out).alloc _).drew, HS.out, hxl.out, hq.still (Turned.refl [] _).drew⟩
end Go.Proofs.YtbnpdfakniebnaaGreatDoor

/-
  script.Print by contract. (By the verifier; no statement.)
-/
import Derived.Test.YtbnpdfakniebnaaGreatDoorSpText
import Derived.Test.YtbnpdfakniebnaaGreatDoorSpParse
namespace Go.Proofs.YtbnpdfakniebnaaGreatDoor
open Go.RowKit
/-- A sheet of at most 65536 bytes. -/
def Sh.P (s : Sh) : Prop := s.most = 65536 ∧ s.text.length ≤ 65536
namespace Sh
theorem lay_P {s : Sh} (h : s.P) (p : Bs) : (s.lay p).P := by
  unfold lay
  split
  · exact h
  · split
    · exact ⟨h.1, by have := h.2; simp only [List.length_take]; omega⟩
    · refine ⟨h.1, ?_⟩
      have := h.1
      simp only [List.length_append]
      omega
theorem word_P {s : Sh} (h : s.P) (p : Bs) : (s.word p).P := by
  unfold word
  split
  · exact lay_P (lay_P h _) _
  · exact lay_P h _
theorem num_P {s : Sh} (h : s.P) (n : Int) : (s.num n).P := word_P h _
theorem named_P {s : Sh} (h : s.P) (p : Bs) (n : Int) : (s.named p n).P := num_P (word_P h _) _
theorem fold_P {α : Type} {f : Sh → α → Sh} (hf : ∀ s x, s.P → (f s x).P) (l : List α) : ∀ {s : Sh}, s.P → (l.foldl f s).P := by
  induction l with
  | nil => exact fun h => h
  | cons x l ih => exact fun h => ih (hf _ x h)
theorem nums_P {s : Sh} (h : s.P) (l : List Int) : (s.nums l).P := fold_P (fun _ _ h => num_P h _) l h
theorem prs_P {s : Sh} (h : s.P) (l : List (Int × Int)) : (s.prs l).P := fold_P (fun _ _ h => num_P (num_P h _) _) l h
theorem fin_P {s : Sh} (h : s.P) : s.fin.P := lay_P h [10]
end Sh
open Sh in
theorem textS_P (p w sl l f : Int) (S : List (Int × Int)) (W : List (List Cl)) (T H : List Int) (u : Int) : (textS p w sl l f S W T H u).P := by
  have h0 : Sh.P ⟨[], 0, 65536, false⟩ := ⟨rfl, by decide⟩
  have h1 : (headS ⟨[], 0, 65536, false⟩ p w sl l f).P := by
    unfold headS
    refine fin_P ?_
    split
    · exact named_P (named_P (named_P (named_P h0 _ _) _ _) _ _) _ _
    · exact named_P (named_P (named_P (named_P (named_P h0 _ _) _ _) _ _) _ _) _ _
  have h2 : (setupS ⟨[], 0, 65536, false⟩ p w sl l f S).P := fold_P (fun _ _ h => fin_P (num_P (named_P h _ _) _)) S h1
  have h3 : (workS (setupS ⟨[], 0, 65536, false⟩ p w sl l f S) W).P := fold_P (fun _ x h => fold_P (fun _ _ h => fin_P (prs_P (nums_P (word_P h _) _) _)) x (fin_P (word_P h _))) W h2
  have hl : ∀ s q l, s.P → (listS s q l).P := fun s q l h => by
    unfold listS
    split
    · exact h
    · exact fin_P (nums_P (word_P h _) _)
  unfold textS endS
  dsimp only
  split
  · exact hl _ _ _ (hl _ _ _ h3)
  · exact fin_P (named_P (hl _ _ _ (hl _ _ _ h3)) _ _)
/-- What Print answers. -/
def printM (N : Nat) (full : Bool) (t : Bs) : Except Nat Bs :=
  if N = 0 then
    if full then .error 0
    else match parseB t with
      | .ok _ => .ok t
      | .error _ => .error 0
  else .error N
def printB (p w sl l f : Int) (S : List (Int × Int)) (W : List (List Cl)) (T H : List Int) (u : Int) : Except Nat Bs :=
  printM (firstB W.flatten) (textS p w sl l f S W T H u).full ((textS p w sl l f S W T H u).text.take (textS p w sl l f S W T H u).start)
def PrP (w : World) (r : Except Nat Bs) (t : Bs) (e : Value) : Prop :=
  match r with
  | .ok x => t = x ∧ e = .nilIface
  | .error n => t = [] ∧ ∃ fb, e = .iface 61 (.pointer (some ⟨fb, 0, none⟩)) ∧ w.heap[fb]? = some (.cells #[.int .i64 n, .int .i64 225] 90 (0, 0))
/-- A script that was read, all written out. -/
theorem PaP.ok {w0 w : World} {t : Bs} {s e : Value} {r : RS} (h : PaP w0 w t s e) (hp : parseB t = .ok r) : e = .nilIface ∧ ∃ a1 c1 a2 c2 a3 c3 a4 c4 vb rows bd, s = .agg #[.int .i64 r.parts, .int .i64 r.workers, .int .i64 r.slots, .int .i64 r.leases, .slice a1 r.source.length c1, .int .i64 r.fails, .slice a4 (List.length (α := SlV × List (Cl × SlV)) rows) c4, .slice a2 r.turns.length c2, .slice a3 r.halt.length c3, .int .i64 r.til] ∧ RP w0.heap.size w ⟨.slice a1 r.source.length c1, .slice a2 r.turns.length c2, .slice a3 r.halt.length c3, .slice a4 rows.length c4, vb, rows, bd⟩ r.source r.turns r.halt r.work r.body ∧ r.Ok := by
  unfold PaP at h
  rw [hp] at h
  obtain ⟨rfl, ⟨vs, vt, vh, vw, vb, rows, bd⟩, rfl, hR, hO⟩ := h
  obtain ⟨a1, c1, e1⟩ := hR.src.slice
  obtain ⟨a2, c2, e2⟩ := hR.trn.slice
  obtain ⟨a3, c3, e3⟩ := hR.hlt.slice
  obtain ⟨a4, c4, e4⟩ := hR.wrk.slice
  rw [List.length_map] at e4
  dsimp only at e1 e2 e3 e4
  subst e1 e2 e3 e4
  exact ⟨rfl, a1, c1, a2, c2, a3, c3, a4, c4, vb, rows, bd, rfl, hR, hO⟩
theorem first_zero {l : List Cl} (h : firstB l = 0) : ∀ x ∈ l, hasT x = true := by
  unfold firstB at h
  split at h
  · rename_i h1
    exact List.all_eq_true.1 h1
  · omega
theorem first_le (l : List Cl) : firstB l ≤ l.length + 1 := by
  unfold firstB
  split
  · omega
  · have := @List.findIdx_le_length _ (fun c => !hasT c) l
    omega
theorem flat_rows (rows : List (SlV × List (Cl × SlV))) : (rows.map fun p => p.2.map (·.1)).flatten = (rows.flatMap (·.2)).map (·.1) := by
  induction rows with
  | nil => rfl
  | cons a l ih => simp [ih]
section
variable {w : World} {m : RM} {p wk sl ls f u : Int} {S : List (Int × Int)} {T H : List Int}
set_option maxRecDepth 100000 in
set_option maxHeartbeats 6400000 in
theorem cPrint (hT : TabC w) (hP : PowW w) (hB : LibW w) (hV : SV w m S T H) (hL : SL m S T H) (hI : SI p wk sl ls f S T H u) : Calls Tryz.prog 17 #[.agg #[.int .i64 p, .int .i64 wk, .int .i64 sl, .int .i64 ls, m.vs, .int .i64 f, m.vw, m.vt, m.vh, .int .i64 u]] w fun q w' => ∃ t e, q = .returned (.tuple #[sV t, e]) ∧ Turned [] w w' ∧ PrP w' (printB p wk sl ls f S (m.rows.map fun p => p.2.map (·.1)) T H u) t e := by
  have HTU : Hid (Turned [] w (w.alloc (.cells #[.int .i64 p, .int .i64 wk, .int .i64 sl, .int .i64 ls, m.vs, .int .i64 f, m.vw, m.vt, m.vh, .int .i64 u] 31))) := (Turned.refl [] w).alloc _
  have HBX : Hid ((w.alloc (.cells #[.int .i64 p, .int .i64 wk, .int .i64 sl, .int .i64 ls, m.vs, .int .i64 f, m.vw, m.vt, m.vh, .int .i64 u] 31)).heap[w.heap.size]? = some (.cells #[.int .i64 p, .int .i64 wk, .int .i64 sl, .int .i64 ls, m.vs, .int .i64 f, m.vw, m.vt, m.vh, .int .i64 u] 31 (0, 0))) := blk_new _ _
  have HF : Hid (∀ W, Turned [] w W → Calls Tryz.prog 48 #[m.vw] W fun q w' => q = .returned (.int .i64 (firstB (m.rows.map fun p => p.2.map (·.1)).flatten)) ∧ Turned [] W w') := fun W h => by rw [flat_rows]; exact cFirst (hT.still h) (hV.still h) hL
  have HX : Hid (firstB (m.rows.map fun p => p.2.map (·.1)).flatten = 0 → ∀ W, Turned [] w W → Calls Tryz.prog 49 #[.agg #[.int .i64 p, .int .i64 wk, .int .i64 sl, .int .i64 ls, m.vs, .int .i64 f, m.vw, m.vt, m.vh, .int .i64 u]] W fun q w' => q = .returned (.tuple #[sV ((textS p wk sl ls f S (m.rows.map fun p => p.2.map (·.1)) T H u).text.take (textS p wk sl ls f S (m.rows.map fun p => p.2.map (·.1)) T H u).start), .bool (!(textS p wk sl ls f S (m.rows.map fun p => p.2.map (·.1)) T H u).full)]) ∧ Turned [] W w') := fun h0 W h => cTextOf (hT.still h) (hP.still h) (hV.still h) hL hI fun q hq => first_zero h0 _ (by rw [flat_rows]; exact List.mem_map.2 ⟨q, hq, rfl⟩)
  have HPa : Hid (∀ W, Turned [] w W → Calls Tryz.prog 11 #[sV ((textS p wk sl ls f S (m.rows.map fun p => p.2.map (·.1)) T H u).text.take (textS p wk sl ls f S (m.rows.map fun p => p.2.map (·.1)) T H u).start)] W fun q w' => ∃ s e, q = .returned (.tuple #[s, e]) ∧ Turned [] W w' ∧ PaP W w' ((textS p wk sl ls f S (m.rows.map fun p => p.2.map (·.1)) T H u).text.take (textS p wk sl ls f S (m.rows.map fun p => p.2.map (·.1)) T H u).start) s e) := fun W h => cParse (hT.still h) (hB.still h) (by
    have := (textS_P p wk sl ls f S (m.rows.map fun p => p.2.map (·.1)) T H u).2
    rw [List.length_take]
    omega)
  have HE : Hid (printB p wk sl ls f S (m.rows.map fun p => p.2.map (·.1)) T H u = printM (firstB (m.rows.map fun p => p.2.map (·.1)).flatten) (textS p wk sl ls f S (m.rows.map fun p => p.2.map (·.1)) T H u).full ((textS p wk sl ls f S (m.rows.map fun p => p.2.map (·.1)) T H u).text.take (textS p wk sl ls f S (m.rows.map fun p => p.2.map (·.1)) T H u).start)) := rfl
  rw [HE.out]
  clear hT hP hB hV hL hI HE
  generalize firstB (m.rows.map fun p => p.2.map (·.1)).flatten = N at *
  generalize (textS p wk sl ls f S (m.rows.map fun p => p.2.map (·.1)) T H u).text.take (textS p wk sl ls f S (m.rows.map fun p => p.2.map (·.1)) T H u).start = t at *
  generalize (textS p wk sl ls f S (m.rows.map fun p => p.2.map (·.1)) T H u).full = full at *
  by_cases hN : N = 0
  · have HX2 : Hid _ := HX.out hN
    clear HX
    subst hN
    cases full with
    | true =>
      have HE : Hid (printM 0 true t = .error 0) := rfl
      rw [HE.out]
      go_enter Tryz.func17, Tryz.ntmps17
      go_wp2_with (first | (go_at_call 49; refine (HX2.out _ HT1.out).mono ?_; rintro r2 w2 ⟨rfl, ht⟩; have HT2 : Hid _ := HT1.out.trans ht; clear ht) | (refine wpList_load_row rfl 31 (.tmp 1) rfl w.heap.size rfl 31 _ (0, 0) _ HB1.out Tryz.underlying31 rfl (by kernel_rfl) ?_) | (go_at_call 48; refine (HF.out _ HTU.out).mono ?_; rintro r1 w1 ⟨rfl, ht⟩; have HT1 : Hid _ := HTU.out.trans ht; have HB1 : Hid _ := ht.heap HBX.out (by simp); clear ht))
      refine bodyPost_ret (results_tmp2 rfl _ _ _) rfl ?_
      exact ⟨[], _, rfl, HT2.out.alloc _, rfl, _, rfl, blk_new _ _⟩
    | false =>
      rcases hpe : parseB t with x | r
      · have HE : Hid (printM 0 false t = .error 0) := by rw [Hid, printM, if_pos rfl, hpe]; rfl
        rw [HE.out]
        go_enter Tryz.func17, Tryz.ntmps17
        go_wp2_with (first | (go_at_call 11; refine (HPa.out _ HT2.out).mono ?_; rintro r3 w3 ⟨s, e, rfl, ht, hp2⟩; have HT3 : Hid _ := HT2.out.trans ht; unfold PaP at hp2; rw [hpe] at hp2; obtain ⟨rfl, fb, rfl, -, -⟩ := hp2; clear ht) | (go_at_call 49; refine (HX2.out _ HT1.out).mono ?_; rintro r2 w2 ⟨rfl, ht⟩; have HT2 : Hid _ := HT1.out.trans ht; clear ht) | (refine wpList_load_row rfl 31 (.tmp 1) rfl w.heap.size rfl 31 _ (0, 0) _ HB1.out Tryz.underlying31 rfl (by kernel_rfl) ?_) | (go_at_call 48; refine (HF.out _ HTU.out).mono ?_; rintro r1 w1 ⟨rfl, ht⟩; have HT1 : Hid _ := HTU.out.trans ht; have HB1 : Hid _ := ht.heap HBX.out (by simp); clear ht))
        refine bodyPost_ret (results_tmp2 rfl _ _ _) rfl ?_
        exact ⟨[], _, rfl, (HT3.out.alloc _).alloc _, rfl, _, rfl, blk21 _ _ _⟩
      · have HE : Hid (printM 0 false t = .ok t) := by rw [Hid, printM, if_pos rfl, hpe]; rfl
        rw [HE.out]
        go_enter Tryz.func17, Tryz.ntmps17
        go_wp2_with (first | (go_at_call 11; refine (HPa.out _ HT2.out).mono ?_; rintro r3 w3 ⟨s, e, rfl, ht, hp2⟩; have HT3 : Hid _ := HT2.out.trans ht; obtain ⟨rfl, a1, c1, a2, c2, a3, c3, a4, c4, vb, rows, bd, rfl, -, -⟩ := hp2.ok hpe; clear ht) | (go_at_call 49; refine (HX2.out _ HT1.out).mono ?_; rintro r2 w2 ⟨rfl, ht⟩; have HT2 : Hid _ := HT1.out.trans ht; clear ht) | (refine wpList_load_row rfl 31 (.tmp 1) rfl w.heap.size rfl 31 _ (0, 0) _ HB1.out Tryz.underlying31 rfl (by kernel_rfl) ?_) | (go_at_call 48; refine (HF.out _ HTU.out).mono ?_; rintro r1 w1 ⟨rfl, ht⟩; have HT1 : Hid _ := HTU.out.trans ht; have HB1 : Hid _ := ht.heap HBX.out (by simp); clear ht))
        refine bodyPost_ret (results_tmp2 rfl _ _ _) rfl ?_
        exact ⟨t, _, rfl, HT3.out.alloc _, rfl, rfl⟩
  · have HE : Hid (printM N full t = .error N) := by rw [Hid, printM, if_neg hN]
    have hN0 : 0 < (N : Int) := by omega
    rw [HE.out]
    clear hN
    go_enter Tryz.func17, Tryz.ntmps17
    go_wp2_with (go_at_call 48; refine (HF.out _ HTU.out).mono ?_; rintro r1 w1 ⟨rfl, ht⟩; have HT1 : Hid _ := HTU.out.trans ht; have HB1 : Hid _ := ht.heap HBX.out (by simp); clear ht)
    refine bodyPost_ret (results_tmp2 rfl _ _ _) rfl ?_
    exact ⟨[], _, rfl, HT1.out.alloc _, rfl, _, rfl, blk_new _ _⟩
end
end Go.Proofs.YtbnpdfakniebnaaGreatDoor

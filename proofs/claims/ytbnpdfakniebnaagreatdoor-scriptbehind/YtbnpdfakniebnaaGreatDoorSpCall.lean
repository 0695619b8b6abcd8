/-
  readCall by contract. (By the verifier; no statement.)
-/
import Derived.Test.YtbnpdfakniebnaaGreatDoorSpTab
import Derived.Test.YtbnpdfakniebnaaGreatDoorSpNew
namespace Go.Proofs.YtbnpdfakniebnaaGreatDoor
open Go.RowKit
/-- A call that is being read. -/
structure RC (w0 w : World) (lb : Nat) (f : Bs) (s : Ln) (b2 b3 b4 b5 : Nat) (k : Int) (q : Bs × Int × Bool) (a b c : Int) : Prop where
  ls : LS w0 w lb f s
  lt : w0.heap.size ≤ b2 ∧ w0.heap.size ≤ b3 ∧ w0.heap.size ≤ b4 ∧ w0.heap.size ≤ b5
  lb_ : lb < w0.heap.size
  ne : b2 ≠ b3
  h2 : w.heap[b2]? = some (.cells #[.int .i64 0, .int .i64 0, .int .i64 0, .int .i64 0, .slice none 0 0] 79 (0, 0))
  h3 : w.heap[b3]? = some (.cells #[.int .i64 k, .int .i64 a, .int .i64 b, .int .i64 c, .slice none 0 0] 79 (0, 0))
  h4 : w.heap[b4]? = some (.cells #[sV q.1, .int .i64 q.2.1, .bool q.2.2] 181 (0, 0))
  h5 : w.heap[b5]? = some (.cells #[.pointer (some ⟨b3, 1, none⟩), .pointer (some ⟨b3, 2, none⟩), .pointer (some ⟨b3, 3, none⟩)] 218 (0, 0))
section
variable {w0 w w1 : World} {lb : Nat} {f : Bs} {s t : Ln} {b2 b3 b4 b5 : Nat} {k : Int} {q : Bs × Int × Bool} {a b c : Int}
theorem RC.line (h : RC w0 w lb f s b2 b3 b4 b5 k q a b c) (h1 : LS w w1 lb f t) : RC w0 w1 lb f t b2 b3 b4 b5 k q a b c :=
  have hl := h.lb_
  have hx : ∀ {x : Nat}, w0.heap.size ≤ x → x ∉ [lb] := fun hx hm => by rw [List.mem_singleton.1 hm] at hx; omega
  ⟨⟨h.ls.tu.trans h1.tu, h1.at_⟩, h.lt, h.lb_, h.ne, h1.tu.heap h.h2 (hx h.lt.1), h1.tu.heap h.h3 (hx h.lt.2.1), h1.tu.heap h.h4 (hx h.lt.2.2.1), h1.tu.heap h.h5 (hx h.lt.2.2.2)⟩
theorem RC.turn {cs : Array Value} (h : RC w0 w lb f s b2 b3 b4 b5 k q a b c) (ht : Turned [b3] w w1) (hb : w1.heap[b3]? = some (.cells cs 79 (0, 0))) : LS w0 w1 lb f s ∧ w1.heap[b2]? = w.heap[b2]? ∧ w1.heap[b4]? = w.heap[b4]? ∧ w1.heap[b5]? = w.heap[b5]? := by
  have hl := h.lb_
  obtain ⟨h2, h3, h4, h5⟩ := h.lt
  have e4 : b4 ≠ b3 := tyne h.h4 h.h3 (by decide)
  have e5 : b5 ≠ b3 := tyne h.h5 h.h3 (by decide)
  have hF : ∀ x ∈ [b3], ∃ cs T, w.heap[x]? = some (.cells cs T (0, 0)) ∧ T ≠ 152 ∧ T ≠ 9 := fun x hx => by
    obtain rfl := List.mem_singleton.1 hx
    exact ⟨_, _, h.h3, by decide, by decide⟩
  refine ⟨⟨h.ls.tu.inner ht (fun x hx => .inr (by rw [List.mem_singleton.1 hx]; exact h3)), h.ls.at_.off ht hF⟩, ?_, ?_, ?_⟩
  · exact (ht.heap h.h2 (by simpa using h.ne)).trans h.h2.symm
  · exact (ht.heap h.h4 (by simpa using e4)).trans h.h4.symm
  · exact (ht.heap h.h5 (by simpa using e5)).trans h.h5.symm
theorem RC.put (h : RC w0 w lb f s b2 b3 b4 b5 k q a b c) (i : Nat) (hi : i = 1 ∨ i = 2 ∨ i = 3) (n : Int) : RC w0 (w.setCell ⟨b3, i, none⟩ (.int .i64 n)) lb f s b2 b3 b4 b5 k q (if i = 1 then n else a) (if i = 2 then n else b) (if i = 3 then n else c) := by
  have ht : Turned [b3] w (w.setCell ⟨b3, i, none⟩ (.int .i64 n)) := (Turned.refl _ _).set (by simp) _ _
  have hb := blk_set h.h3 i (.int .i64 n)
  obtain ⟨q1, q2, q3, q4⟩ := h.turn ht hb
  refine ⟨q1, h.lt, h.lb_, h.ne, q2.trans h.h2, ?_, q3.trans h.h4, q4.trans h.h5⟩
  rw [hb]
  rcases hi with rfl | rfl | rfl <;> rfl
end
/-- What a call's line leaves: the call's cells but for its pairs, whose row is owned. -/
abbrev clV (c : Cl) (v : Value) : Value := .agg #[.int .i64 c.k, .int .i64 c.a, .int .i64 c.b, .int .i64 c.c, v]
theorem enRow : En 3 rowV := ⟨fun _ => rfl, fun r u hu => by
  simp only [rowV, List.mem_cons, List.not_mem_nil, or_false] at hu
  rcases hu with rfl | rfl | rfl <;> rfl⟩
theorem TabC.row {w : World} (h : TabC w) {k : Nat} {q : Bs × Int × Bool} (hq : callT[k]? = some q) : w.rangeAt 1 (k * 3) (rowV q) := fun j v hj => by
  have hk : k < callT.length := (List.getElem?_eq_some_iff.1 hq).1
  have e : callT[k] = q := (List.getElem?_eq_some_iff.1 hq).2
  have hj3 : j < 3 := (List.getElem?_eq_some_iff.1 hj).1
  have := rowO_at enRow callT hk hj3
  rw [e, hj] at this
  have h2 := h.at_ _ v this
  rwa [Nat.zero_add] at h2
theorem Turned.row {l : List Nat} {a w : World} (h : Turned l a w) {r : Nat} {old : Array Value} {T : TypeId} (ho : w.heap[r]? = some (.cells old T (0, 0))) (hr : r ∈ l ∨ a.heap.size ≤ r) (cs : Array Value) : Turned l a (w.setRow r cs) :=
  ⟨h.os, h.tape, h.output, by rw [setRow_size]; exact h.size, fun i hi hn => by
    rw [setRow_other w r i cs (fun e => by subst e; rcases hr with hr | hr <;> first | exact hn hr | omega)]
    exact h.block i hi hn⟩
def numsN (n : Int) (s : Ln) : Nat → (Int × Int × Int) × Ln
  | 0 => ((0, 0, 0), s)
  | i + 1 => ((if i + 1 = 1 then (numIf (decide ((i : Int) < n)) (numsN n s i).2).1 else (numsN n s i).1.1, if i + 1 = 2 then (numIf (decide ((i : Int) < n)) (numsN n s i).2).1 else (numsN n s i).1.2.1, if i + 1 = 3 then (numIf (decide ((i : Int) < n)) (numsN n s i).2).1 else (numsN n s i).1.2.2), (numIf (decide ((i : Int) < n)) (numsN n s i).2).2)
theorem numsN_ws (n : Int) (s : Ln) : ∀ i : Nat, (numsN n s i).2.ws.length ≤ s.ws.length
  | 0 => Nat.le_refl _
  | i + 1 => by
    refine Nat.le_trans ?_ (numsN_ws n s i)
    show (numIf (decide ((i : Int) < n)) (numsN n s i).2).2.ws.length ≤ _
    cases decide ((i : Int) < n)
    · exact Nat.le_refl _
    · exact (Ln.number_ws _).1
theorem numsN_zero (n : Int) (s : Ln) {i : Nat} (hi : i < 3) : (if i + 1 = 1 then 0 else (numsN n s i).1.1, if i + 1 = 2 then 0 else (numsN n s i).1.2.1, if i + 1 = 3 then 0 else (numsN n s i).1.2.2) = (numsN n s i).1 := by
  have : i = 0 ∨ i = 1 ∨ i = 2 := by omega
  rcases this with rfl | rfl | rfl <;> simp [numsN]
theorem numsN_skip (n : Int) (s : Ln) {i : Nat} (hi : i < 3) (h : ¬ (i : Int) < n) : numsN n s (i + 1) = numsN n s i := by
  have e : numIf (decide ((i : Int) < n)) (numsN n s i).2 = (0, (numsN n s i).2) := by rw [decide_eq_false h]; rfl
  rw [numsN, e, numsN_zero n s hi]
theorem readCall_nums {k : Nat} {wd : Bs} {n : Int} {pb : Bool} (hq : callT[k]? = some (wd, n, pb)) (s : Ln) : readCall k s = (⟨k, (numsN n s 3).1.1, (numsN n s 3).1.2.1, (numsN n s 3).1.2.2, (pairsIf pb (numsN n s 3).2).1⟩, (pairsIf pb (numsN n s 3).2).2.fin) := by
  have e : rowT k = (wd, n, pb) := by unfold rowT; rw [List.getD_eq_getElem?_getD, hq]; rfl
  unfold readCall
  rw [e]
  simp [numsN]
theorem OW.row_off {α : Type} {T U : TypeId} {k : Nat} {enc : α → List Value} {B : Nat} {w : World} {v : Value} {R : List α} (h : OW T k enc B w v R) {r : Nat} {old : Array Value} (ho : w.heap[r]? = some (.cells old U (0, 0))) (hne : U ≠ T) (cs : Array Value) : OW T k enc B (w.setRow r cs) v R :=
  h.off ((Turned.refl [r] w).row ho (by simp) cs) fun b hb => by rw [List.mem_singleton.1 hb]; exact ⟨_, _, ho, hne⟩
theorem OW.cell_off {α : Type} {T U : TypeId} {k : Nat} {enc : α → List Value} {B : Nat} {w : World} {v : Value} {R : List α} (h : OW T k enc B w v R) {r : Nat} {old : Array Value} (ho : w.heap[r]? = some (.cells old U (0, 0))) (hne : U ≠ T) (i : Nat) (x : Value) : OW T k enc B (w.setCell ⟨r, i, none⟩ x) v R :=
  h.off ((Turned.refl [r] w).set (by simp) i x) fun b hb => by rw [List.mem_singleton.1 hb]; exact ⟨_, _, ho, hne⟩
theorem rc_start {w w1 : World} {lb : Nat} {f : Bs} {s : Ln} {k : Int} {q : Bs × Int × Bool} (h : LnAt w lb f s) (ht : Turned [] (w.alloc (.cells #[.int .i64 0, .int .i64 0, .int .i64 0, .int .i64 0, .slice none 0 0] 79)) w1) :
    RC w (((w1.alloc (.cells #[.int .i64 k, .int .i64 0, .int .i64 0, .int .i64 0, .slice none 0 0] 79)).alloc (.cells #[sV q.1, .int .i64 q.2.1, .bool q.2.2] 181)).alloc (.cells #[.pointer (some ⟨w1.heap.size, 1, none⟩), .pointer (some ⟨w1.heap.size, 2, none⟩), .pointer (some ⟨w1.heap.size, 3, none⟩)] 218)) lb f s w.heap.size w1.heap.size (w1.heap.size + 1) (w1.heap.size + 1 + 1) k q 0 0 0 := by
  have hs := ht.size
  rw [show (w.alloc (.cells #[.int .i64 0, .int .i64 0, .int .i64 0, .int .i64 0, .slice none 0 0] 79)).heap.size = w.heap.size + 1 by simp] at hs
  have h1 : Turned [] w (((w1.alloc (.cells #[.int .i64 k, .int .i64 0, .int .i64 0, .int .i64 0, .slice none 0 0] 79)).alloc (.cells #[sV q.1, .int .i64 q.2.1, .bool q.2.2] 181)).alloc (.cells #[.pointer (some ⟨w1.heap.size, 1, none⟩), .pointer (some ⟨w1.heap.size, 2, none⟩), .pointer (some ⟨w1.heap.size, 3, none⟩)] 218)) := (((((Turned.refl [] w).alloc _).trans ht).alloc _).alloc _).alloc _
  exact ⟨⟨h1.mono (by simp), h.still h1⟩, ⟨Nat.le_refl _, by omega, by omega, by omega⟩, h.lt, by omega, blk_old (blk_old (blk_old (ht.heap (blk_new w _) (by simp)) _) _) _, blk30 _ _ _ _, blk31 _ _ _ _, blk32 _ _ _ _⟩
theorem RC.field {w0 w : World} {lb : Nat} {f : Bs} {s : Ln} {b2 b3 b4 b5 : Nat} {k : Int} {q : Bs × Int × Bool} {a b c : Int} (h : RC w0 w lb f s b2 b3 b4 b5 k q a b c) {i : Nat} (hi : i < 3) : b3 < w.heap.size ∧ (∃ u, w.cell? ⟨b3, i + 1, none⟩ = some u) ∧ w.frozen? ⟨b3, i + 1, none⟩ = false ∧ w.cell? ⟨b5, i, none⟩ = some (.pointer (some ⟨b3, i + 1, none⟩)) := by
  refine ⟨lt_of_heap h.h3, ?_, froz_at h.h3 _, ?_⟩
  · rw [cell_at h.h3]
    have : i = 0 ∨ i = 1 ∨ i = 2 := by omega
    rcases this with rfl | rfl | rfl <;> exact ⟨_, rfl⟩
  · rw [cell_at h.h5]
    have : i = 0 ∨ i = 1 ∨ i = 2 := by omega
    rcases this with rfl | rfl | rfl <;> rfl
/-- A call that is read but for what stands behind it. -/
structure RD (w0 w : World) (lb : Nat) (f : Bs) (s : Ln) (b2 b3 : Nat) (cs : Array Value) (v : Value) (R : List (Int × Int)) : Prop where
  ls : LS w0 w lb f s
  row : OW 157 2 encP w0.heap.size w v R
  lt : w0.heap.size ≤ b2 ∧ w0.heap.size ≤ b3
  lb_ : lb < w0.heap.size
  h2 : w.heap[b2]? = some (.cells #[.int .i64 0, .int .i64 0, .int .i64 0, .int .i64 0, .slice none 0 0] 79 (0, 0))
  h3 : w.heap[b3]? = some (.cells cs 79 (0, 0))
section
variable {w0 w w1 : World} {lb : Nat} {f : Bs} {s t : Ln} {b2 b3 b4 b5 : Nat} {k : Int} {q : Bs × Int × Bool} {a b c : Int} {cs : Array Value} {v : Value} {R : List (Int × Int)}
theorem RD.line (h : RD w0 w lb f s b2 b3 cs v R) (h1 : LS w w1 lb f t) : RD w0 w1 lb f t b2 b3 cs v R :=
  have hl := h.lb_
  have hx : ∀ {x : Nat}, w0.heap.size ≤ x → x ∉ [lb] := fun hx hm => by rw [List.mem_singleton.1 hm] at hx; omega
  ⟨⟨h.ls.tu.trans h1.tu, h1.at_⟩, h.row.off h1.tu fun b hb => by obtain ⟨cs, h2⟩ := h.ls.line b hb; exact ⟨cs, _, h2, by decide⟩, h.lt, h.lb_, h1.tu.heap h.h2 (hx h.lt.1), h1.tu.heap h.h3 (hx h.lt.2)⟩
theorem RD.fin (h : RD w0 w lb f s b2 b3 cs v R) : LR 157 2 encP w0 (w.setRow b2 cs) lb f s v R ∧ (w.setRow b2 cs).heap[b2]? = some (.cells cs 79 (0, 0)) := by
  have ht : Turned [b2] w (w.setRow b2 cs) := (Turned.refl [b2] w).row h.h2 (by simp) cs
  refine ⟨⟨⟨h.ls.tu.inner ht (fun x hx => .inr (by rw [List.mem_singleton.1 hx]; exact h.lt.1)), h.ls.at_.off ht fun x hx => ?_⟩, h.row.row_off h.h2 (by decide) cs⟩, setRow_heap w b2 _ cs _ _ h.h2⟩
  obtain rfl := List.mem_singleton.1 hx
  exact ⟨_, _, h.h2, by decide, by decide⟩
theorem RC.rd (h : RC w0 w lb f s b2 b3 b4 b5 k q a b c) : RD w0 w lb f s b2 b3 #[.int .i64 k, .int .i64 a, .int .i64 b, .int .i64 c, .slice none 0 0] (.slice none 0 0) [] := ⟨h.ls, OW.nil _ _ _ _ _, ⟨h.lt.1, h.lt.2.1⟩, h.lb_, h.h2, h.h3⟩
theorem RC.rdp (h : RC w0 w lb f s b2 b3 b4 b5 k q a b c) (hp : LR 157 2 encP w w1 lb f t v R) : RD w0 (w1.setCell ⟨b3, 4, none⟩ v) lb f t b2 b3 #[.int .i64 k, .int .i64 a, .int .i64 b, .int .i64 c, v] v R := by
  have h1 := h.line hp.ls
  have ht : Turned [b3] w1 (w1.setCell ⟨b3, 4, none⟩ v) := (Turned.refl _ _).set (by simp) _ _
  have hb := blk_set h1.h3 4 v
  obtain ⟨q1, q2, -, -⟩ := h1.turn ht hb
  exact ⟨q1, (hp.row.lower h.ls.tu.size).cell_off h1.h3 (by decide) _ _, ⟨h.lt.1, h.lt.2.1⟩, h.lb_, q2.trans h1.h2, hb⟩
end
set_option maxRecDepth 100000 in
set_option maxHeartbeats 6400000 in
theorem cReadCall {w : World} {lb : Nat} {f : Bs} {s : Ln} (hT : TabC w) (h : LnAt w lb f s) (hn : s.ws.length ≤ 1000000000) : Calls Tryz.prog 216 #[LP lb] w fun r w' => ∃ v, r = .returned (clV (readCall (kindB f) s).1 v) ∧ LR 157 2 encP w w' lb f (readCall (kindB f) s).2 v (readCall (kindB f) s).1.ps ∧ ((readCall (kindB f) s).1.ps = [] → v = .slice none 0 0) := by
  have HT : Hid (TabC w) := hT
  have HL : Hid (LnAt w lb f s) := h
  obtain ⟨b, o, c, hlb, hc0, -, -, -, -, -, -, -, -⟩ := h.cells
  have hk := kindB_lt f
  obtain ⟨⟨wd, n, pb⟩, hq, -⟩ : ∃ q, callT[kindB f]? = some q ∧ True := ⟨_, List.getElem?_eq_getElem hk, trivial⟩
  have HQ : Hid (callT[kindB f]? = some (wd, n, pb)) := hq
  have HK : Hid (∀ W : World, TabC W → Calls Tryz.prog 222 #[sV f] W fun r w' => r = .returned (.int .i64 (kindB f)) ∧ Turned [] W w') := fun W hW => cKind hW f
  clear hT h hq
  generalize kindB f = k at *
  go_enter Tryz.func216, Tryz.ntmps216
  go_wp2_with (first | (go_at_call 222; refine (HK.out _ (HT.out.still ((Turned.refl [] _).alloc _))).mono ?_; rintro r1 w1 ⟨rfl, ht⟩; have HT1 : Hid _ := ht; clear ht) | (refine wpList_load_mid rfl 181 (.tmp 15) rfl 1 (k * 3) rfl (rowV (wd, n, pb)) _ (((HT.out.still ((Turned.refl [] _).alloc _)).still HT1.out).still ((Turned.refl [] _).alloc _) |>.row HQ.out) Tryz.underlying181 rfl (by kernel_rfl) ?_))
  have HN : Hid (readCall k s = (⟨k, (numsN n s 3).1.1, (numsN n s 3).1.2.1, (numsN n s 3).1.2.2, (pairsIf pb (numsN n s 3).2).1⟩, (pairsIf pb (numsN n s 3).2).2.fin)) := readCall_nums HQ.out s
  go_loopg [22] 3 (fun g v wr => Hid (∃ i : Nat, v = .int .i64 i ∧ i + g = 3 ∧ RC w wr lb f (numsN n s i).2 w.heap.size w1.heap.size (w1.heap.size + 1) (w1.heap.size + 1 + 1) k (wd, n, pb) (numsN n s i).1.1 (numsN n s i).1.2.1 (numsN n s i).1.2.2))
  case atStart => exact ⟨0, rfl, rfl, rc_start (k := (k : Int)) (q := (wd, n, pb)) HL.out HT1.out⟩
  case round =>
    obtain ⟨i, rfl, hi, hR⟩ := hrel.out
    clear hrel HT1 HK HT HL hlb hc0
    have HR : Hid _ := hR
    clear hR
    generalize w1.heap.size = b3 at *
    generalize w.heap.size = b2 at *
    by_cases h3 : i < 3
    · obtain ⟨g, rfl⟩ : ∃ g, gk = g + 1 := ⟨gk - 1, by omega⟩
      obtain ⟨p0, ⟨u, p1⟩, p2, p3⟩ := HR.out.field h3
      have p4 : wr.cell? ⟨b3 + 1, 1, none⟩ = some (.int .i64 n) := by rw [cell_at HR.out.h4]; rfl
      have p5 := lt_of_heap HR.out.h4
      have p6 := lt_of_heap HR.out.h5
      by_cases hn3 : (i : Int) < n
      · have HS : Hid (∀ W m, RC w W lb f (numsN n s i).2.number.2 b2 b3 (b3 + 1) (b3 + 1 + 1) k (wd, n, pb) (if i + 1 = 1 then m else (numsN n s i).1.1) (if i + 1 = 2 then m else (numsN n s i).1.2.1) (if i + 1 = 3 then m else (numsN n s i).1.2.2) → m = (numsN n s i).2.number.1 → RC w W lb f (numsN n s (i + 1)).2 b2 b3 (b3 + 1) (b3 + 1 + 1) k (wd, n, pb) (numsN n s (i + 1)).1.1 (numsN n s (i + 1)).1.2.1 (numsN n s (i + 1)).1.2.2) := fun W m h e => by
          subst e
          rw [numsN, decide_eq_true hn3]
          exact h
        have hcn := @cNumber wr wr lb f _ HR.out.ls.at_.ls
        clear HN
        generalize numsN n s i = R at *
        obtain ⟨⟨x, y, z⟩, t⟩ := R
        dsimp only at *
        generalize t.number.1 = m at *
        generalize t.number.2 = t2 at *
        go_wp2_with (go_at_call 153; refine hcn.mono ?_; rintro r1 w2 ⟨rfl, hL⟩; clear hcn; have HR2 : Hid _ := HR.out.line hL; clear hL; obtain ⟨q0, ⟨u2, q1⟩, q2, -⟩ := HR2.out.field h3)
        go_roundg g
        case rel => exact ⟨i + 1, by simp, by omega, HS.out _ _ (HR2.out.put (i + 1) (by omega) m) rfl⟩
        · omega
      · have HS : Hid (RC w wr lb f (numsN n s (i + 1)).2 b2 b3 (b3 + 1) (b3 + 1 + 1) k (wd, n, pb) (numsN n s (i + 1)).1.1 (numsN n s (i + 1)).1.2.1 (numsN n s (i + 1)).1.2.2) := by
          rw [Hid, numsN_skip n s h3 hn3]
          exact HR.out
        clear HN HR
        go_wp2
        go_roundg g
        case rel => exact ⟨i + 1, by simp, by omega, HS.out⟩
        · omega
    · obtain rfl : i = 3 := by omega
      have p4 : wr.cell? ⟨b3 + 1, 2, none⟩ = some (.bool pb) := by rw [cell_at HR.out.h4]; rfl
      have p5 := lt_of_heap HR.out.h4
      have hl := numsN_ws n s 3
      generalize numsN n s 3 = R at *
      obtain ⟨⟨x, y, z⟩, t⟩ := R
      dsimp only at *
      cases pb with
      | false =>
        have HD : Hid _ := HR.out.rd
        clear HR
        go_wp2_with (first | (go_at_call 156; refine (cEndL HD.out.ls.at_.ls).mono ?_; rintro r1 w2 ⟨rfl, hL⟩; have HD2 : Hid _ := HD.out.line hL; clear hL) | (refine wpList_load_row rfl 79 (.tmp 3) rfl b3 rfl 79 _ (0, 0) _ HD2.out.h3 Tryz.underlying79 rfl (by kernel_rfl) ?_) | (refine wpList_store_row rfl 79 (.tmp 2) (.tmp 43) rfl b2 #[.int .i64 (k : Int), .int .i64 x, .int .i64 y, .int .i64 z, .slice none 0 0] rfl rfl 79 _ HD2.out.h2 (by kernel_rfl) rfl (by simp [Value.oneCell']) ?_))
        have hF := HD2.out.fin
        refine bodyPost_ret (results_cell_row rfl _ _ b2 79 _ (0, 0) _ rfl hF.2 Tryz.underlying79 rfl (by kernel_rfl)) rfl ?_
        rw [HN.out]
        exact ⟨_, rfl, hF.1, fun _ => rfl⟩
      | true =>
        have hcp := cPairs HR.out.ls.at_ (Nat.le_trans hl hn)
        go_wp2_with (first | (go_at_call 205; refine hcp.mono ?_; rintro r1 w2 ⟨v, rfl, hP, hv⟩; clear hcp; obtain ⟨va, vc, rfl⟩ := hP.row.slice; have HV : Hid _ := hv; have HD : Hid _ := HR.out.rdp hP; have h3a := lt_of_heap (HR.out.line hP.ls).h3; have h3b := cell_at (HR.out.line hP.ls).h3 4; have h3c := froz_at (HR.out.line hP.ls).h3 4; clear hv hP) | (go_at_call 156; refine (cEndL HD.out.ls.at_.ls).mono ?_; rintro r1 w2 ⟨rfl, hL⟩; have HD2 : Hid _ := HD.out.line hL; clear hL) | (refine wpList_load_row rfl 79 (.tmp 3) rfl b3 rfl 79 _ (0, 0) _ HD2.out.h3 Tryz.underlying79 rfl (by kernel_rfl) ?_) | (refine wpList_store_row rfl 79 (.tmp 2) (.tmp 43) rfl b2 #[.int .i64 (k : Int), .int .i64 x, .int .i64 y, .int .i64 z, .slice va _ vc] rfl rfl 79 _ HD2.out.h2 (by kernel_rfl) rfl (by simp [Value.oneCell']) ?_))
        have hF := HD2.out.fin
        refine bodyPost_ret (results_cell_row rfl _ _ b2 79 _ (0, 0) _ rfl hF.2 Tryz.underlying79 rfl (by kernel_rfl)) rfl ?_
        rw [HN.out]
        exact ⟨_, rfl, hF.1, HV.out⟩
end Go.Proofs.YtbnpdfakniebnaaGreatDoor

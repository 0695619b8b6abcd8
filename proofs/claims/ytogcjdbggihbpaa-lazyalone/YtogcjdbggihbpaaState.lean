/- The law's objects between two calls, and what each call does to them. -/
import Derived.Test.YtogcjdbggihbpaaBuild
namespace Go.Proofs.Ytogcjdbggihbpaa
open Go.RowKit Go.Conc Go.MuLone

def onceQ (q : Bool) (F : Int) (L : Bool) (V : Int) (fv : Value) : Obj := match q with
  | true => onceObj 1 0 .nilFunc (oM (out F L V 1)) (oV (out F L V 1)) (oE (out F L V 1))
  | false => onceObj 0 0 fv 0 0 0
def retryQ (d : Bool) (kb : Nat) (fv : Value) : Obj := match d with
  | true => retryObj 0 .nilFunc (some ⟨kb, 0, none⟩)
  | false => retryObj 0 fv none
def cellQ (q : Bool) (F : Int) (L : Bool) (V : Int) : Obj := match q with
  | true => cellObj F L V true 1 (decide (F < 1)) true (oE (out F L V 1)) (oV (out F L V 1))
  | false => cellObj F L V true 0 false false 0 0
def numQ (d : Bool) (V : Int) : Int := if d then V else 0
abbrev tmk (N b : Nat) : Value := .func (.func 34) #[] #[.pointer (some ⟨N, 0, none⟩), .pointer (some ⟨b, 0, none⟩)]
/-- A maker's state: what the program's three were asked, and the document's. -/
structure Sta where
  q : Bool
  qa : Bool
  t : Bool
  tc : Bool
  d : Bool
  db : Bool
  j : Nat
  jb : Nat
  kb : Nat
def objQ (E : Nat → Nat → Nat) (N k : Nat) (F : Int) (L : Bool) (V : Int) (σ : Sta) (s : Nat) : Obj :=
  if s = 0 then oneObj F L V (bN σ.q) else if s = 1 then oneObj F L V σ.j else if s = 2 then oneObj F L V (bN σ.t) else if s = 3 then pbox (E 0 k) else
  if s = 4 then onceQ σ.q F L V (mk32 (E 3 k)) else if s = 5 then pbox (E 1 k) else if s = 6 then retryQ σ.d σ.kb (mk32 (E 5 k)) else if s = 7 then cellQ σ.qa F L V else
  if s = 8 then cellObj F L V false σ.jb σ.db false 0 (numQ σ.db V) else if s = 9 then cellQ σ.tc F L V else if s = 10 then intBox k else onceQ σ.t F L V (tmk N (E 10 k))
structure St (wB w : World) (n N : Nat) (E : Nat → Nat → Nat) (F : Nat → Int) (L : Nat → Bool) (V : Nat → Int) (σ : Nat → Sta) : Prop where
  os : w.os = wB.os
  tape : w.tape = wB.tape
  output : w.output = wB.output
  size : wB.heap.size ≤ w.heap.size
  own : ∀ k, k < n → ∀ s, s < 12 → w.heap[E s k]? = some (objQ E N k (F k) (L k) (V k) (σ k) s)
  inj : ∀ s k s' k', s < 12 → s' < 12 → k < n → k' < n → E s k = E s' k' → s = s' ∧ k = k'
  lt : ∀ s k, s < 12 → k < n → E s k < wB.heap.size
  rest : ∀ b, b < wB.heap.size → (∀ s k, s < 12 → k < n → b ≠ E s k) → w.heap[b]? = wB.heap[b]?
  kept : ∀ k, k < n → (σ k).d = true → wB.heap.size ≤ (σ k).kb ∧ w.heap[(σ k).kb]? = some (onceObj 1 0 .nilFunc 1 (V k) 0)
section
variable {wB w : World} {n N : Nat} {E : Nat → Nat → Nat} {F : Nat → Int} {L : Nat → Bool} {V : Nat → Int} {σ : Nat → Sta}
theorem St.drew (h : St wB w n N E F L V σ) : St wB w.drew n N E F L V σ := ⟨h.os, h.tape, h.output, h.size, h.own, h.inj, h.lt, h.rest, h.kept⟩
theorem St.below (h : St wB w n N E F L V σ) {W : World} (hW : Below W.heap.size W wB) (hE : ∀ s k, s < 12 → k < n → W.heap.size ≤ E s k) : Below W.heap.size W w :=
  hW.trans ⟨h.os, h.tape, h.output, h.size, fun b hb => h.rest b (by have := hW.size; omega) (fun s k hs hk he => by have := hE s k hs hk; omega)⟩
theorem St.cell (h : St wB w n N E F L V σ) {p : Addr} {v : Value} (hp : wB.cell? p = some v) (hn : ∀ s k, s < 12 → k < n → p.block ≠ E s k) : w.cell? p = some v :=
  (World.cell?_of_block (h.rest p.block (World.block_lt_of_cell? wB p hp) hn)).trans hp
theorem St.heap (h : St wB w n N E F L V σ) {b : Nat} {o : Obj} (hp : wB.heap[b]? = some o) (hn : ∀ s k, s < 12 → k < n → b ≠ E s k) : w.heap[b]? = some o :=
  (h.rest b (lt_of_heap hp) hn).trans hp
/-- Of one maker some objects turn. -/
theorem St.step (h : St wB w n N E F L V σ) {k : Nat} (hk : k < n) (τ : Sta) (l : List Nat) (hl : ∀ s, s ∈ l → s < 12) {w' : World} (ht : Turned (l.map fun s => E s k) w w')
    (hin : ∀ s, s ∈ l → w'.heap[E s k]? = some (objQ E N k (F k) (L k) (V k) τ s)) (hout : ∀ s, s < 12 → s ∉ l → objQ E N k (F k) (L k) (V k) τ s = objQ E N k (F k) (L k) (V k) (σ k) s)
    (hkept : τ.d = true → wB.heap.size ≤ τ.kb ∧ w'.heap[τ.kb]? = some (onceObj 1 0 .nilFunc 1 (V k) 0)) : St wB w' n N E F L V (upd σ k τ) := by
  refine ⟨ht.os.trans h.os, ht.tape.trans h.tape, ht.output.trans h.output, Nat.le_trans h.size ht.size, fun k' hk' s hs => ?_, h.inj, h.lt, fun b hb hn => ?_, fun k' hk' hd => ?_⟩
  · by_cases e : k' = k
    · subst e
      rw [upd_same]
      by_cases hsl : s ∈ l
      · exact hin s hsl
      · rw [hout s hs hsl]
        refine ht.heap (h.own k' hk s hs) fun hm => ?_
        obtain ⟨s', hs', he⟩ := List.mem_map.1 hm
        have := (h.inj s' k' s k' (hl s' hs') hs hk hk he).1
        subst this
        exact hsl hs'
    · rw [upd_other _ _ e]
      refine ht.heap (h.own k' hk' s hs) fun hm => ?_
      obtain ⟨s', hs', he⟩ := List.mem_map.1 hm
      exact e (h.inj s' k s k' (hl s' hs') hs hk hk' he).2.symm
  · refine (ht.block b (Nat.lt_of_lt_of_le hb h.size) fun hm => ?_).trans (h.rest b hb hn)
    obtain ⟨s', hs', he⟩ := List.mem_map.1 hm
    exact hn s' k (hl s' hs') hk he.symm
  · by_cases e : k' = k
    · subst e; rw [upd_same] at hd ⊢; exact hkept hd
    · rw [upd_other _ _ e] at hd ⊢
      obtain ⟨h1, h2⟩ := h.kept k' hk' hd
      refine ⟨h1, ht.heap h2 fun hm => ?_⟩
      obtain ⟨s', hs', he⟩ := List.mem_map.1 hm
      have := h.lt s' k (hl s' hs') hk
      omega
theorem St.same (h : St wB w n N E F L V σ) {k : Nat} (τ : Sta) (he : τ = σ k) : St wB w n N E F L V (upd σ k τ) := by
  have : upd σ k τ = σ := by funext x; simp only [upd]; split <;> simp_all
  rw [this]; exact h
/-- 'once[k].Get(nil)'. -/
theorem stOnce (h : St wB w n N E F L V σ) {k : Nat} (hk : k < n) :
    Calls Try.prog 11 #[.pointer (some ⟨E 4 k, 0, none⟩), .pointer none] w fun e w' => e = .returned (.tuple #[.int .i64 (oV (out (F k) (L k) (V k) 1)), .int .i64 (oE (out (F k) (L k) (V k) 1))]) ∧ St wB w' n N E F L V (upd σ k { σ k with q := true }) := by
  have ho := h.own k hk 4 (by omega)
  have hx := h.own k hk 0 (by omega)
  have hp := h.own k hk 3 (by omega)
  cases hq : (σ k).q with
  | false =>
    simp only [objQ, hq, onceQ, bN] at ho hx hp
    refine (cOnceNew (x := E 0 k) (X' := oneObj (F k) (L k) (V k) (0 + 1)) (out (F k) (L k) (V k) (0 + 1)) ho (lt_of_heap hx) (fun he => by have := (h.inj 0 k 4 k (by omega) (by omega) hk hk he).1; omega) (hg32 _) fun w1 t1 => ?_).mono ?_
    · exact cMaker1 (p := E 3 k) (cell_at (t1.heap hp (by simp; exact fun he => by have := (h.inj 3 k 4 k (by omega) (by omega) hk hk he).1; omega)) 0) (fun he => by have := (h.inj 3 k 0 k (by omega) (by omega) hk hk he).1; omega)
        (t1.heap hx (by simp; exact fun he => by have := (h.inj 0 k 4 k (by omega) (by omega) hk hk he).1; omega)) (by omega) (by omega)
    · rintro e w' ⟨rfl, hT, hb, hX⟩
      refine ⟨by simp, h.step hk _ [4, 0] (by simp) hT ?_ ?_ (fun hd => ?_)⟩
      · intro s hs
        simp at hs
        rcases hs with rfl | rfl
        · exact hb
        · exact hX
      · intro s hs hns
        simp at hns
        simp [objQ, hns]
      · obtain ⟨h1, h2⟩ := h.kept k hk hd
        refine ⟨h1, hT.heap h2 ?_⟩
        have e1 := h.lt 4 k (by omega) hk
        have e2 := h.lt 0 k (by omega) hk
        simp; omega
  | true =>
    simp only [objQ, hq, onceQ] at ho
    refine (cOnceOld ho).mono ?_
    rintro e w' ⟨rfl, rfl⟩
    exact ⟨rfl, (h.same _ (by rw [← hq])).drew⟩
/-- What is kept stays, if blocks of this maker alone turn. -/
theorem St.keptAt (h : St wB w n N E F L V σ) {k : Nat} (hk : k < n) {l : List Nat} (hl : ∀ s, s ∈ l → s < 12) {w' : World} (ht : Turned (l.map fun s => E s k) w w') (hd : (σ k).d = true) : wB.heap.size ≤ (σ k).kb ∧ w'.heap[(σ k).kb]? = some (onceObj 1 0 .nilFunc 1 (V k) 0) := by
  obtain ⟨h1, h2⟩ := h.kept k hk hd
  refine ⟨h1, ht.heap h2 fun hm => ?_⟩
  obtain ⟨s', hs', he⟩ := List.mem_map.1 hm
  have := h.lt s' k (hl s' hs') hk
  omega
theorem stCellA (h : St wB w n N E F L V σ) {k : Nat} (hk : k < n) :
    Calls Try.prog 12 #[.pointer (some ⟨E 7 k, 0, none⟩)] w fun e w' => e = .returned (.tuple #[.int .i64 (oV (out (F k) (L k) (V k) 1)), .int .i64 (oE (out (F k) (L k) (V k) 1))]) ∧ St wB w' n N E F L V (upd σ k { σ k with qa := true }) := by
  have ha := h.own k hk 7 (by omega)
  cases hq : (σ k).qa with
  | false =>
    simp only [objQ, hq, cellQ] at ha
    refine cCell ((cCellOnceNew ha).mono ?_)
    rintro e w' ⟨rfl, hT, hA⟩
    have hT' : Turned ([7].map fun s => E s k) w w' := hT
    refine ⟨rfl, h.step hk _ [7] (by simp) hT' ?_ ?_ (fun hd => h.keptAt hk (by simp) hT' hd)⟩
    · intro s hs
      simp at hs
      subst hs
      exact hA
    · intro s hs hns
      simp at hns
      simp [objQ, hns]
  | true =>
    simp only [objQ, hq, cellQ] at ha
    refine cCell ((cCellOnceOld ha).mono ?_)
    rintro e w' ⟨rfl, rfl | rfl⟩
    · exact ⟨rfl, h.same _ (by rw [← hq])⟩
    · exact ⟨rfl, (h.same _ (by rw [← hq])).drew⟩
theorem stCellC (h : St wB w n N E F L V σ) {k : Nat} (hk : k < n) :
    Calls Try.prog 12 #[.pointer (some ⟨E 9 k, 0, none⟩)] w fun e w' => e = .returned (.tuple #[.int .i64 (oV (out (F k) (L k) (V k) 1)), .int .i64 (oE (out (F k) (L k) (V k) 1))]) ∧ St wB w' n N E F L V (upd σ k { σ k with tc := true }) := by
  have ha := h.own k hk 9 (by omega)
  cases hq : (σ k).tc with
  | false =>
    simp only [objQ, hq, cellQ] at ha
    refine cCell ((cCellOnceNew ha).mono ?_)
    rintro e w' ⟨rfl, hT, hA⟩
    have hT' : Turned ([9].map fun s => E s k) w w' := hT
    refine ⟨rfl, h.step hk _ [9] (by simp) hT' ?_ ?_ (fun hd => h.keptAt hk (by simp) hT' hd)⟩
    · intro s hs
      simp at hs
      subst hs
      exact hA
    · intro s hs hns
      simp at hns
      simp [objQ, hns]
  | true =>
    simp only [objQ, hq, cellQ] at ha
    refine cCell ((cCellOnceOld ha).mono ?_)
    rintro e w' ⟨rfl, rfl | rfl⟩
    · exact ⟨rfl, h.same _ (by rw [← hq])⟩
    · exact ⟨rfl, (h.same _ (by rw [← hq])).drew⟩
/-- The table as it stands: its header, its row, the function's box, the third makers' box and row. -/
structure Tab (wB : World) (n N b3 g3 c3 : Nat) (E : Nat → Nat → Nat) : Prop where
  tab : wB.heap[N + 2]? = some (.cells #[.slice (some ⟨N + 1, 0, none⟩) n n] 95 (0, 0))
  row : ∀ k, k < n → wB.cell? ⟨N + 1, k, none⟩ = some (.pointer (some ⟨E 11 k, 0, none⟩))
  fbox : wB.cell? ⟨N, 0, none⟩ = some (.func (.func 10) #[] #[.pointer (some ⟨b3, 0, none⟩)])
  box : wB.cell? ⟨b3, 0, none⟩ = some (.slice (some ⟨g3, 0, none⟩) n c3)
  third : ∀ k, k < n → wB.cell? ⟨g3, k, none⟩ = some (.pointer (some ⟨E 2 k, 0, none⟩))
  nN : ∀ s k, s < 12 → k < n → N ≠ E s k ∧ N + 1 ≠ E s k ∧ N + 2 ≠ E s k ∧ b3 ≠ E s k ∧ g3 ≠ E s k
theorem stTable {b3 g3 c3 : Nat} (hT : Tab wB n N b3 g3 c3 E) (h : St wB w n N E F L V σ) {k : Nat} (hk : k < n) :
    Calls Try.prog 14 #[.pointer (some ⟨N + 2, 0, none⟩), .pointer none, .int .i64 k] w fun e w' => e = .returned (.tuple #[.int .i64 (oV (out (F k) (L k) (V k) 1)), .int .i64 (oE (out (F k) (L k) (V k) 1))]) ∧ St wB w' n N E F L V (upd σ k { σ k with t := true }) := by
  have htab := h.heap hT.tab (fun s k hs hk => (hT.nN s k hs hk).2.2.1)
  have hrow := h.cell (hT.row k hk) (fun s k hs hk => (hT.nN s k hs hk).2.1)
  refine cTGet htab hk hrow ?_
  have ho := h.own k hk 11 (by omega)
  have hx := h.own k hk 2 (by omega)
  have hi := h.own k hk 10 (by omega)
  have nem : ∀ s, s < 12 → s ≠ 11 → E s k ∉ [E 11 k] := fun s hs hn he => by
    simp at he
    exact hn (h.inj s k 11 k hs (by omega) hk hk he).1
  cases hq : (σ k).t with
  | false =>
    simp only [objQ, hq, onceQ, bN] at ho hx hi
    refine (cOnceNew (x := E 2 k) (X' := oneObj (F k) (L k) (V k) (0 + 1)) (out (F k) (L k) (V k) (0 + 1)) ho (lt_of_heap hx) (fun he => nem 2 (by omega) (by omega) (by simp [he])) (hg34 _) fun w1 t1 => ?_).mono ?_
    · have keep : ∀ {p : Addr} {v : Value}, wB.cell? p = some v → (∀ s k, s < 12 → k < n → p.block ≠ E s k) → w1.cell? p = some v := fun {p v} hp hn => t1.cell (h.cell hp hn) (by simp; exact hn 11 k (by omega) hk)
      exact cTableMaker (keep hT.fbox fun s k hs hk => (hT.nN s k hs hk).1) (cell_at (t1.heap hi (nem 10 (by omega) (by omega))) 0) (keep hT.box fun s k hs hk => (hT.nN s k hs hk).2.2.2.1) hk
        (keep (hT.third k hk) fun s k hs hk => (hT.nN s k hs hk).2.2.2.2) (t1.heap hx (nem 2 (by omega) (by omega))) (by omega) (by omega)
    · rintro e w' ⟨rfl, hTu, hb, hX⟩
      have hT' : Turned ([11, 2].map fun s => E s k) w w' := hTu
      refine ⟨by simp, h.step hk _ [11, 2] (by simp) hT' ?_ ?_ (fun hd => h.keptAt hk (by simp) hT' hd)⟩
      · intro s hs
        simp at hs
        rcases hs with rfl | rfl
        · exact hb
        · exact hX
      · intro s hs hns
        simp at hns
        have : s = 0 ∨ s = 1 ∨ s = 3 ∨ s = 4 ∨ s = 5 ∨ s = 6 ∨ s = 7 ∨ s = 8 ∨ s = 9 ∨ s = 10 := by omega
        rcases this with rfl | rfl | rfl | rfl | rfl | rfl | rfl | rfl | rfl | rfl <;> simp [objQ]
  | true =>
    simp only [objQ, hq, onceQ] at ho
    refine (cOnceOld ho).mono ?_
    rintro e w' ⟨rfl, rfl⟩
    exact ⟨rfl, (h.same _ (by rw [← hq])).drew⟩
/-- What a Retry's Get answers: its value, or what comes of the next call. -/
def rO (d : Bool) (F : Int) (L : Bool) (V : Int) (j : Nat) : Option (Option Int) := if d then some (some V) else out F L V ((j : Int) + 1)
def rD (d : Bool) (F : Int) (j : Nat) : Bool := d || decide (F < (j : Int) + 1)
def rJ (d : Bool) (j : Nat) : Nat := if d then j else j + 1
theorem kept_out (F : Int) (L : Bool) (V c : Int) (nb g : Nat) (cap : Array Value) : keptObj (out F L V c) nb g cap = retryQ (decide (F < c)) nb (.func (.func g) #[] cap) := by
  by_cases h : F < c
  · rw [out_hit h]; simp [keptObj, retryQ, h]
  · cases L with
    | true => rw [out_fell h]; simp [keptObj, retryQ, h]
    | false => rw [out_fail h]; simp [keptObj, retryQ, h]
theorem num_out (F : Int) (L : Bool) (V c : Int) : oV (out F L V c) = numQ (decide (F < c)) V := by
  rw [oV_out]; simp [numQ]
theorem stRetry (h : St wB w n N E F L V σ) {k : Nat} (hk : k < n) (hj : (σ k).j ≤ 900) :
    Calls Try.prog 13 #[.pointer (some ⟨E 6 k, 0, none⟩), .pointer none] w fun e w' => e = .returned (.tuple #[.int .i64 (oV (rO (σ k).d (F k) (L k) (V k) (σ k).j)), .int .i64 (oE (rO (σ k).d (F k) (L k) (V k) (σ k).j))]) ∧ ∃ kb, St wB w' n N E F L V (upd σ k { σ k with d := rD (σ k).d (F k) (σ k).j, j := rJ (σ k).d (σ k).j, kb := kb }) := by
  have hr := h.own k hk 6 (by omega)
  have hx := h.own k hk 1 (by omega)
  have hp := h.own k hk 5 (by omega)
  have nem : ∀ s, s < 12 → s ≠ 6 → E s k ∉ [E 6 k] := fun s hs hn he => by
    simp at he
    exact hn (h.inj s k 6 k hs (by omega) hk hk he).1
  cases hd : (σ k).d with
  | false =>
    simp only [objQ, hd, retryQ] at hr hx hp
    refine (cRetryNew (x := E 1 k) (X' := oneObj (F k) (L k) (V k) ((σ k).j + 1)) (out (F k) (L k) (V k) ((σ k).j + 1)) hr (lt_of_heap hx) (fun he => nem 1 (by omega) (by omega) (by simp [he])) (hg32 _) fun w1 t1 => ?_).mono ?_
    · exact cMaker1 (p := E 5 k) (cell_at (t1.heap hp (nem 5 (by omega) (by omega))) 0) (fun he => by have := (h.inj 5 k 1 k (by omega) (by omega) hk hk he).1; omega) (t1.heap hx (nem 1 (by omega) (by omega))) (by omega) (by omega)
    · rintro e w' ⟨rfl, hTu, hb, hR, hX⟩
      have hT' : Turned ([6, 1].map fun s => E s k) w w' := hTu
      refine ⟨by simp [rO], w.heap.size, h.step hk _ [6, 1] (by simp) hT' ?_ ?_ (fun hdd => ?_)⟩
      · intro s hs
        simp at hs
        rcases hs with rfl | rfl
        · rw [hR, kept_out]; simp [objQ, rD]
        · rw [hX]; simp [objQ, rJ]
      · intro s hs hns
        simp at hns
        simp [objQ, hns]
      · refine ⟨h.size, ?_⟩
        have hlt : F k < (σ k).j + 1 := by simpa [rD] using hdd
        rw [hb, out_hit hlt]
        rfl
  | true =>
    obtain ⟨h1, h2⟩ := h.kept k hk hd
    simp only [objQ, hd, retryQ] at hr
    refine (cRetryOld hr h2).mono ?_
    rintro e w' ⟨rfl, rfl⟩
    refine ⟨by simp [rO, oV, oE], (σ k).kb, (h.same _ ?_).drew⟩
    simp only [rD, rJ, Bool.true_or, if_true]
    rw [← hd]
theorem stCellB (h : St wB w n N E F L V σ) {k : Nat} (hk : k < n) (hj : (σ k).jb ≤ 900) :
    Calls Try.prog 12 #[.pointer (some ⟨E 8 k, 0, none⟩)] w fun e w' => e = .returned (.tuple #[.int .i64 (oV (rO (σ k).db (F k) (L k) (V k) (σ k).jb)), .int .i64 (oE (rO (σ k).db (F k) (L k) (V k) (σ k).jb))]) ∧ St wB w' n N E F L V (upd σ k { σ k with db := rD (σ k).db (F k) (σ k).jb, jb := rJ (σ k).db (σ k).jb }) := by
  have ha := h.own k hk 8 (by omega)
  cases hq : (σ k).db with
  | false =>
    simp only [objQ, hq, numQ] at ha
    refine cCell ((cCellRetryNew ha (by omega) (by omega)).mono ?_)
    rintro e w' ⟨rfl, hT, hA⟩
    have hT' : Turned ([8].map fun s => E s k) w w' := hT
    refine ⟨by simp [rO], h.step hk _ [8] (by simp) hT' ?_ ?_ (fun hd => h.keptAt hk (by simp) hT' hd)⟩
    · intro s hs
      simp at hs
      subst hs
      rw [hA, num_out]; simp [objQ, rD, rJ]
    · intro s hs hns
      simp at hns
      simp [objQ, hns]
  | true =>
    simp only [objQ, hq, numQ] at ha
    refine cCell ((cCellRetryOld ha).mono ?_)
    rintro e w' ⟨rfl, rfl⟩
    exact ⟨by simp [rO, oV, oE], h.same _ (by simp only [rD, rJ, Bool.true_or, if_true]; rw [← hq])⟩
theorem once_done (q : Bool) (F : Int) (L : Bool) (V : Int) (fv : Value) : ∃ d m f v e, onceQ q F L V fv = onceObj d m f (bN (q && decide (F < 1))) v e := by
  cases q with
  | false => exact ⟨0, 0, fv, 0, 0, rfl⟩
  | true =>
    refine ⟨1, 0, .nilFunc, oV (out F L V 1), oE (out F L V 1), ?_⟩
    simp only [onceQ, oM_out, bN, Bool.true_and, decide_eq_true_eq]
theorem bN_ne (b : Bool) : (bN b != 0) = b := by cases b <;> rfl
theorem stDone (h : St wB w n N E F L V σ) {k : Nat} (hk : k < n) :
    Calls Try.prog 15 #[.pointer (some ⟨E 4 k, 0, none⟩), .pointer none] w fun e w' => e = .returned (.bool ((σ k).q && decide (F k < 1))) ∧ w' = w := by
  have ho := h.own k hk 4 (by omega)
  simp only [objQ] at ho
  obtain ⟨d, m, f, v, e, he⟩ := once_done (σ k).q (F k) (L k) (V k) (mk32 (E 3 k))
  have ho' : w.heap[E 4 k]? = some (onceObj d m f (bN ((σ k).q && decide (F k < 1))) v e) := by rw [← he]; exact ho
  refine (cDone ho').mono ?_
  rintro e w' ⟨rfl, rfl⟩
  exact ⟨by rw [bN_ne], rfl⟩
theorem stRDone (h : St wB w n N E F L V σ) {k : Nat} (hk : k < n) :
    Calls Try.prog 16 #[.pointer (some ⟨E 6 k, 0, none⟩), .pointer none] w fun e w' => e = .returned (.bool (σ k).d) ∧ w' = w := by
  have hr := h.own k hk 6 (by omega)
  simp only [objQ] at hr
  cases hd : (σ k).d with
  | false => simp only [hd, retryQ] at hr; exact cRDoneNot hr
  | true => simp only [hd, retryQ] at hr; exact cRDone hr (h.kept k hk hd).2
theorem cellQ_5 {q : Bool} {F : Int} {L : Bool} {V : Int} {a : Nat} (h : w.heap[a]? = some (cellQ q F L V)) : w.cell? ⟨a, 5, none⟩ = some (.bool (q && decide (F < 1))) ∧ w.cell? ⟨a, 4, none⟩ = some (.int .i64 (bN q)) := by
  cases q with
  | false => exact ⟨cell_at h 5, cell_at h 4⟩
  | true => exact ⟨by rw [cell_at (show w.heap[a]? = some (cellObj F L V true 1 (decide (F < 1)) true (oE (out F L V 1)) (oV (out F L V 1))) from h) 5]; simp, cell_at h 4⟩
theorem St.cells (h : St wB w n N E F L V σ) {k : Nat} (hk : k < n) :
    w.cell? ⟨E 7 k, 5, none⟩ = some (.bool ((σ k).qa && decide (F k < 1))) ∧ w.cell? ⟨E 7 k, 4, none⟩ = some (.int .i64 (bN (σ k).qa)) ∧ w.cell? ⟨E 8 k, 5, none⟩ = some (.bool (σ k).db) ∧ w.cell? ⟨E 8 k, 4, none⟩ = some (.int .i64 (σ k).jb) ∧
    w.cell? ⟨E 9 k, 5, none⟩ = some (.bool ((σ k).tc && decide (F k < 1))) ∧ w.cell? ⟨E 9 k, 4, none⟩ = some (.int .i64 (bN (σ k).tc)) ∧ w.cell? ⟨E 0 k, 3, none⟩ = some (.int .i64 (bN (σ k).q)) ∧ w.cell? ⟨E 1 k, 3, none⟩ = some (.int .i64 (σ k).j) ∧ w.cell? ⟨E 2 k, 3, none⟩ = some (.int .i64 (bN (σ k).t)) := by
  have h7 := cellQ_5 (h.own k hk 7 (by omega))
  have h9 := cellQ_5 (h.own k hk 9 (by omega))
  exact ⟨h7.1, h7.2, cell_at (h.own k hk 8 (by omega)) 5, cell_at (h.own k hk 8 (by omega)) 4, h9.1, h9.2, cell_at (h.own k hk 0 (by omega)) 3, cell_at (h.own k hk 1 (by omega)) 3, cell_at (h.own k hk 2 (by omega)) 3⟩
end
end Go.Proofs.Ytogcjdbggihbpaa

/-
  did by contract. (By the verifier; no statement.)
-/
import Derived.Test.YtbielnehggcaoaaDoorL09
import Derived.Test.YtbielnehggcaoaaDoorL04
import Derived.Test.YtbielnehggcaoaaDoorL10
import Derived.Test.YtbielnehggcaoaaDoorL07
namespace Go.Proofs.YtbielnehggcaoaaDoor
open Go.RowKit
set_option maxHeartbeats 1600000 in
theorem cDid {w : World} {sb n cap m i b o : Nat} {c v : Int} {d : Dd} (hs : w.cell? ⟨sb, 0, none⟩ = some (.slice (some ⟨b, o, none⟩) n cap)) (hsl : sb < w.heap.size) (hin : i < n) (hb : b < w.heap.size) (hD : DAt w b o i d) (hk1 : 1 ≤ d.k) (hk7 : d.k ≤ 7) (hm : m < 18446744073709551616) (hi : i < 64) :
    Calls Tryd.prog 48 #[.pointer (some ⟨sb, 0, none⟩), .agg #[.int .i64 c, .int .i64 (sI m), .int .i64 v], .int .i64 i] w fun r w' => r = .returned (.tuple #[.agg #[.int .i64 c, .int .i64 (sI (m ||| 2 ^ i)), .int .i64 (d.next v)], .bool (d.fits v)]) ∧ Turned [] w w' := by
  have PA : Hid (∀ x, Calls Tryd.prog 69 #[.agg #[.int .i64 d.b, .int .i64 d.e, .int .i64 d.k, .int .i64 d.a, .int .i64 d.x, .int .i64 d.c, .int .i64 d.n, .bool d.ok], .int .i64 v] x fun r w' => r = .returned (.agg #[.int .i64 (d.next v), .int .i64 (d.ans v), .bool (d.did v)]) ∧ Turned [] x w') := fun x => (cAlone hk1 hk7 x).mono fun r w' h => ⟨h.1, by rw [h.2]; exact ((Turned.refl [] x).alloc _).alloc _⟩
  have PF : Hid (∀ x, Calls Tryd.prog 70 #[.agg #[.int .i64 (d.next v), .int .i64 (d.ans v), .bool (d.did v)], .agg #[.int .i64 d.b, .int .i64 d.e, .int .i64 d.k, .int .i64 d.a, .int .i64 d.x, .int .i64 d.c, .int .i64 d.n, .bool d.ok]] x fun r w' => r = .returned (.bool (d.fits v)) ∧ Turned [] x w') := fun x => (cFits x).mono fun r w' h => ⟨h.1, by rw [h.2]; exact ((Turned.refl [] x).alloc _).alloc _⟩
  have PW : Hid (∀ x, Calls Tryd.prog 45 #[.int .u64 (m : Int), .int .i64 (i : Int)] x fun r w' => r = .returned (.int .u64 ((m ||| 2 ^ i : Nat) : Int)) ∧ Turned [] x w') := fun x => (cWith hm hi x).mono fun r w' h => ⟨h.1, by rw [h.2]; exact Turned.refl [] x⟩
  have HS : Hid (w.cell? ⟨sb, 0, none⟩ = some (.slice (some ⟨b, o, none⟩) n cap)) := hs
  have HD : Hid (DAt w b o i d) := hD
  have H3 : Hid (sb < w.heap.size ∧ i < n ∧ b < w.heap.size ∧ m < 18446744073709551616) := ⟨hsl, hin, hb, hm⟩
  clear hs hD hsl hin hb hm hi hk1 hk7
  go_enter Tryd.func48, Tryd.ntmps48
  go_wp2
  have TW := ((Turned.refl [] w).alloc (.cells #[.int .i64 c, .int .i64 (sI m), .int .i64 v] 109 (0, 0))).alloc (.cells #[.int .i64 0, .int .i64 0, .int .i64 0] 109 (0, 0))
  have B4 := ((Turned.refl [] (w.alloc (.cells #[.int .i64 c, .int .i64 (sI m), .int .i64 v] 109 (0, 0)))).alloc (.cells #[.int .i64 0, .int .i64 0, .int .i64 0] 109 (0, 0))).heap (blk_new w _) (by simp)
  have B6 := blk_new2 w (.cells #[.int .i64 c, .int .i64 (sI m), .int .i64 v] 109 (0, 0)) (.cells #[.int .i64 0, .int .i64 0, .int .i64 0] 109 (0, 0))
  obtain ⟨h1, h2, h3, h4⟩ := H3.out
  refine did_r1 (sb := sb) (g4 := w.heap.size) (lb := b) (lo := o) (n := n) (cap := cap) (ix := i) (v := v) (d := d) rfl rfl rfl rfl (TW.cell HS.out (by simp)) (cell_at B4 2) (HD.out.keep TW (by simp)) (by omega) (fun x _ => PA.out x) ?_
  intro a1 x nb hsz hdf hoff f8 ht hb hnb
  have f0 : a1.eval (.tmp 0) = pa sb 0 := hoff 0 (by decide)
  have f2 : a1.eval (.tmp 2) = .int .i64 (i : Int) := hoff 2 (by decide)
  have f4 : a1.eval (.tmp 4) = pa w.heap.size 0 := hoff 4 (by decide)
  have f6 : a1.eval (.tmp 6) = pa (w.heap.size + 1) 0 := hoff 6 (by decide)
  have hsz2 : a1.tmps.size = 39 := hsz
  have hdf2 : a1.defers = [] := hdf
  have T1 : Turned [] w x := TW.trans ht
  have B4x := ht.heap B4 (by simp)
  have B6x := ht.heap B6 (by simp)
  have hlt := lt_of_heap B6
  clear hsz hdf hoff TW B4 B6 ht PA
  rename_i K hK
  refine hK _ _ ?_
  clear hK K
  refine wp_seq (did_r2 (sb := sb) (g4 := w.heap.size) (g6 := w.heap.size + 1) (g8 := nb) (lb := b) (lo := o) (n := n) (cap := cap) (ix := i) (m := m) (c := c) (v := v) (d := d) hsz2 f0 f2 f4 f6 f8 (T1.cell HS.out (by simp)) B4x hb (HD.out.keep T1 (by simp)) (by omega) h4 (by omega) (by omega) (by omega) (by omega) B6x PW.out PF.out ?_)
  intro a2 y hsz3 hdf3 hoff3 e7 ht2 hb2
  have g6 : a2.eval (.tmp 6) = pa (w.heap.size + 1) 0 := (hoff3 6 (by decide)).trans f6
  refine wp_ret ?_
  refine bodyPost_ret (v := .tuple #[.agg #[.int .i64 c, .int .i64 (sI (m ||| 2 ^ i)), .int .i64 (d.next v)], .bool (d.fits v)]) ?_ (hdf3.trans hdf2) ⟨rfl, T1.inner ht2 (by intro q hq; simp at hq; subst hq; exact .inr (by omega))⟩
  rw [results_cell_tmp rfl]
  have q6 : a2.tmps.getD 6 undef = pa (w.heap.size + 1) 0 := g6
  have q7 : a2.tmps.getD 7 undef = .bool (d.fits v) := e7
  rw [q6, q7]
  have c0 := cell_at hb2 0
  have c1 := cell_at hb2 1
  have c2 := cell_at hb2 2
  unfold pa
  go_simp
end Go.Proofs.YtbielnehggcaoaaDoor
/-
  math/bits.TrailingZeros64 of a number that isn't 0. (By the verifier; no statement.)
-/
namespace Go.Proofs.YtbielnehggcaoaaDoor
open Go.RowKit
def tzI (k : Nat) : Nat := 2 ^ k * 285870213051353865 % 18446744073709551616 / 288230376151711744
/-- The library's table, as far as it is asked. -/
def Tab (w : World) : Prop := ∀ k : Nat, k < 64 → w.cell? ⟨0, tzI k, none⟩ = some (.int .u8 (k : Int))
theorem Tab.keep {w w' : World} {l : List Nat} (h : Tab w) (ht : Turned l w w') (h0 : 0 ∉ l) : Tab w' := fun k hk => ht.cell (h k hk) h0
theorem tz_neg {x : Nat} (hx : x < 18446744073709551616) (h0 : x ≠ 0) : IntKind.u64.wrap (-(x : Int)) = ((18446744073709551616 - x : Nat) : Int) := by
  rw [IntKind.wrap_u64]
  omega
theorem tz_mul (k : Nat) : IntKind.u64.wrap (((2 ^ k : Nat) : Int) * 285870213051353865) = ((2 ^ k * 285870213051353865 % 18446744073709551616 : Nat) : Int) := by
  rw [IntKind.wrap_u64]
  generalize (2 : Nat) ^ k = y
  omega
theorem tz_lt (k : Nat) : tzI k < 64 := by
  unfold tzI
  have : 2 ^ k * 285870213051353865 % 18446744073709551616 < 18446744073709551616 := Nat.mod_lt _ (by decide)
  omega
set_option maxHeartbeats 800000 in
theorem cTz {k q : Nat} {w : World} (hT : Tab w) (hk : k < 64) (hq : q < 2 ^ (63 - k)) (hx : 2 ^ k * (2 * q + 1) < 18446744073709551616) : Calls Tryd.prog 71 #[.int .u64 ((2 ^ k * (2 * q + 1) : Nat) : Int)] w fun r w' => r = .returned (.int .i64 (k : Int)) ∧ w' = w := by
  have h0 : 2 ^ k * (2 * q + 1) ≠ 0 := Nat.ne_of_gt (Nat.mul_pos (Nat.two_pow_pos k) (by omega))
  have eA := low_and_neg hk hq
  have e1 := tz_neg hx h0
  have hc := hT k hk
  have hl := tz_lt k
  have e2 := tz_mul k
  unfold tzI at hc hl
  have hp : (2 : Nat) ^ k < 18446744073709551616 := Nat.lt_of_le_of_lt (Nat.le_mul_of_pos_right _ (by omega)) hx
  generalize 2 ^ k * (2 * q + 1) = x at *
  have eB : bits .and .u64 (x : Int) ((18446744073709551616 - x : Nat) : Int) = ((2 ^ k : Nat) : Int) := by
    rw [bits_and_u64_nat _ _ hx (by omega), eA]
  have d0 : ((x : Int) == 0) = false := by simpa using h0
  have hki : IntKind.wrap .i64 (k : Int) = (k : Int) := by rw [IntKind.wrap_i64]; omega
  generalize 2 ^ k * 285870213051353865 % 18446744073709551616 = z at *
  have hz : (z : Int) / 288230376151711744 < 64 := by omega
  generalize (2 : Nat) ^ k = y at *
  clear eA hT hq h0 hx hp
  go_enter Tryd.func71, Tryd.ntmps71
  go_wp2
  go_ret
  exact ⟨rfl, rfl⟩
end Go.Proofs.YtbielnehggcaoaaDoor
/-
  The search as it lies in memory. (By the verifier; no statement.)
-/
namespace Go.Proofs.YtbielnehggcaoaaDoor
open Go.RowKit
def bitsP (m : Nat) : Pl := fun j => m.testBit j
theorem bitsP_upd (m i : Nat) : (bitsP m).upd i = bitsP (m ||| 2 ^ i) := by
  funext j
  simp only [Pl.upd, bitsP, Nat.testBit_or, Nat.testBit_two_pow]
  congr 1
  exact decide_eq_decide.2 ⟨Eq.symm, Eq.symm⟩
/-- The search's sets tell the deeds. -/
structure Masks (D : List Dd) (E : Nat) (A O : Nat → Nat) : Prop where
  len : D.length ≤ 64
  kinds : ∀ i, i < D.length → 1 ≤ (dAt D i).k ∧ (dAt D i).k ≤ 7
  e_lt : E < 18446744073709551616
  a_lt : ∀ i, A i < 18446744073709551616
  o_lt : ∀ c, O c < 18446744073709551616
  e : ∀ j, E.testBit j = (decide (j < D.length) && decide ((dAt D j).e ≠ 0))
  a : ∀ i, i < D.length → ∀ j, (A i).testBit j = (decide (j < D.length) && wasA (dAt D j).e (dAt D i).b)
  o : ∀ c, c < 256 → ∀ j, (O c).testBit j = (decide (j < D.length) && decide ((dAt D j).a = (c : Int)))
structure SrAt (w : World) (sb tb : Nat) (ad : Option Addr) (cap : Nat) (D : List Dd) (E : Nat) (A O : Nat → Nat) : Prop where
  c0 : w.cell? ⟨sb, 0, none⟩ = some (.slice ad D.length cap)
  c1 : w.cell? ⟨sb, 1, none⟩ = some (.int .u64 (E : Int))
  ca : ∀ i, i < 64 → w.cell? ⟨sb, 2 + i, none⟩ = some (.int .u64 (A i : Int))
  co : ∀ c, c < 256 → w.cell? ⟨sb, 66 + c, none⟩ = some (.int .u64 (O c : Int))
  cm : w.cell? ⟨sb, 322, none⟩ = some (.map (some tb))
  sl : sb < w.heap.size
  tl : tb < w.heap.size
  ne : sb ≠ tb
  nz : 0 ≠ tb
  ds : DsAt w ad D
  nd : ∀ b o, ad = some ⟨b, o, none⟩ → b ≠ tb
  tab : Tab w
theorem SrAt.keep {w w' : World} {sb tb cap : Nat} {ad : Option Addr} {D : List Dd} {E : Nat} {A O : Nat → Nat} (h : SrAt w sb tb ad cap D E A O) (ht : Turned [tb] w w') : SrAt w' sb tb ad cap D E A O :=
  have n1 : sb ∉ [tb] := by simpa using h.ne
  have n0 : 0 ∉ [tb] := by simpa using h.nz
  ⟨ht.cell h.c0 n1, ht.cell h.c1 n1, fun i hi => ht.cell (h.ca i hi) n1, fun c hc => ht.cell (h.co c hc) n1, ht.cell h.cm n1, Nat.lt_of_lt_of_le h.sl ht.size, Nat.lt_of_lt_of_le h.tl ht.size, h.ne, h.nz, h.ds.keep ht (fun b o e => by simpa using h.nd b o e), h.nd, h.tab.keep ht n0⟩
theorem SrAt.still {w w' : World} {sb tb cap : Nat} {ad : Option Addr} {D : List Dd} {E : Nat} {A O : Nat → Nat} (h : SrAt w sb tb ad cap D E A O) (ht : Turned [] w w') : SrAt w' sb tb ad cap D E A O := h.keep (ht.mono (by simp))
section
variable {D : List Dd} {E : Nat} {A O : Nat → Nat} (M : Masks D E A O)
include M
/-- Is a cell at its end? -/
theorem Masks.atEnd {ce m : Nat} (hc : ce < 256) : anN (O ce &&& E) m = 0 ↔ callIn D ce (bitsP m) = true := by
  have hlt : O ce &&& E < 18446744073709551616 := Nat.lt_of_le_of_lt Nat.and_le_left (M.o_lt ce)
  constructor
  · intro h
    refine callIn_iff.2 fun j hj ha he => ?_
    have hb := anN_bit (a := O ce &&& E) (b := m) (j := j) hlt
    rw [h, Nat.zero_testBit, Nat.testBit_and, M.o ce hc, M.e] at hb
    simp only [hj, ha, he, decide_true, Bool.true_and, ne_eq, not_false_eq_true] at hb
    show m.testBit j = true
    simpa using hb.symm
  · intro h
    refine zero_of_bits fun j => ?_
    rw [anN_bit hlt, Nat.testBit_and, M.o ce hc, M.e]
    by_cases hj : j < D.length
    · by_cases ha : (dAt D j).a = (ce : Int)
      · by_cases he : (dAt D j).e = 0
        · simp [he]
        · have : m.testBit j = true := callIn_iff.1 h j hj ha he
          simp [this]
      · simp [ha]
    · simp [hj]
/-- May a deed of the cell stand next? -/
theorem Masks.mayB {ce m i : Nat} (hc : ce < 256) (hi : i < D.length) (ha : (dAt D i).a = (ce : Int)) (hn : m.testBit i = false) : anN (A i &&& O ce) m = 0 ↔ cmay D ce (bitsP m) i = true := by
  have hlt : A i &&& O ce < 18446744073709551616 := Nat.lt_of_le_of_lt Nat.and_le_left (M.a_lt i)
  constructor
  · intro h
    refine cmay_iff.2 ⟨ha, hn, fun j hj hcj hw => ?_⟩
    have hb := anN_bit (a := A i &&& O ce) (b := m) (j := j) hlt
    rw [h, Nat.zero_testBit, Nat.testBit_and, M.a i hi, M.o ce hc] at hb
    simp only [hj, hcj, hw, decide_true, Bool.true_and] at hb
    show m.testBit j = true
    simpa using hb.symm
  · intro h
    refine zero_of_bits fun j => ?_
    rw [anN_bit hlt, Nat.testBit_and, M.a i hi, M.o ce hc]
    by_cases hj : j < D.length
    · by_cases hcj : (dAt D j).a = (ce : Int)
      · cases hw : wasA (dAt D j).e (dAt D i).b with
        | false => simp
        | true =>
          have : m.testBit j = true := (cmay_iff.1 h).2.2 j hj hcj hw
          simp [this]
      · simp [hcj]
    · simp [hj]
/-- The deeds that are left. -/
theorem Masks.left {ce m j : Nat} (hc : ce < 256) : (anN (O ce) m).testBit j = true ↔ j < D.length ∧ (dAt D j).a = (ce : Int) ∧ m.testBit j = false := by
  rw [anN_bit (M.o_lt ce), M.o ce hc]
  simp [and_assoc]
end
/-- What makes a deed of the cell a good next one. -/
def OkN (D : List Dd) (ce m : Nat) (v : Int) (i : Nat) : Prop := cmay D ce (bitsP m) i = true ∧ (dAt D i).fits v = true ∧ CCan D ce (bitsP (m ||| 2 ^ i)) ((dAt D i).next v)
theorem OkN.can {D : List Dd} {ce m i : Nat} {v : Int} (h : OkN D ce m v i) (hi : i < D.length) : CCan D ce (bitsP m) v := by
  obtain ⟨os, ho⟩ := h.2.2
  rw [← bitsP_upd] at ho
  exact ⟨i :: os, .cons hi h.1 h.2.1 ho⟩
theorem can_okN {D : List Dd} {ce m : Nat} {v : Int} (h : CCan D ce (bitsP m) v) (hn : callIn D ce (bitsP m) = false) : ∃ i, i < D.length ∧ (dAt D i).a = (ce : Int) ∧ m.testBit i = false ∧ OkN D ce m v i := by
  obtain ⟨os, ho⟩ := h
  cases ho with
  | nil hh => rw [hn] at hh; cases hh
  | @cons _ _ i os hi hm hf hh =>
    obtain ⟨h0, h1, _⟩ := cmay_iff.1 hm
    rw [bitsP_upd] at hh
    exact ⟨i, hi, h0, h1, hm, hf, os, hh⟩
end Go.Proofs.YtbielnehggcaoaaDoor
/- A frame, spelled out. -/
namespace Go.Proofs.YtbielnehggcaoaaDoor
open Go.RowKit
def lit88 (c : Nat → Value) : Array Value := #[c 0, c 1, c 2, c 3, c 4, c 5, c 6, c 7, c 8, c 9, c 10, c 11, c 12, c 13, c 14, c 15, c 16, c 17, c 18, c 19, c 20, c 21, c 22, c 23, c 24, c 25, c 26, c 27, c 28, c 29, c 30, c 31, c 32, c 33, c 34, c 35, c 36, c 37, c 38, c 39, c 40, c 41, c 42, c 43, c 44, c 45, c 46, c 47, c 48, c 49, c 50, c 51, c 52, c 53, c 54, c 55, c 56, c 57, c 58, c 59, c 60, c 61, c 62, c 63, c 64, c 65, c 66, c 67, c 68, c 69, c 70, c 71, c 72, c 73, c 74, c 75, c 76, c 77, c 78, c 79, c 80, c 81, c 82, c 83, c 84, c 85, c 86, c 87]
set_option maxRecDepth 100000 in
theorem lit88_eq (c : Nat → Value) : lit88 c = ((List.range 88).map c).toArray := by rfl
theorem expand88 {a : Act} (hs : a.tmps.size = 88) (hd : a.defers = []) : ∃ c : Nat → Value, a = ⟨lit88 c, []⟩ ∧ ∀ s, c s = a.eval (.tmp s) := by
  refine ⟨fun s => a.tmps.getD s undef, ?_, fun s => rfl⟩
  obtain ⟨t, d⟩ := a
  simp only at hs hd
  subst hd
  congr 1
  rw [lit88_eq]
  refine Array.ext (by simp [hs]) fun i h1 h2 => ?_
  simp [Array.getD, h1]
theorem expand88d {a : Act} {ds : List Deferred} (hs : a.tmps.size = 88) (hd : a.defers = ds) : ∃ c : Nat → Value, a = ⟨lit88 c, ds⟩ ∧ ∀ s, c s = a.eval (.tmp s) := by
  refine ⟨fun s => a.tmps.getD s undef, ?_, fun s => rfl⟩
  obtain ⟨t, d⟩ := a
  simp only at hs hd
  subst hd
  congr 1
  rw [lit88_eq]
  refine Array.ext (by simp [hs]) fun i h1 h2 => ?_
  simp [Array.getD, h1]
end Go.Proofs.YtbielnehggcaoaaDoor
/-
  canEnd by contract. (By the verifier; no statement.)
-/
namespace Go.Proofs.YtbielnehggcaoaaDoor
open Go.RowKit
def KsOk (cv : Nat → Nat → Int → Bool) (Ks : List KE) : Prop := ∀ k ∈ Ks, k.r = if cv k.c k.m k.v = true then 1 else 0
/-- What a call of canEnd leaves. -/
structure EndP (cv : Nat → Nat → Int → Bool) (tb m : Nat) (Ks : List KE) (w w' : World) : Prop where
  turned : Turned [tb] w w'
  ex : ∃ Ks', KM w' tb Ks' ∧ KsOk cv Ks' ∧ ∀ k ∈ Ks', k ∈ Ks ∨ ∀ j, m.testBit j = true → k.m.testBit j = true
section
variable {D : List Dd} {E : Nat} {A O : Nat → Nat} {sb tb cap : Nat} {ad : Option Addr} {cv : Nat → Nat → Int → Bool}
def EndC (D : List Dd) (E : Nat) (A O : Nat → Nat) (sb tb cap : Nat) (ad : Option Addr) (cv : Nat → Nat → Int → Bool) (m : Nat) : Prop := ∀ (ce : Nat) (v : Int) (w : World) (Ks : List KE), SrAt w sb tb ad cap D E A O → KM w tb Ks → KsOk cv Ks → ce < 256 →
    Calls Tryd.prog 49 #[.pointer (some ⟨sb, 0, none⟩), .agg #[.int .i64 (ce : Int), .int .i64 (sI m), .int .i64 v]] w fun r w' => r = .returned (.bool (cv ce m v)) ∧ EndP cv tb m Ks w w'
/-- The end of the search from a state: it is kept, and told. -/
theorem end_tail {K : Act → World → Prop} {Q : Exit → Act → World → Prop} {W w : World} {a : Act} {g3 ce m : Nat} {v r : Int} {Ks0 Ks : List KE} (hs : a.tmps.size = 88) (hd : a.defers = []) (x0 : a.eval (.tmp 0) = pa sb 0) (x3 : a.eval (.tmp 3) = pa g3 0) (x9 : a.eval (.tmp 9) = .int .i64 r) (hr : r = if cv ce m v = true then 1 else 0)
    (hg : w.heap[g3]? = some (.cells #[.int .i64 (ce : Int), .int .i64 (sI m), .int .i64 v] 109 (0, 0))) (hMp : w.cell? ⟨sb, 322, none⟩ = some (.map (some tb))) (n1 : sb ≠ tb) (n2 : g3 ≠ tb) (hm : m < 18446744073709551616) (hK : KM w tb Ks) (hO : KsOk cv Ks) (hNo : ∀ k ∈ Ks, ¬ k.is ce m v) (hsub : ∀ k ∈ Ks, k ∈ Ks0 ∨ ∀ j, m.testBit j = true → k.m.testBit j = true) (hT : Turned [tb] W w)
    (hKK : ∀ a' x, Code.wp Tryd.prog ((Code.region 17 (opsOf 17 Tryd.f49.body) false).seq Code.ret) (bodyPost Tryd.prog Tryd.f49 fun r w' => r = .returned (.bool (cv ce m v)) ∧ EndP cv tb m Ks0 W w') a' x → K a' x) :
    (Code.region 16 (opsOf 16 Tryd.f49.body) true).wp Tryd.prog (Exit.then K Q) a w := by
  refine end_r16 (sb := sb) (g3 := g3) (tb := tb) (ce := ce) (m := m) (v := v) (r := r) (Ks := Ks) hs x0 x3 x9 (cell_at hg 0) (cell_at hg 1) (cell_at hg 2) hMp n1 n2 hm hK hNo ?_
  intro a1 x hsz hdf hoff ht hk
  refine hKK _ _ ?_
  clear hKK
  have f9 : a1.eval (.tmp 9) = .int .i64 r := (hoff 9 (by decide)).trans x9
  have hP : Hid (EndP cv tb m Ks0 W x) := ⟨hT.trans ht, _, hk, fun k hk => by
    rcases List.mem_append.1 hk with h | h
    · exact hO k h
    · rw [List.mem_singleton.1 h]; exact hr, fun k hk => by
    rcases List.mem_append.1 hk with h | h
    · exact hsub k h
    · rw [List.mem_singleton.1 h]; exact .inr fun j hj => hj⟩
  obtain ⟨cc, hcc, hce⟩ := expand88 (hsz.trans hs) (hdf.trans hd)
  have g9 := (hce 9).trans f9
  clear hsz hdf hoff hce f9 hs hd x0 x3 x9 hg hMp hK hO hNo hsub hT ht hk
  subst hcc
  simp only [lit88, g9]
  conv => arg 2; whnf
  go_wp2
  all_goals
    go_ret
    exact ⟨rfl, hP.out⟩
/-- canEnd's loop: those that have been tried don't serve. -/
structure LI (D : List Dd) (E : Nat) (A O : Nat → Nat) (sb tb cap : Nat) (ad : Option Addr) (cv : Nat → Nat → Int → Bool) (ce m g3 : Nat) (v : Int) (Ks : List KE) (w : World) (lf : Nat) (x : World) : Prop where
  tu : Turned [tb] w x
  sr : SrAt x sb tb ad cap D E A O
  blk : x.heap[g3]? = some (.cells #[.int .i64 (ce : Int), .int .i64 (sI m), .int .i64 v] 109 (0, 0))
  km : ∃ Ks', KM x tb Ks' ∧ KsOk cv Ks' ∧ (∀ k ∈ Ks', k ∈ Ks ∨ ∀ j, m.testBit j = true → k.m.testBit j = true) ∧ ∀ k ∈ Ks', ¬ k.is ce m v
  sub : ∀ j, lf.testBit j = true → (anN (O ce) m).testBit j = true
  no : ∀ j, (anN (O ce) m).testBit j = true → lf.testBit j = false → ¬ OkN D ce m v j
theorem LI.still {ce m g3 lf : Nat} {v : Int} {Ks : List KE} {w x y : World} (h : LI D E A O sb tb cap ad cv ce m g3 v Ks w lf x) (ht : Turned [] x y) : LI D E A O sb tb cap ad cv ce m g3 v Ks w lf y :=
  ⟨h.tu.inner ht (by simp), h.sr.still ht, ht.heap h.blk (by simp), by
    obtain ⟨K', a, b, c, d⟩ := h.km
    exact ⟨K', a.keep ht (by simp), b, c, d⟩, h.sub, h.no⟩
/-- One more that doesn't serve. -/
theorem LI.next {ce m g3 k q : Nat} {v : Int} {Ks : List KE} {w x : World} (h : LI D E A O sb tb cap ad cv ce m g3 v Ks w (2 ^ k * (2 * q + 1)) x) (hn : ¬ OkN D ce m v k) : LI D E A O sb tb cap ad cv ce m g3 v Ks w ((2 ^ k * (2 * q + 1)) &&& (2 ^ k * (2 * q + 1) - 1)) x :=
  ⟨h.tu, h.sr, h.blk, h.km, fun j hj => by
    rw [low_and_pred, Bool.and_eq_true] at hj
    exact h.sub j hj.1, fun j hj hl => by
    rw [low_and_pred] at hl
    by_cases e : j = k
    · rw [e]; exact hn
    · refine h.no j hj ?_
      simpa [e] using hl⟩
/-- Behind canEnd of a next state. -/
theorem LI.behind {ce m g3 lf k : Nat} {v : Int} {Ks K' : List KE} {w x y : World} (h : LI D E A O sb tb cap ad cv ce m g3 v Ks w lf x) (hk : m.testBit k = false) (hg : g3 ≠ tb) (hK' : ∀ e ∈ K', (e ∈ Ks ∨ ∀ j, m.testBit j = true → e.m.testBit j = true) ∧ ¬ e.is ce m v) (he : EndP cv tb (m ||| 2 ^ k) K' x y) : LI D E A O sb tb cap ad cv ce m g3 v Ks w lf y := by
  obtain ⟨K2, a, b, c⟩ := he.ex
  refine ⟨h.tu.trans he.turned, h.sr.keep he.turned, he.turned.heap h.blk (by simpa using hg), ⟨K2, a, b, fun e hE => ?_, fun e hE hi => ?_⟩, h.sub, h.no⟩
  · rcases c e hE with h1 | h1
    · exact (hK' e h1).1
    · exact .inr fun j hj => h1 j (by rw [Nat.testBit_or, hj]; rfl)
  · rcases c e hE with h1 | h1
    · exact (hK' e h1).2 hi
    · have := h1 k (by rw [Nat.testBit_or, Nat.testBit_two_pow_self]; simp)
      rw [hi.2.1, hk] at this
      cases this
end
end Go.Proofs.YtbielnehggcaoaaDoor
/-
  canEnd by contract, its walk. (By the verifier; no statement.)
-/
namespace Go.Proofs.YtbielnehggcaoaaDoor
open Go.RowKit
section
variable {D : List Dd} {E : Nat} {A O : Nat → Nat} {sb tb cap : Nat} {ad : Option Addr} {cv : Nat → Nat → Int → Bool}
set_option maxHeartbeats 3200000 in
theorem end_step (M : Masks D E A O) (hcv : ∀ ce m v, cv ce m v = true ↔ CCan D ce (bitsP m) v) {m : Nat} (hm : m < 18446744073709551616) (IH : ∀ i, i < D.length → m.testBit i = false → EndC D E A O sb tb cap ad cv (m ||| 2 ^ i)) : EndC D E A O sb tb cap ad cv m := by
  intro ce v w Ks hS hK hO hc
  obtain ⟨W, hW⟩ : ∃ W, W = w.alloc (.cells #[.int .i64 (ce : Int), .int .i64 (sI m), .int .i64 v] 109 (0, 0)) := ⟨_, rfl⟩
  have T1 : Turned [] w W := by rw [hW]; exact (Turned.refl [] w).alloc _
  have B3 : W.heap[w.heap.size]? = some (.cells #[.int .i64 (ce : Int), .int .i64 (sI m), .int .i64 v] 109 (0, 0)) := by rw [hW]; exact blk_new w _
  have S1 := hS.still T1
  have HI : Hid (∀ i, i < D.length → m.testBit i = false → EndC D E A O sb tb cap ad cv (m ||| 2 ^ i)) := IH
  have HM : Hid (Masks D E A O) := M
  have HCV : Hid (∀ ce m v, cv ce m v = true ↔ CCan D ce (bitsP m) v) := hcv
  have HK : Hid (KM W tb Ks ∧ KsOk cv Ks) := ⟨hK.keep T1 (by simp), hO⟩
  have HT1 : Hid (Turned [] w W) := T1
  have hg3 : w.heap.size ≠ tb := Nat.ne_of_gt hS.tl
  have HS : Hid (SrAt W sb tb ad cap D E A O) := S1
  have HB : Hid (W.heap[w.heap.size]? = some (.cells #[.int .i64 (ce : Int), .int .i64 (sI m), .int .i64 v] 109 (0, 0))) := B3
  clear IH M hcv hK hO hS T1 S1 B3
  go_enter Tryd.func49, Tryd.ntmps49
  go_wp2
  rw [← hW]
  clear hW
  refine end_r1 (sb := sb) (g3 := w.heap.size) (ce := ce) (own := O ce) (m := m) rfl rfl rfl (cell_at HB.out 0) (cell_at HB.out 1) (HS.out.co ce hc) (by omega) hm ?_
  intro a1 x hsz hdf hoff e5 e6 ht
  rename_i K hK'
  refine hK' _ _ ?_
  clear hK' K
  have f0 : a1.eval (.tmp 0) = pa sb 0 := hoff 0 (by decide)
  have f3 : a1.eval (.tmp 3) = pa w.heap.size 0 := hoff 3 (by decide)
  have hsz2 : a1.tmps.size = 88 := hsz
  have hdf2 : a1.defers = [] := hdf
  have S2 : Hid (SrAt x sb tb ad cap D E A O) := HS.out.still ht
  have B2 : Hid (x.heap[w.heap.size]? = some (.cells #[.int .i64 (ce : Int), .int .i64 (sI m), .int .i64 v] 109 (0, 0))) := ht.heap HB.out (by simp)
  have K2 : Hid (KM x tb Ks ∧ KsOk cv Ks) := ⟨HK.out.1.keep ht (by simp), HK.out.2⟩
  have T2 : Hid (Turned [] w x) := HT1.out.trans ht
  clear hsz hdf hoff ht HS HB HK HT1
  generalize w.heap.size = g3 at *
  obtain ⟨cc, hcc, hce⟩ := expand88 hsz2 hdf2
  have q0 := (hce 0).trans f0
  have q3 := (hce 3).trans f3
  have q5 := (hce 5).trans e5
  have q6 := (hce 6).trans e6
  clear hce f0 f3 e5 e6 hsz2 hdf2
  subst hcc
  have h1 := S2.out.c1
  have hsl := S2.out.sl
  have hA1 : bits .and .u64 ((O ce : Nat) : Int) ((E : Nat) : Int) = ((O ce &&& E : Nat) : Int) := bits_and_u64_nat _ _ (HM.out.o_lt ce) HM.out.e_lt
  have hA2 : bits .andNot .u64 ((O ce &&& E : Nat) : Int) (m : Int) = ((anN (O ce &&& E) m : Nat) : Int) := bits_andNot
  have HAE : Hid (anN (O ce &&& E) m = 0 ↔ callIn D ce (bitsP m) = true) := HM.out.atEnd hc
  obtain ⟨oe, hoe⟩ : ∃ oe, oe = O ce &&& E := ⟨_, rfl⟩
  rw [← hoe] at hA1 hA2 HAE
  obtain ⟨ae, hae⟩ : ∃ ae, ae = anN oe m := ⟨_, rfl⟩
  rw [← hae] at hA2 HAE
  clear hoe hae
  by_cases hz : ae = 0
  · subst hz
    have HV : Hid (cv ce m v = true) := (HCV.out _ _ _).2 ⟨[], .nil (HAE.out.1 rfl)⟩
    have HP : Hid (EndP cv tb m Ks w x) := ⟨T2.out.mono (by simp), Ks, K2.out.1, K2.out.2, fun k hk => .inl hk⟩
    simp only [lit88, q0, q3, q5, q6, pa]
    conv => arg 2; whnf
    go_wp2
    go_ret
    exact ⟨by rw [HV.out]; rfl, HP.out⟩
  · have hz2 : ((ae : Int) == 0) = false := by simpa using hz
    have HN : Hid (callIn D ce (bitsP m) = false) := by
      cases hh : callIn D ce (bitsP m) with
      | false => rfl
      | true => exact absurd (HAE.out.2 hh) hz
    clear HAE hz
    simp only [lit88, q0, q3, q5, q6, pa]
    conv => arg 2; whnf
    go_wp2
    have hc0 := cell_at B2.out 0
    have hc1 := cell_at B2.out 1
    have hc2 := cell_at B2.out 2
    by_cases hfd : ∃ k, k ∈ Ks ∧ k.is ce m v
    · obtain ⟨k, hk, hi⟩ := hfd
      have HR : Hid (∀ k ∈ Ks, k.is ce m v → k.r = if cv ce m v = true then 1 else 0) := fun k hk hi => by
        have := K2.out.2 k hk
        rw [hi.1, hi.2.1, hi.2.2] at this
        exact this
      obtain ⟨r, hr⟩ : ∃ r : Int, r = if cv ce m v = true then 1 else 0 := ⟨_, rfl⟩
      have HRR : Hid (r = if cv ce m v = true then 1 else 0) := hr
      refine end_r4 (sb := sb) (g3 := g3) (tb := tb) (ce := ce) (m := m) (v := v) (r := r) (f := true) rfl rfl rfl hc0 hc1 hc2 S2.out.cm (fun y hy => by
        rcases look_key (K2.out.1.keep hy (by simp)) ce m v hm with ⟨k', hk', hi', hl⟩ | ⟨hNo, _⟩
        · rw [hl, HR.out k' hk' hi', HRR.out]
        · exact absurd hi (hNo k hk)) ?_
      intro a2 y hsz hdf hoff e7 e8 ht
      rename_i K hK'
      refine hK' _ _ ?_
      clear hK' K
      have HP : Hid (EndP cv tb m Ks w y) := ⟨(T2.out.trans ht).mono (by simp), Ks, K2.out.1.keep ht (by simp), K2.out.2, fun k hk => .inl hk⟩
      obtain ⟨dd, hdd, hde⟩ := expand88 (a := a2) hsz hdf
      have q7 := (hde 7).trans e7
      have q8 := (hde 8).trans e8
      clear hde e7 e8 hsz hdf hoff hr HR hi hk hc0 hc1 hc2
      subst hdd
      simp only [lit88, q7, q8]
      conv => arg 2; whnf
      cases hcvb : cv ce m v with
      | true =>
        have hr1 : r = 1 := by rw [HRR.out, hcvb]; rfl
        subst hr1
        have HB : Hid (cv ce m v = true) := hcvb
        clear hcvb
        go_wp2
        go_ret
        exact ⟨by rw [HB.out]; rfl, HP.out⟩
      | false =>
        have hr1 : r = 0 := by rw [HRR.out, hcvb]; rfl
        subst hr1
        have HB : Hid (cv ce m v = false) := hcvb
        clear hcvb
        go_wp2
        go_ret
        exact ⟨by rw [HB.out]; rfl, HP.out⟩
    · have HNo : Hid (∀ k ∈ Ks, ¬ k.is ce m v) := fun k hk hi => hfd ⟨k, hk, hi⟩
      clear hfd
      refine end_r4 (sb := sb) (g3 := g3) (tb := tb) (ce := ce) (m := m) (v := v) (r := 0) (f := false) rfl rfl rfl hc0 hc1 hc2 S2.out.cm (fun y hy => by
        rcases look_key (K2.out.1.keep hy (by simp)) ce m v hm with ⟨k', hk', hi', hl⟩ | ⟨_, hl⟩
        · exact absurd hi' (HNo.out k' hk')
        · exact hl) ?_
      intro a2 y hsz hdf hoff e7 e8 ht
      rename_i K hK'
      refine hK' _ _ ?_
      clear hK' K
      have f0 : a2.eval (.tmp 0) = pa sb 0 := hoff 0 (by decide)
      have f3 : a2.eval (.tmp 3) = pa g3 0 := hoff 3 (by decide)
      have f5 : a2.eval (.tmp 5) = .int .u64 ((O ce : Nat) : Int) := hoff 5 (by decide)
      have f6 : a2.eval (.tmp 6) = .int .u64 (m : Int) := hoff 6 (by decide)
      have HL0 : Hid (LI D E A O sb tb cap ad cv ce m g3 v Ks w (anN (O ce) m) y) := ⟨(T2.out.trans ht).mono (by simp), S2.out.still ht, ht.heap B2.out (by simp), ⟨Ks, K2.out.1.keep ht (by simp), K2.out.2, fun k hk => .inl hk, HNo.out⟩, fun j hj => hj, fun j h1 h2 => by rw [h1] at h2; cases h2⟩
      have hA3 : bits .andNot .u64 ((O ce : Nat) : Int) (m : Int) = ((anN (O ce) m : Nat) : Int) := bits_andNot
      have hltL : anN (O ce) m < 18446744073709551616 := anN_lt
      obtain ⟨dd, hdd, hde⟩ := expand88 (a := a2) hsz hdf
      have p0 := (hde 0).trans f0
      have p3 := (hde 3).trans f3
      have p5 := (hde 5).trans f5
      have p6 := (hde 6).trans f6
      have p8 := (hde 8).trans e8
      clear hde e7 e8 f0 f3 f5 f6 hsz hdf hoff hc0 hc1 hc2 h1 hsl hA1 hA2 hz2 q0 q3 q5 q6 ht S2 B2 K2 T2 HNo
      subst hdd
      simp only [lit88, p0, p3, p5, p6, p8, pa]
      conv => arg 2; whnf
      clear p0 p3 p5 p6 p8
      obtain ⟨L0, hL0⟩ : ∃ L0, L0 = anN (O ce) m := ⟨_, rfl⟩
      have HL0e : Hid (L0 = anN (O ce) m) := hL0
      rw [← hL0] at hA3 hltL
      have HL1 : Hid (LI D E A O sb tb cap ad cv ce m g3 v Ks w L0 y) := by rw [hL0]; exact HL0.out
      clear hL0 HL0
      go_wp2
      go_loopw [9, 10] (fun c l wx => ∃ lf : Nat, lf < 18446744073709551616 ∧ l = .int .u64 (lf : Int) ∧ c = .int .i64 0 ∧ Hid (LI D E A O sb tb cap ad cv ce m g3 v Ks w lf wx)) (fun _ l _ => (intOf l).toNat)
      case atStart => exact ⟨L0, hltL, rfl, rfl, HL1⟩
      case round =>
        obtain ⟨lf, hlf, rfl, rfl, HL⟩ := hrel
        clear hA3 HL1 HL0e
        by_cases h0 : lf = 0
        · subst h0
          have HV : Hid ((0 : Int) = if cv ce m v = true then 1 else 0) := by
            have : cv ce m v = false := by
              cases hb : cv ce m v with
              | false => rfl
              | true =>
                obtain ⟨i, hi, ha, hb2, hok⟩ := can_okN ((HCV.out _ _ _).1 hb) HN.out
                exact absurd hok (HL.out.no i ((HM.out.left hc).2 ⟨hi, ha, hb2⟩) (Nat.zero_testBit i))
            rw [Hid, this]; rfl
          obtain ⟨K', a1, a2, a3, a4⟩ := HL.out.km
          have HA : Hid (KM wr tb K' ∧ KsOk cv K' ∧ (∀ k ∈ K', k ∈ Ks ∨ ∀ j, m.testBit j = true → k.m.testBit j = true) ∧ ∀ k ∈ K', ¬ k.is ce m v) := ⟨a1, a2, a3, a4⟩
          clear a1 a2 a3 a4
          go_wp2
          rename_i KK hKK
          exact end_tail (W := w) (g3 := g3) (ce := ce) (m := m) (v := v) (r := 0) (Ks0 := Ks) (Ks := K') rfl rfl rfl rfl rfl HV.out HL.out.blk HL.out.sr.cm HL.out.sr.ne hg3 hm HA.out.1 HA.out.2.1 HA.out.2.2.2 HA.out.2.2.1 HL.out.tu hKK
        · obtain ⟨k, q, hk, hq, rfl⟩ := low_of hlf h0
          have hbit : (2 ^ k * (2 * q + 1)).testBit k = true := by rw [low_bit]; simp
          obtain ⟨hkl, hka, hkm⟩ := (HM.out.left hc).1 (HL.out.sub k hbit)
          have HL2 : Hid (¬ OkN D ce m v k → LI D E A O sb tb cap ad cv ce m g3 v Ks w ((2 ^ k * (2 * q + 1)) &&& (2 ^ k * (2 * q + 1) - 1)) wr) := fun hn => HL.out.next hn
          have HTz : Hid (Calls Tryd.prog 71 #[.int .u64 ((2 ^ k * (2 * q + 1) : Nat) : Int)] wr fun r w' => r = .returned (.int .i64 (k : Int)) ∧ w' = wr) := cTz HL.out.sr.tab hk hq hlf
          have hS1 : IntKind.u64.wrap (((2 ^ k * (2 * q + 1) : Nat) : Int) - 1) = ((2 ^ k * (2 * q + 1) - 1 : Nat) : Int) := by
            rw [IntKind.wrap_u64]
            generalize 2 ^ k * (2 * q + 1) = z at *
            omega
          have hS2 : bits .and .u64 ((2 ^ k * (2 * q + 1) : Nat) : Int) ((2 ^ k * (2 * q + 1) - 1 : Nat) : Int) = (((2 ^ k * (2 * q + 1)) &&& (2 ^ k * (2 * q + 1) - 1) : Nat) : Int) := bits_and_u64_nat _ _ hlf (by omega)
          have hS3 : (2 ^ k * (2 * q + 1)) &&& (2 ^ k * (2 * q + 1) - 1) < 2 ^ k * (2 * q + 1) := Nat.lt_of_le_of_lt Nat.and_le_right (by omega)
          have hz3 : (((2 ^ k * (2 * q + 1) : Nat) : Int) != 0) = true := by
            generalize 2 ^ k * (2 * q + 1) = z at h0
            simpa using h0
          generalize 2 ^ k * (2 * q + 1) = z at *
          generalize hzn : z &&& (z - 1) = zn at *
          have hzn2 : zn < 18446744073709551616 := by omega
          clear hzn hbit hq
          generalize z - 1 = zm at *
          have hAk := HL.out.sr.ca k hk
          have hsl := HL.out.sr.sl
          have hkl64 : (k : Int) < 64 := by omega
          have hB1 : bits .and .u64 ((A k : Nat) : Int) ((O ce : Nat) : Int) = ((A k &&& O ce : Nat) : Int) := bits_and_u64_nat _ _ (HM.out.a_lt k) (HM.out.o_lt ce)
          have hB2 : bits .andNot .u64 ((A k &&& O ce : Nat) : Int) (m : Int) = ((anN (A k &&& O ce) m : Nat) : Int) := bits_andNot
          have HMy : Hid (anN (A k &&& O ce) m = 0 ↔ cmay D ce (bitsP m) k = true) := HM.out.mayB hc hkl hka hkm
          generalize A k &&& O ce = ao at *
          generalize anN ao m = an at *
          by_cases han : an = 0
          · have hcm : cmay D ce (bitsP m) k = true := HMy.out.1 han
            subst han
            obtain ⟨d, hd⟩ : ∃ d, D[k]? = some d := ⟨_, List.getElem?_eq_getElem hkl⟩
            have hdA : dAt D k = d := by unfold dAt; rw [List.getD_eq_getElem?_getD, hd]; rfl
            obtain ⟨lb, lo, hadd, hlb, hDA⟩ := HL.out.sr.ds.deed hd
            have hkk := HM.out.kinds k hkl
            rw [hdA] at hkk
            have hc0 := cell_at HL.out.blk 0
            have hc1 := cell_at HL.out.blk 1
            have hc2 := cell_at HL.out.blk 2
            have hl3 := lt_of_heap HL.out.blk
            have hs0 := HL.out.sr.c0
            rw [hadd] at hs0
            have HDid : Hid (Calls Tryd.prog 48 #[.pointer (some ⟨sb, 0, none⟩), .agg #[.int .i64 (ce : Int), .int .i64 (sI m), .int .i64 v], .int .i64 (k : Int)] wr fun r w' => r = .returned (.tuple #[.agg #[.int .i64 (ce : Int), .int .i64 (sI (m ||| 2 ^ k)), .int .i64 (d.next v)], .bool (d.fits v)]) ∧ Turned [] wr w') := cDid hs0 HL.out.sr.sl hkl hlb hDA hkk.1 hkk.2 hm hk
            clear hs0 hlb hDA hadd hkk hd
            obtain ⟨K', a1, a2, a3, a4⟩ := HL.out.km
            have HA : Hid (KsOk cv K' ∧ (∀ k ∈ K', k ∈ Ks ∨ ∀ j, m.testBit j = true → k.m.testBit j = true) ∧ ∀ k ∈ K', ¬ k.is ce m v) := ⟨a2, a3, a4⟩
            have HEnd : Hid (∀ x1, Turned [] wr x1 → Calls Tryd.prog 49 #[.pointer (some ⟨sb, 0, none⟩), .agg #[.int .i64 (ce : Int), .int .i64 (sI (m ||| 2 ^ k)), .int .i64 (d.next v)]] (x1.alloc (.cells #[.int .i64 (ce : Int), .int .i64 (sI (m ||| 2 ^ k)), .int .i64 (d.next v)] 109 (0, 0))) fun r w' => r = .returned (.bool (cv ce (m ||| 2 ^ k) (d.next v))) ∧ EndP cv tb (m ||| 2 ^ k) K' (x1.alloc (.cells #[.int .i64 (ce : Int), .int .i64 (sI (m ||| 2 ^ k)), .int .i64 (d.next v)] 109 (0, 0))) w') := fun x1 h1 =>
              HI.out k hkl hkm ce (d.next v) _ K' (HL.out.sr.still (h1.alloc _)) (a1.keep (h1.alloc (.cells #[.int .i64 (ce : Int), .int .i64 (sI (m ||| 2 ^ k)), .int .i64 (d.next v)] 109 (0, 0))) (by simp)) a2 hc
            clear a1 a2 a3 a4
            have HOk : Hid ((d.fits v = true ∧ cv ce (m ||| 2 ^ k) (d.next v) = true) ↔ OkN D ce m v k) := by
              rw [Hid, OkN, hdA, HCV.out]
              exact ⟨fun h => ⟨hcm, h.1, h.2⟩, fun h => h.2⟩
            clear HMy hcm hdA
            cases hfit : d.fits v with
            | false =>
              have HLn : Hid (LI D E A O sb tb cap ad cv ce m g3 v Ks w zn wr) := HL2.out fun hok => by
                have := (HOk.out.2 hok).1
                rw [hfit] at this
                cases this
              rw [hfit] at HDid
              clear HL2 HOk hfit
              go_wp2_with (first
                | (go_at_call 71; refine HTz.out.mono ?_; rintro r xz ⟨rfl, ez⟩; rw [ez]; clear ez xz)
                | (go_at_call 48; refine HDid.out.mono ?_; rintro r x1 ⟨rfl, T1⟩; have HT1 : Hid (Turned [] wr x1) := T1; clear T1)
                | (go_at_call 49; refine (HEnd.out x1 HT1.out).mono ?_; rintro r x2 ⟨rfl, P1⟩; have HP1 : Hid (EndP cv tb (m ||| 2 ^ k) K' (x1.alloc (.cells #[.int .i64 (ce : Int), .int .i64 (sI (m ||| 2 ^ k)), .int .i64 (d.next v)] 109 (0, 0))) x2) := P1; clear P1))
              go_roundw
              case rel => exact ⟨zn, hzn2, rfl, rfl, HLn.out.still (HT1.out.alloc _)⟩
              case measure => simp [intOf]; omega
            | true =>
              rw [hfit] at HDid
              cases hcc : cv ce (m ||| 2 ^ k) (d.next v) with
              | false =>
                have HLn : Hid (LI D E A O sb tb cap ad cv ce m g3 v Ks w zn wr) := HL2.out fun hok => by
                  have := (HOk.out.2 hok).2
                  rw [hcc] at this
                  cases this
                rw [hcc] at HEnd
                clear HL2 HOk hfit hcc
                go_wp2_with (first
                | (go_at_call 71; refine HTz.out.mono ?_; rintro r xz ⟨rfl, ez⟩; rw [ez]; clear ez xz)
                | (go_at_call 48; refine HDid.out.mono ?_; rintro r x1 ⟨rfl, T1⟩; have HT1 : Hid (Turned [] wr x1) := T1; clear T1)
                | (go_at_call 49; refine (HEnd.out x1 HT1.out).mono ?_; rintro r x2 ⟨rfl, P1⟩; have HP1 : Hid (EndP cv tb (m ||| 2 ^ k) K' (x1.alloc (.cells #[.int .i64 (ce : Int), .int .i64 (sI (m ||| 2 ^ k)), .int .i64 (d.next v)] 109 (0, 0))) x2) := P1; clear P1))
                go_roundw
                case rel => exact ⟨zn, hzn2, rfl, rfl, (HLn.out.still (HT1.out.alloc _)).behind hkm hg3 (fun e he => ⟨HA.out.2.1 e he, HA.out.2.2 e he⟩) HP1.out⟩
                case measure => simp [intOf]; omega
              | true =>
                have HV : Hid ((1 : Int) = if cv ce m v = true then 1 else 0) := by
                  have : cv ce m v = true := (HCV.out _ _ _).2 ((HOk.out.1 ⟨hfit, hcc⟩).can hkl)
                  rw [Hid, this]; rfl
                rw [hcc] at HEnd
                clear HL2 HOk hfit hcc
                go_wp2_with (first
                | (go_at_call 71; refine HTz.out.mono ?_; rintro r xz ⟨rfl, ez⟩; rw [ez]; clear ez xz)
                | (go_at_call 48; refine HDid.out.mono ?_; rintro r x1 ⟨rfl, T1⟩; have HT1 : Hid (Turned [] wr x1) := T1; clear T1)
                | (go_at_call 49; refine (HEnd.out x1 HT1.out).mono ?_; rintro r x2 ⟨rfl, P1⟩; have HP1 : Hid (EndP cv tb (m ||| 2 ^ k) K' (x1.alloc (.cells #[.int .i64 (ce : Int), .int .i64 (sI (m ||| 2 ^ k)), .int .i64 (d.next v)] 109 (0, 0))) x2) := P1; clear P1))
                have L3 := (HL.out.still (HT1.out.alloc (.cells #[.int .i64 (ce : Int), .int .i64 (sI (m ||| 2 ^ k)), .int .i64 (d.next v)] 109 (0, 0)))).behind hkm hg3 (fun e he => ⟨HA.out.2.1 e he, HA.out.2.2 e he⟩) HP1.out
                obtain ⟨K3, b1, b2, b3, b4⟩ := L3.km
                rename_i KK hKK
                exact end_tail (W := w) (g3 := g3) (ce := ce) (m := m) (v := v) (r := 1) (Ks0 := Ks) (Ks := K3) rfl rfl rfl rfl rfl HV.out L3.blk L3.sr.cm L3.sr.ne hg3 hm b1 b2 b4 b3 L3.tu hKK
          · have han2 : ((an : Int) != 0) = true := by simpa using han
            have HLn : Hid (LI D E A O sb tb cap ad cv ce m g3 v Ks w zn wr) := HL2.out fun hok => han (HMy.out.2 hok.1)
            clear HL2 HMy han
            go_wp2_with (go_at_call 71; refine HTz.out.mono ?_; rintro r x1 ⟨rfl, rfl⟩)
            go_roundw
            case rel => exact ⟨zn, hzn2, rfl, rfl, HLn⟩
            case measure => simp [intOf]; omega
end
end Go.Proofs.YtbielnehggcaoaaDoor
/-
  canEnd by contract, of every state. (By the verifier; no statement.)
-/
namespace Go.Proofs.YtbielnehggcaoaaDoor
theorem cCanEnd {D : List Dd} {E : Nat} {A O : Nat → Nat} {sb tb cap : Nat} {ad : Option Addr} {cv : Nat → Nat → Int → Bool} (M : Masks D E A O) (hcv : ∀ ce m v, cv ce m v = true ↔ CCan D ce (bitsP m) v) : ∀ (n m : Nat), outN D.length (bitsP m) ≤ n → m < 18446744073709551616 → EndC D E A O sb tb cap ad cv m
  | 0, m, hn, hm => end_step M hcv hm fun i hi hb => by
    have := outN_upd (S := bitsP m) hi hb
    omega
  | n + 1, m, hn, hm => end_step M hcv hm fun i hi hb => by
    have h1 := outN_upd (S := bitsP m) hi hb
    rw [bitsP_upd] at h1
    exact cCanEnd M hcv n (m ||| 2 ^ i) (by omega) (with_lt hm (by have := M.len; omega))
end Go.Proofs.YtbielnehggcaoaaDoor
/- Drawn regions of newSearch. (Written by tools/gen/genju3.py.) -/
set_option linter.unusedVariables false
namespace Go.Proofs.YtbielnehggcaoaaDoor
open Go.RowKit
def new_r5V (sb g5 ce ix old : Nat) (_ : Bool) : Nat → Value := fun j => match j with | 0 => (pa sb 0) | 1 => (pa g5 3) | 2 => (Value.int IntKind.i64 (ce : Int)) | 3 => (pa sb 0) | 4 => (pa g5 3) | 5 => (Value.int IntKind.i64 (ce : Int)) | 6 => (pa sb 0) | 7 => (pa sb 66) | 8 => (pa sb (66 + ce)) | 9 => (Value.int IntKind.u64 (old : Int)) | 10 => (Value.int IntKind.i64 (ix : Int)) | 11 => (Value.int IntKind.u64 ((old ||| 2 ^ ix : Nat) : Int)) | 12 => (pa sb 0) | 13 => (pa sb 66) | 14 => (pa sb (66 + ce)) | 15 => undef | _ => undef
set_option maxRecDepth 100000 in
set_option maxHeartbeats 1600000 in
theorem new_r5 {sb g5 ce ix old : Nat} {K : Act → World → Prop} {Q : Exit → Act → World → Prop} {a0 : Act} {w : World} (hs : a0.tmps.size = 74) {cs : Array Value} (x3 : a0.eval (.tmp 3) = pa sb 0) (x4 : a0.eval (.tmp 4) = .int .i64 (ix : Int)) (x5 : a0.eval (.tmp 5) = pa g5 0) (hA3 : w.cell? ⟨g5, 3, none⟩ = some (.int .i64 (ce : Int))) (hce : (ce : Int) < 256) (hold : cs[66 + ce]? = some (.int .u64 (old : Int))) (n5 : g5 ≠ sb) (hB : w.heap[sb]? = some (Obj.cells cs 106 (0, 0)))
    (hW : ∀ x, Calls Tryd.prog 45 #[.int .u64 (old : Int), .int .i64 (ix : Int)] x fun e w' => e = .returned (Value.int IntKind.u64 ((old ||| 2 ^ ix : Nat) : Int)) ∧ Turned [] x w')
    (hEnd : ∀ a' x, a'.tmps.size = a0.tmps.size → a'.defers = a0.defers → (∀ s, some s ∉ ([some 19, some 20, some 21, some 22, some 23, some 24, some 25, some 26, some 27, some 28, some 29, some 30, some 31, some 32, some 33, none] : List (Option Nat)) → a'.eval (.tmp s) = a0.eval (.tmp s)) →  Turned [sb] w x → x.heap[sb]? = some (Obj.cells (cs.setIfInBounds (66 + ce) (.int .u64 ((old ||| 2 ^ ix : Nat) : Int))) 106 (0, 0)) → K a' x) : (Code.region 5 (opsOf 5 Tryd.f30.body) true).wp Tryd.prog (Exit.then K Q) a0 w := by
  refine wp_region_ghost3 (G := Bool) (by kernel_rfl) [some 19, some 20, some 21, some 22, some 23, some 24, some 25, some 26, some 27, some 28, some 29, some 30, some 31, some 32, some 33, none] (by rw [hs]; kernel_rfl) (new_r5V sb g5 ce ix old) [15] ?_ (fun g _ => g) (fun g x => Turned [sb] w x ∧ x.heap[sb]? = some (if g = true then Obj.cells (cs.setIfInBounds (66 + ce) (.int .u64 ((old ||| 2 ^ ix : Nat) : Int))) 106 (0, 0) else Obj.cells cs 106 (0, 0))) (false) (⟨(Turned.refl _ _).drew, hB⟩) (by intro x hx; rfl) (by decide) ?_ ?_
  · intro i g b h γ
    have hi : i < 16 := by
      apply Classical.byContradiction
      intro hn
      rw [show (opsOf 5 Tryd.f30.body)[i]? = none from Array.getElem?_eq_none (by have : (opsOf 5 Tryd.f30.body).size = 16 := (by kernel_rfl); omega)] at h
      cases h
    rcases (by omega : i = 0 ∨ i = 1 ∨ i = 2 ∨ i = 3 ∨ i = 4 ∨ i = 5 ∨ i = 6 ∨ i = 7 ∨ i = 8 ∨ i = 9 ∨ i = 10 ∨ i = 11 ∨ i = 12 ∨ i = 13 ∨ i = 14 ∨ i = 15) with rfl | rfl | rfl | rfl | rfl | rfl | rfl | rfl | rfl | rfl | rfl | rfl | rfl | rfl | rfl | rfl
    · rw [show ((opsOf 5 Tryd.f30.body)[0]?).bind (fun o : Oper => o.guard) = none from by kernel_rfl] at h
      cases h
    · rw [show ((opsOf 5 Tryd.f30.body)[1]?).bind (fun o : Oper => o.guard) = none from by kernel_rfl] at h
      cases h
    · rw [show ((opsOf 5 Tryd.f30.body)[2]?).bind (fun o : Oper => o.guard) = none from by kernel_rfl] at h
      cases h
    · rw [show ((opsOf 5 Tryd.f30.body)[3]?).bind (fun o : Oper => o.guard) = none from by kernel_rfl] at h
      cases h
    · rw [show ((opsOf 5 Tryd.f30.body)[4]?).bind (fun o : Oper => o.guard) = none from by kernel_rfl] at h
      cases h
    · rw [show ((opsOf 5 Tryd.f30.body)[5]?).bind (fun o : Oper => o.guard) = none from by kernel_rfl] at h
      cases h
    · rw [show ((opsOf 5 Tryd.f30.body)[6]?).bind (fun o : Oper => o.guard) = none from by kernel_rfl] at h
      cases h
    · rw [show ((opsOf 5 Tryd.f30.body)[7]?).bind (fun o : Oper => o.guard) = none from by kernel_rfl] at h
      cases h
    · rw [show ((opsOf 5 Tryd.f30.body)[8]?).bind (fun o : Oper => o.guard) = none from by kernel_rfl] at h
      cases h
    · rw [show ((opsOf 5 Tryd.f30.body)[9]?).bind (fun o : Oper => o.guard) = none from by kernel_rfl] at h
      cases h
    · rw [show ((opsOf 5 Tryd.f30.body)[10]?).bind (fun o : Oper => o.guard) = none from by kernel_rfl] at h
      cases h
    · rw [show ((opsOf 5 Tryd.f30.body)[11]?).bind (fun o : Oper => o.guard) = none from by kernel_rfl] at h
      cases h
    · rw [show ((opsOf 5 Tryd.f30.body)[12]?).bind (fun o : Oper => o.guard) = none from by kernel_rfl] at h
      cases h
    · rw [show ((opsOf 5 Tryd.f30.body)[13]?).bind (fun o : Oper => o.guard) = none from by kernel_rfl] at h
      cases h
    · rw [show ((opsOf 5 Tryd.f30.body)[14]?).bind (fun o : Oper => o.guard) = none from by kernel_rfl] at h
      cases h
    · rw [show ((opsOf 5 Tryd.f30.body)[15]?).bind (fun o : Oper => o.guard) = none from by kernel_rfl] at h
      cases h
  · intro i hi hgd
    rcases (by simp at hi; omega : i = 0 ∨ i = 1 ∨ i = 2 ∨ i = 3 ∨ i = 4 ∨ i = 5 ∨ i = 6 ∨ i = 7 ∨ i = 8 ∨ i = 9 ∨ i = 10 ∨ i = 11 ∨ i = 12 ∨ i = 13 ∨ i = 14 ∨ i = 15) with rfl | rfl | rfl | rfl | rfl | rfl | rfl | rfl | rfl | rfl | rfl | rfl | rfl | rfl | rfl | rfl
    · refine soft (by decide) ?_
      intro o ac wa g ho hoff hv hS hdn
      exact (x_move (op_is rfl ho)).trans (by rw [((hoff 3 (by decide)).trans x3)]; rfl)
    · refine soft (by decide) ?_
      intro o ac wa g ho hoff hv hS hdn
      exact x_field (op_is rfl ho) (by rw [((hoff 5 (by decide)).trans x5)]; show (Instr.fieldAt _ (pa _ _) _).run _ _ = .ok (pa _ _) _; unfold pa; go_simp)
    · refine soft (by decide) ?_
      intro o ac wa g ho hoff hv hS hdn
      have hc := hS.1.cell hA3 (by simpa using n5)
      exact x_load (op_is rfl ho) (by rw [(hv 1 20 rfl (by kernel_rfl))]; show (Instr.loadAt _ (pa _ _)).run _ _ = _; unfold pa; go_simp; rfl)
    · refine soft (by decide) ?_
      intro o ac wa g ho hoff hv hS hdn
      exact (x_move (op_is rfl ho)).trans (by rw [((hoff 3 (by decide)).trans x3)]; rfl)
    · refine soft (by decide) ?_
      intro o ac wa g ho hoff hv hS hdn
      exact x_field (op_is rfl ho) (by rw [((hoff 5 (by decide)).trans x5)]; show (Instr.fieldAt _ (pa _ _) _).run _ _ = .ok (pa _ _) _; unfold pa; go_simp)
    · refine soft (by decide) ?_
      intro o ac wa g ho hoff hv hS hdn
      have hc := hS.1.cell hA3 (by simpa using n5)
      exact x_load (op_is rfl ho) (by rw [(hv 4 23 rfl (by kernel_rfl))]; show (Instr.loadAt _ (pa _ _)).run _ _ = _; unfold pa; go_simp; rfl)
    · refine soft (by decide) ?_
      intro o ac wa g ho hoff hv hS hdn
      exact x_nil (op_is rfl ho) ((hv 3 22 rfl (by kernel_rfl)))
    · refine soft (by decide) ?_
      intro o ac wa g ho hoff hv hS hdn
      exact x_field (op_is rfl ho) (by rw [(hv 6 25 rfl (by kernel_rfl))]; show (Instr.fieldAt _ (pa _ _) _).run _ _ = .ok (pa _ _) _; unfold pa; go_simp)
    · refine soft (by decide) ?_
      intro o ac wa g ho hoff hv hS hdn
      exact x_index (op_is rfl ho) (by rw [(hv 7 26 rfl (by kernel_rfl)), (hv 5 24 rfl (by kernel_rfl))]; show (Instr.indexAt _ (pa sb 66) (Value.int IntKind.i64 (ce : Int))).run _ _ = .ok (pa _ _) _; unfold pa; go_simp)
    · intro o ac wa g K ho hd _ hoff hv hS hpre hnd hlater hK
      have hst : g = false := hlater 15 (by simp) (by kernel_rfl)
      subst hst
      have hb : wa.heap[sb]? = some (Obj.cells cs 106 (0, 0)) := hS.2
      refine l_val hd (v := (Value.int IntKind.u64 (old : Int))) (w' := wa) (by
        have c0 : wa.cell? ⟨sb, 66 + ce, none⟩ = some (.int .u64 (old : Int)) := (cell_at hb (66 + ce)).trans hold
        exact x_load (op_is rfl ho) (by rw [(hv 8 27 rfl (by kernel_rfl))]; show (Instr.loadAt _ (pa _ _)).run _ _ = _; unfold pa; go_simp)) ?_
      exact hK false wa hS (by intro x hx; simp at hx; subst hx; simp) (fun _ _ _ => rfl)
    · refine soft (by decide) ?_
      intro o ac wa g ho hoff hv hS hdn
      exact (x_move (op_is rfl ho)).trans (by rw [((hoff 4 (by decide)).trans x4)]; rfl)
    · intro o ac wa g K ho hd _ hoff hv hS _ _ _ hK
      refine l_callE (op_is rfl ho) (xs := #[.int .u64 (old : Int), .int .i64 (ix : Int)]) (by simp only [List.map_toArray, List.map_cons, List.map_nil]; rw [(hv 9 28 rfl (by kernel_rfl)), (hv 10 29 rfl (by kernel_rfl))]; rfl) Tryd.func45 (by kernel_rfl) rfl (hW wa) ?_
      rintro e w' ⟨rfl, ht⟩
      refine ⟨_, rfl, ?_⟩
      rw [hd]
      exact hK g w' ⟨hS.1.inner ht (by simp), ht.heap hS.2 (by simp)⟩ (by intro x hx; simp at hx; subst hx; simp) (fun _ _ _ => rfl)
    · refine soft (by decide) ?_
      intro o ac wa g ho hoff hv hS hdn
      exact x_nil (op_is rfl ho) ((hv 0 19 rfl (by kernel_rfl)))
    · refine soft (by decide) ?_
      intro o ac wa g ho hoff hv hS hdn
      exact x_field (op_is rfl ho) (by rw [(hv 12 31 rfl (by kernel_rfl))]; show (Instr.fieldAt _ (pa _ _) _).run _ _ = .ok (pa _ _) _; unfold pa; go_simp)
    · refine soft (by decide) ?_
      intro o ac wa g ho hoff hv hS hdn
      exact x_index (op_is rfl ho) (by rw [(hv 13 32 rfl (by kernel_rfl)), (hv 2 21 rfl (by kernel_rfl))]; show (Instr.indexAt _ (pa sb 66) (Value.int IntKind.i64 (ce : Int))).run _ _ = .ok (pa _ _) _; unfold pa; go_simp)
    · intro o ac wa g K ho hd _ hoff hv hS hpre hnd hlater hK
      have hst : g = false := hnd (by simp)
      subst hst
      have hb : wa.heap[sb]? = some (Obj.cells cs 106 (0, 0)) := hS.2
      refine l_skip hd (w' := (wa.setCell ⟨sb, (66 + ce), none⟩ (.int .u64 ((old ||| 2 ^ ix : Nat) : Int)))) (x_store (op_is rfl ho) (by
        have c0 : wa.cell? ⟨sb, (66 + ce), none⟩ = some (.int .u64 (old : Int)) := (cell_at hb (66 + ce)).trans hold
        have z := froz_at hb (66 + ce)
        rw [(hv 14 33 rfl (by kernel_rfl)), (hv 11 30 rfl (by kernel_rfl))]
        show (Instr.storeAt _ (pa _ _) (Value.int IntKind.u64 _)).run _ _ = _
        unfold pa
        go_simp)) ?_
      exact hK true _ ⟨hS.1.trans ((Turned.refl _ wa).set (.inl (by simp)) (66 + ce) _), by rw [if_pos rfl]; exact blk_set hb (66 + ce) _⟩ (by intro x hx; simp at hx; subst hx; simp) (fun _ _ _ => rfl)
  · intro a' w' g hsz hdf hoff hS hdn hval
    have hst : g = true := hdn 15 (by simp)
    subst hst
    exact hEnd a' w' hsz hdf (fun s hs => ev_same (hoff s hs))  hS.1 hS.2
def new_r12V (sb iy ix old : Nat) (_ : Bool) : Nat → Value := fun j => match j with | 0 => (pa sb 0) | 1 => (Value.int IntKind.i64 (iy : Int)) | 2 => (pa sb 0) | 3 => (Value.int IntKind.i64 (iy : Int)) | 4 => (pa sb 0) | 5 => (pa sb 2) | 6 => (pa sb (2 + iy)) | 7 => (Value.int IntKind.u64 (old : Int)) | 8 => (Value.int IntKind.i64 (ix : Int)) | 9 => (Value.int IntKind.u64 ((old ||| 2 ^ ix : Nat) : Int)) | 10 => (pa sb 0) | 11 => (pa sb 2) | 12 => (pa sb (2 + iy)) | 13 => undef | _ => undef
set_option maxRecDepth 100000 in
set_option maxHeartbeats 1600000 in
theorem new_r12 {sb iy ix old : Nat} {K : Act → World → Prop} {Q : Exit → Act → World → Prop} {a0 : Act} {w : World} (hs : a0.tmps.size = 74) {cs : Array Value} (x3 : a0.eval (.tmp 3) = pa sb 0) (x4 : a0.eval (.tmp 4) = .int .i64 (iy : Int)) (x6 : a0.eval (.tmp 6) = .int .i64 (ix : Int)) (hiy : (iy : Int) < 64) (hold : cs[2 + iy]? = some (.int .u64 (old : Int))) (hB : w.heap[sb]? = some (Obj.cells cs 106 (0, 0)))
    (hW : ∀ x, Calls Tryd.prog 45 #[.int .u64 (old : Int), .int .i64 (ix : Int)] x fun e w' => e = .returned (Value.int IntKind.u64 ((old ||| 2 ^ ix : Nat) : Int)) ∧ Turned [] x w')
    (hEnd : ∀ a' x, a'.tmps.size = a0.tmps.size → a'.defers = a0.defers → (∀ s, some s ∉ ([some 58, some 59, some 60, some 61, some 62, some 63, some 64, some 65, some 66, some 67, some 68, some 69, some 70, none] : List (Option Nat)) → a'.eval (.tmp s) = a0.eval (.tmp s)) →  Turned [sb] w x → x.heap[sb]? = some (Obj.cells (cs.setIfInBounds (2 + iy) (.int .u64 ((old ||| 2 ^ ix : Nat) : Int))) 106 (0, 0)) → K a' x) : (Code.region 12 (opsOf 12 Tryd.f30.body) true).wp Tryd.prog (Exit.then K Q) a0 w := by
  refine wp_region_ghost3 (G := Bool) (by kernel_rfl) [some 58, some 59, some 60, some 61, some 62, some 63, some 64, some 65, some 66, some 67, some 68, some 69, some 70, none] (by rw [hs]; kernel_rfl) (new_r12V sb iy ix old) [13] ?_ (fun g _ => g) (fun g x => Turned [sb] w x ∧ x.heap[sb]? = some (if g = true then Obj.cells (cs.setIfInBounds (2 + iy) (.int .u64 ((old ||| 2 ^ ix : Nat) : Int))) 106 (0, 0) else Obj.cells cs 106 (0, 0))) (false) (⟨(Turned.refl _ _).drew, hB⟩) (by intro x hx; rfl) (by decide) ?_ ?_
  · intro i g b h γ
    have hi : i < 14 := by
      apply Classical.byContradiction
      intro hn
      rw [show (opsOf 12 Tryd.f30.body)[i]? = none from Array.getElem?_eq_none (by have : (opsOf 12 Tryd.f30.body).size = 14 := (by kernel_rfl); omega)] at h
      cases h
    rcases (by omega : i = 0 ∨ i = 1 ∨ i = 2 ∨ i = 3 ∨ i = 4 ∨ i = 5 ∨ i = 6 ∨ i = 7 ∨ i = 8 ∨ i = 9 ∨ i = 10 ∨ i = 11 ∨ i = 12 ∨ i = 13) with rfl | rfl | rfl | rfl | rfl | rfl | rfl | rfl | rfl | rfl | rfl | rfl | rfl | rfl
    · rw [show ((opsOf 12 Tryd.f30.body)[0]?).bind (fun o : Oper => o.guard) = none from by kernel_rfl] at h
      cases h
    · rw [show ((opsOf 12 Tryd.f30.body)[1]?).bind (fun o : Oper => o.guard) = none from by kernel_rfl] at h
      cases h
    · rw [show ((opsOf 12 Tryd.f30.body)[2]?).bind (fun o : Oper => o.guard) = none from by kernel_rfl] at h
      cases h
    · rw [show ((opsOf 12 Tryd.f30.body)[3]?).bind (fun o : Oper => o.guard) = none from by kernel_rfl] at h
      cases h
    · rw [show ((opsOf 12 Tryd.f30.body)[4]?).bind (fun o : Oper => o.guard) = none from by kernel_rfl] at h
      cases h
    · rw [show ((opsOf 12 Tryd.f30.body)[5]?).bind (fun o : Oper => o.guard) = none from by kernel_rfl] at h
      cases h
    · rw [show ((opsOf 12 Tryd.f30.body)[6]?).bind (fun o : Oper => o.guard) = none from by kernel_rfl] at h
      cases h
    · rw [show ((opsOf 12 Tryd.f30.body)[7]?).bind (fun o : Oper => o.guard) = none from by kernel_rfl] at h
      cases h
    · rw [show ((opsOf 12 Tryd.f30.body)[8]?).bind (fun o : Oper => o.guard) = none from by kernel_rfl] at h
      cases h
    · rw [show ((opsOf 12 Tryd.f30.body)[9]?).bind (fun o : Oper => o.guard) = none from by kernel_rfl] at h
      cases h
    · rw [show ((opsOf 12 Tryd.f30.body)[10]?).bind (fun o : Oper => o.guard) = none from by kernel_rfl] at h
      cases h
    · rw [show ((opsOf 12 Tryd.f30.body)[11]?).bind (fun o : Oper => o.guard) = none from by kernel_rfl] at h
      cases h
    · rw [show ((opsOf 12 Tryd.f30.body)[12]?).bind (fun o : Oper => o.guard) = none from by kernel_rfl] at h
      cases h
    · rw [show ((opsOf 12 Tryd.f30.body)[13]?).bind (fun o : Oper => o.guard) = none from by kernel_rfl] at h
      cases h
  · intro i hi hgd
    rcases (by simp at hi; omega : i = 0 ∨ i = 1 ∨ i = 2 ∨ i = 3 ∨ i = 4 ∨ i = 5 ∨ i = 6 ∨ i = 7 ∨ i = 8 ∨ i = 9 ∨ i = 10 ∨ i = 11 ∨ i = 12 ∨ i = 13) with rfl | rfl | rfl | rfl | rfl | rfl | rfl | rfl | rfl | rfl | rfl | rfl | rfl | rfl
    · refine soft (by decide) ?_
      intro o ac wa g ho hoff hv hS hdn
      exact (x_move (op_is rfl ho)).trans (by rw [((hoff 3 (by decide)).trans x3)]; rfl)
    · refine soft (by decide) ?_
      intro o ac wa g ho hoff hv hS hdn
      exact (x_move (op_is rfl ho)).trans (by rw [((hoff 4 (by decide)).trans x4)]; rfl)
    · refine soft (by decide) ?_
      intro o ac wa g ho hoff hv hS hdn
      exact (x_move (op_is rfl ho)).trans (by rw [((hoff 3 (by decide)).trans x3)]; rfl)
    · refine soft (by decide) ?_
      intro o ac wa g ho hoff hv hS hdn
      exact (x_move (op_is rfl ho)).trans (by rw [((hoff 4 (by decide)).trans x4)]; rfl)
    · refine soft (by decide) ?_
      intro o ac wa g ho hoff hv hS hdn
      exact x_nil (op_is rfl ho) ((hv 2 60 rfl (by kernel_rfl)))
    · refine soft (by decide) ?_
      intro o ac wa g ho hoff hv hS hdn
      exact x_field (op_is rfl ho) (by rw [(hv 4 62 rfl (by kernel_rfl))]; show (Instr.fieldAt _ (pa _ _) _).run _ _ = .ok (pa _ _) _; unfold pa; go_simp)
    · refine soft (by decide) ?_
      intro o ac wa g ho hoff hv hS hdn
      exact x_index (op_is rfl ho) (by rw [(hv 5 63 rfl (by kernel_rfl)), (hv 3 61 rfl (by kernel_rfl))]; show (Instr.indexAt _ (pa sb 2) (Value.int IntKind.i64 (iy : Int))).run _ _ = .ok (pa _ _) _; unfold pa; go_simp)
    · intro o ac wa g K ho hd _ hoff hv hS hpre hnd hlater hK
      have hst : g = false := hlater 13 (by simp) (by kernel_rfl)
      subst hst
      have hb : wa.heap[sb]? = some (Obj.cells cs 106 (0, 0)) := hS.2
      refine l_val hd (v := (Value.int IntKind.u64 (old : Int))) (w' := wa) (by
        have c0 : wa.cell? ⟨sb, 2 + iy, none⟩ = some (.int .u64 (old : Int)) := (cell_at hb (2 + iy)).trans hold
        exact x_load (op_is rfl ho) (by rw [(hv 6 64 rfl (by kernel_rfl))]; show (Instr.loadAt _ (pa _ _)).run _ _ = _; unfold pa; go_simp)) ?_
      exact hK false wa hS (by intro x hx; simp at hx; subst hx; simp) (fun _ _ _ => rfl)
    · refine soft (by decide) ?_
      intro o ac wa g ho hoff hv hS hdn
      exact (x_move (op_is rfl ho)).trans (by rw [((hoff 6 (by decide)).trans x6)]; rfl)
    · intro o ac wa g K ho hd _ hoff hv hS _ _ _ hK
      refine l_callE (op_is rfl ho) (xs := #[.int .u64 (old : Int), .int .i64 (ix : Int)]) (by simp only [List.map_toArray, List.map_cons, List.map_nil]; rw [(hv 7 65 rfl (by kernel_rfl)), (hv 8 66 rfl (by kernel_rfl))]; rfl) Tryd.func45 (by kernel_rfl) rfl (hW wa) ?_
      rintro e w' ⟨rfl, ht⟩
      refine ⟨_, rfl, ?_⟩
      rw [hd]
      exact hK g w' ⟨hS.1.inner ht (by simp), ht.heap hS.2 (by simp)⟩ (by intro x hx; simp at hx; subst hx; simp) (fun _ _ _ => rfl)
    · refine soft (by decide) ?_
      intro o ac wa g ho hoff hv hS hdn
      exact x_nil (op_is rfl ho) ((hv 0 58 rfl (by kernel_rfl)))
    · refine soft (by decide) ?_
      intro o ac wa g ho hoff hv hS hdn
      exact x_field (op_is rfl ho) (by rw [(hv 10 68 rfl (by kernel_rfl))]; show (Instr.fieldAt _ (pa _ _) _).run _ _ = .ok (pa _ _) _; unfold pa; go_simp)
    · refine soft (by decide) ?_
      intro o ac wa g ho hoff hv hS hdn
      exact x_index (op_is rfl ho) (by rw [(hv 11 69 rfl (by kernel_rfl)), (hv 1 59 rfl (by kernel_rfl))]; show (Instr.indexAt _ (pa sb 2) (Value.int IntKind.i64 (iy : Int))).run _ _ = .ok (pa _ _) _; unfold pa; go_simp)
    · intro o ac wa g K ho hd _ hoff hv hS hpre hnd hlater hK
      have hst : g = false := hnd (by simp)
      subst hst
      have hb : wa.heap[sb]? = some (Obj.cells cs 106 (0, 0)) := hS.2
      refine l_skip hd (w' := (wa.setCell ⟨sb, (2 + iy), none⟩ (.int .u64 ((old ||| 2 ^ ix : Nat) : Int)))) (x_store (op_is rfl ho) (by
        have c0 : wa.cell? ⟨sb, (2 + iy), none⟩ = some (.int .u64 (old : Int)) := (cell_at hb (2 + iy)).trans hold
        have z := froz_at hb (2 + iy)
        rw [(hv 12 70 rfl (by kernel_rfl)), (hv 9 67 rfl (by kernel_rfl))]
        show (Instr.storeAt _ (pa _ _) (Value.int IntKind.u64 _)).run _ _ = _
        unfold pa
        go_simp)) ?_
      exact hK true _ ⟨hS.1.trans ((Turned.refl _ wa).set (.inl (by simp)) (2 + iy) _), by rw [if_pos rfl]; exact blk_set hb (2 + iy) _⟩ (by intro x hx; simp at hx; subst hx; simp) (fun _ _ _ => rfl)
  · intro a' w' g hsz hdf hoff hS hdn hval
    have hst : g = true := hdn 13 (by simp)
    subst hst
    exact hEnd a' w' hsz hdf (fun s hs => ev_same (hoff s hs))  hS.1 hS.2
end Go.Proofs.YtbielnehggcaoaaDoor

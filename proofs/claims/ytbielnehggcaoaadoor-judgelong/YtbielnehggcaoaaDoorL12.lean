/-
  newSearch by contract. (By the verifier; no statement.)
-/
import Derived.Test.YtbielnehggcaoaaDoorL11
import Derived.Laws.Tables
import Derived.Test.YtbielnehggcaoaaDoorL07
namespace Go.Proofs.YtbielnehggcaoaaDoor
open Go.RowKit
/-- A new search's cells. -/
def srZ : Array Value := #[.slice none 0 0, .int .u64 0] ++ Array.replicate 320 (.int .u64 0) ++ #[.map none]
set_option maxRecDepth 100000 in
theorem z_eq : Tryd.zeroCells106 = srZ := by kernel_rfl
/-- The search's block, by its sets. -/
structure SB (w : World) (sb tb : Nat) (ad : Option Addr) (n cap : Nat) (E : Nat) (A O : Nat → Nat) : Prop where
  ex : ∃ cs : Array Value, w.heap[sb]? = some (.cells cs 106 (0, 0)) ∧ cs.size = 323 ∧ cs[0]? = some (.slice ad n cap) ∧ cs[1]? = some (.int .u64 (E : Int)) ∧ (∀ i, i < 64 → cs[2 + i]? = some (.int .u64 (A i : Int))) ∧ (∀ c, c < 256 → cs[66 + c]? = some (.int .u64 (O c : Int))) ∧ cs[322]? = some (.map (some tb))
theorem SB.keep {w w' : World} {sb tb n cap E : Nat} {ad : Option Addr} {A O : Nat → Nat} (h : SB w sb tb ad n cap E A O) {l : List Nat} (ht : Turned l w w') (hn : sb ∉ l) : SB w' sb tb ad n cap E A O := by
  obtain ⟨cs, h0, h1⟩ := h.ex
  exact ⟨cs, ht.heap h0 hn, h1⟩
theorem set_at {cs : Array Value} {i j : Nat} {v : Value} (hj : i < cs.size) : (cs.setIfInBounds i v)[j]? = if i = j then some v else cs[j]? := by
  rw [Array.getElem?_setIfInBounds]
  simp [hj]
theorem z_size : srZ.size = 323 := by simp [srZ]
theorem z_at (i : Nat) (h1 : 1 ≤ i) (h2 : i < 322) : srZ[i]? = some (.int .u64 ((0 : Nat) : Int)) := by
  unfold srZ
  rw [Array.getElem?_append_left (by simp; omega)]
  by_cases e : i < 2
  · have : i = 1 := by omega
    subst this
    rw [Array.getElem?_append_left (by simp)]
    rfl
  · rw [Array.getElem?_append_right (by simp; omega), Array.getElem?_replicate, if_pos (by simp; omega)]
    rfl
theorem SB.new (w : World) (ad : Option Addr) (n cap tb : Nat) : SB (w.alloc (.cells ((Tryd.zeroCells106.setIfInBounds 0 (.slice ad n cap)).setIfInBounds 322 (.map (some tb))) 106 (0, 0))) w.heap.size tb ad n cap 0 (fun _ => 0) (fun _ => 0) := by
  rw [z_eq]
  have h0 := z_size
  have h1 : (srZ.setIfInBounds 0 (.slice ad n cap)).size = 323 := by simp [h0]
  have g : ∀ i, 1 ≤ i → i < 322 → ((srZ.setIfInBounds 0 (.slice ad n cap)).setIfInBounds 322 (.map (some tb)))[i]? = some (.int .u64 ((0 : Nat) : Int)) := fun i a b => by
    rw [set_at (by omega), if_neg (by omega), set_at (by omega), if_neg (by omega)]
    exact z_at i a b
  refine ⟨_, blk_new w _, by simp [h0], ?_, g 1 (by omega) (by omega), fun i hi => g (2 + i) (by omega) (by omega), fun c hc => g (66 + c) (by omega) (by omega), ?_⟩
  · rw [set_at (by omega), if_neg (by omega), set_at (by omega), if_pos rfl]
  · rw [set_at (by omega), if_pos rfl]
def updN (f : Nat → Nat) (i x : Nat) : Nat → Nat := fun j => if j = i then x else f j
theorem SB.setO {w w' : World} {sb tb n cap E : Nat} {ad : Option Addr} {A O : Nat → Nat} {c x : Nat} {cs : Array Value} (h : w.heap[sb]? = some (.cells cs 106 (0, 0))) (hs : SB w sb tb ad n cap E A O) (hc : c < 256) (h' : w'.heap[sb]? = some (.cells (cs.setIfInBounds (66 + c) (.int .u64 (x : Int))) 106 (0, 0))) : SB w' sb tb ad n cap E A (updN O c x) := by
  obtain ⟨cs', h0, h1, h2, h3, h4, h5, h6⟩ := hs.ex
  rw [h] at h0
  cases h0
  refine ⟨_, h', by simpa using h1, ?_, ?_, fun i hi => ?_, fun j hj => ?_, ?_⟩
  · rw [set_at (by omega), if_neg (by omega)]; exact h2
  · rw [set_at (by omega), if_neg (by omega)]; exact h3
  · rw [set_at (by omega), if_neg (by omega)]; exact h4 i hi
  · rw [set_at (by omega)]
    unfold updN
    by_cases e : j = c
    · rw [if_pos (by omega), if_pos e]
    · rw [if_neg (by omega), if_neg e]; exact h5 j hj
  · rw [set_at (by omega), if_neg (by omega)]; exact h6
theorem SB.setA {w w' : World} {sb tb n cap E : Nat} {ad : Option Addr} {A O : Nat → Nat} {c x : Nat} {cs : Array Value} (h : w.heap[sb]? = some (.cells cs 106 (0, 0))) (hs : SB w sb tb ad n cap E A O) (hc : c < 64) (h' : w'.heap[sb]? = some (.cells (cs.setIfInBounds (2 + c) (.int .u64 (x : Int))) 106 (0, 0))) : SB w' sb tb ad n cap E (updN A c x) O := by
  obtain ⟨cs', h0, h1, h2, h3, h4, h5, h6⟩ := hs.ex
  rw [h] at h0
  cases h0
  refine ⟨_, h', by simpa using h1, ?_, ?_, fun j hj => ?_, fun i hi => ?_, ?_⟩
  · rw [set_at (by omega), if_neg (by omega)]; exact h2
  · rw [set_at (by omega), if_neg (by omega)]; exact h3
  · rw [set_at (by omega)]
    unfold updN
    by_cases e : j = c
    · rw [if_pos (by omega), if_pos e]
    · rw [if_neg (by omega), if_neg e]; exact h4 j hj
  · rw [set_at (by omega), if_neg (by omega)]; exact h5 i hi
  · rw [set_at (by omega), if_neg (by omega)]; exact h6
theorem SB.setE {w w' : World} {sb tb n cap E : Nat} {ad : Option Addr} {A O : Nat → Nat} {x : Nat} {cs : Array Value} (h : w.heap[sb]? = some (.cells cs 106 (0, 0))) (hs : SB w sb tb ad n cap E A O) (h' : w'.heap[sb]? = some (.cells (cs.setIfInBounds 1 (.int .u64 (x : Int))) 106 (0, 0))) : SB w' sb tb ad n cap x A O := by
  obtain ⟨cs', h0, h1, h2, h3, h4, h5, h6⟩ := hs.ex
  rw [h] at h0
  cases h0
  refine ⟨_, h', by simpa using h1, ?_, ?_, fun j hj => ?_, fun i hi => ?_, ?_⟩
  · rw [set_at (by omega), if_neg (by omega)]; exact h2
  · rw [set_at (by omega), if_pos rfl]
  · rw [set_at (by omega), if_neg (by omega)]; exact h4 j hj
  · rw [set_at (by omega), if_neg (by omega)]; exact h5 i hi
  · rw [set_at (by omega), if_neg (by omega)]; exact h6
theorem bit_or {m i j : Nat} : (m ||| 2 ^ i).testBit j = (m.testBit j || decide (j = i)) := by
  rw [Nat.testBit_or, Nat.testBit_two_pow]
  congr 1
  exact decide_eq_decide.2 ⟨Eq.symm, Eq.symm⟩
/-- How far the sets have come. -/
structure PE (D : List Dd) (p E : Nat) : Prop where
  lt : E < 18446744073709551616
  e : ∀ j, E.testBit j = (decide (j < p) && decide ((dAt D j).e ≠ 0))
structure PO (D : List Dd) (p : Nat) (O : Nat → Nat) : Prop where
  lt : ∀ c, O c < 18446744073709551616
  o : ∀ c, c < 256 → ∀ j, (O c).testBit j = (decide (j < p) && decide ((dAt D j).a = (c : Int)))
structure PAs (D : List Dd) (i l : Nat) (A : Nat → Nat) : Prop where
  lt : ∀ r, A r < 18446744073709551616
  a : ∀ r, r < i → ∀ j, (A r).testBit j = (decide (j < D.length) && wasA (dAt D j).e (dAt D r).b)
  ai : ∀ j, (A i).testBit j = (decide (j < l) && wasA (dAt D j).e (dAt D i).b)
  az : ∀ r, i < r → A r = 0
section
variable {D : List Dd} {i l E : Nat} {A O : Nat → Nat}
theorem lt_one (i j : Nat) : decide (j < i + 1) = (decide (j < i) || decide (j = i)) := by
  by_cases h : j < i
  · simp [h, Nat.lt_succ_of_lt h]
  · by_cases e : j = i
    · simp [e]
    · have : ¬ j < i + 1 := by omega
      simp [h, e, this]
theorem PE.zero : PE D 0 0 := ⟨by decide, fun j => by simp⟩
theorem PO.zero : PO D 0 (fun _ => 0) := ⟨fun _ => by decide, fun c _ j => by simp⟩
theorem PAs.zero : PAs D 0 0 (fun _ => 0) := ⟨fun _ => by decide, fun r hr => absurd hr (Nat.not_lt_zero _), fun j => by simp, fun _ _ => rfl⟩
theorem PE.yes (h : PE D i E) (hi : i < 64) (he : (dAt D i).e ≠ 0) : PE D (i + 1) (E ||| 2 ^ i) := ⟨with_lt h.lt hi, fun j => by
  rw [bit_or, h.e, lt_one]
  by_cases e : j = i
  · subst e; simp [he]
  · simp [e]⟩
theorem PE.not (h : PE D i E) (he : (dAt D i).e = 0) : PE D (i + 1) E := ⟨h.lt, fun j => by
  rw [h.e, lt_one]
  by_cases e : j = i
  · subst e; simp [he]
  · simp [e]⟩
theorem PO.next (h : PO D i O) (hi : i < 64) {ce : Nat} (ha : (dAt D i).a = (ce : Int)) : PO D (i + 1) (updN O ce (O ce ||| 2 ^ i)) := ⟨fun c => by
  unfold updN
  by_cases e : c = ce
  · rw [if_pos e]; exact with_lt (h.lt ce) hi
  · rw [if_neg e]; exact h.lt c, fun c hc j => by
  unfold updN
  by_cases e : c = ce
  · subst e
    rw [if_pos rfl, bit_or, h.o c hc, lt_one]
    by_cases e2 : j = i
    · subst e2; simp [ha]
    · simp [e2]
  · rw [if_neg e, h.o c hc, lt_one]
    by_cases e2 : j = i
    · subst e2
      have : ¬ (dAt D j).a = (c : Int) := by omega
      simp [this]
    · simp [e2]⟩
theorem PAs.yes (h : PAs D i l A) (hl : l < 64) (hw : wasA (dAt D l).e (dAt D i).b = true) : PAs D i (l + 1) (updN A i (A i ||| 2 ^ l)) := ⟨fun r => by
  unfold updN
  by_cases e : r = i
  · rw [if_pos e]; exact with_lt (h.lt i) hl
  · rw [if_neg e]; exact h.lt r, fun r hr j => by
  unfold updN
  rw [if_neg (by omega)]; exact h.a r hr j, fun j => by
  unfold updN
  rw [if_pos rfl, bit_or, h.ai, lt_one]
  by_cases e : j = l
  · subst e; simp [hw]
  · simp [e], fun r hr => by
  unfold updN
  rw [if_neg (by omega)]; exact h.az r hr⟩
theorem PAs.not (h : PAs D i l A) (hw : wasA (dAt D l).e (dAt D i).b = false) : PAs D i (l + 1) A := ⟨h.lt, h.a, fun j => by
  rw [h.ai, lt_one]
  by_cases e : j = l
  · subst e; simp [hw]
  · simp [e], h.az⟩
theorem PAs.done (h : PAs D i D.length A) : PAs D (i + 1) 0 A := ⟨h.lt, fun r hr j => by
  by_cases e : r = i
  · subst e; exact h.ai j
  · exact h.a r (by omega) j, fun j => by rw [h.az (i + 1) (Nat.lt_succ_self i)]; simp, fun r hr => h.az r (by omega)⟩
theorem Masks.of (hl : D.length ≤ 64) (hk : ∀ i, i < D.length → 1 ≤ (dAt D i).k ∧ (dAt D i).k ≤ 7) (h1 : PE D D.length E) (h2 : PO D D.length O) (h3 : PAs D D.length 0 A) : Masks D E A O :=
  ⟨hl, hk, h1.lt, h3.lt, h2.lt, h1.e, h3.a, h2.o⟩
end
end Go.Proofs.YtbielnehggcaoaaDoor
/- A frame, spelled out. -/
namespace Go.Proofs.YtbielnehggcaoaaDoor
open Go.RowKit
def lit74 (c : Nat → Value) : Array Value := #[c 0, c 1, c 2, c 3, c 4, c 5, c 6, c 7, c 8, c 9, c 10, c 11, c 12, c 13, c 14, c 15, c 16, c 17, c 18, c 19, c 20, c 21, c 22, c 23, c 24, c 25, c 26, c 27, c 28, c 29, c 30, c 31, c 32, c 33, c 34, c 35, c 36, c 37, c 38, c 39, c 40, c 41, c 42, c 43, c 44, c 45, c 46, c 47, c 48, c 49, c 50, c 51, c 52, c 53, c 54, c 55, c 56, c 57, c 58, c 59, c 60, c 61, c 62, c 63, c 64, c 65, c 66, c 67, c 68, c 69, c 70, c 71, c 72, c 73]
set_option maxRecDepth 100000 in
theorem lit74_eq (c : Nat → Value) : lit74 c = ((List.range 74).map c).toArray := by rfl
theorem expand74 {a : Act} (hs : a.tmps.size = 74) (hd : a.defers = []) : ∃ c : Nat → Value, a = ⟨lit74 c, []⟩ ∧ ∀ s, c s = a.eval (.tmp s) := by
  refine ⟨fun s => a.tmps.getD s undef, ?_, fun s => rfl⟩
  obtain ⟨t, d⟩ := a
  simp only at hs hd
  subst hd
  congr 1
  rw [lit74_eq]
  refine Array.ext (by simp [hs]) fun i h1 h2 => ?_
  simp [Array.getD, h1]
theorem expand74d {a : Act} {ds : List Deferred} (hs : a.tmps.size = 74) (hd : a.defers = ds) : ∃ c : Nat → Value, a = ⟨lit74 c, ds⟩ ∧ ∀ s, c s = a.eval (.tmp s) := by
  refine ⟨fun s => a.tmps.getD s undef, ?_, fun s => rfl⟩
  obtain ⟨t, d⟩ := a
  simp only at hs hd
  subst hd
  congr 1
  rw [lit74_eq]
  refine Array.ext (by simp [hs]) fun i h1 h2 => ?_
  simp [Array.getD, h1]
end Go.Proofs.YtbielnehggcaoaaDoor
/-
  newSearch by contract, its walk. (By the verifier; no statement.)
-/
namespace Go.Proofs.YtbielnehggcaoaaDoor
open Go.RowKit
theorem wp_expand74 {P : Program} {c : Code} {Q : Exit → Act → World → Prop} {a : Act} {w : World} (h : ∀ cc : Nat → Value, (∀ s, cc s = a.eval (.tmp s)) → c.wp P Q ⟨lit74 cc, []⟩ w) (hs : a.tmps.size = 74) (hd : a.defers = []) : c.wp P Q a w := by
  obtain ⟨cc, hcc, hce⟩ := expand74 hs hd
  rw [hcc]
  exact h cc hce
structure II (D : List Dd) (ad : Option Addr) (cap sb tb g5 : Nat) (d : Dd) (ce k E : Nat) (O : Nat → Nat) (w0 : World) (l : Nat) (x : World) : Prop where
  ex : ∃ A, SB x sb tb ad D.length cap E A O ∧ KM x tb [] ∧ PAs D k l A ∧ Turned [sb] w0 x ∧ x.heap[g5]? = some (.cells #[.int .i64 d.b, .int .i64 d.e, .int .i64 d.k, .int .i64 (ce : Int), .int .i64 d.x, .int .i64 d.c, .int .i64 d.n, .bool d.ok] 27 (0, 0))
theorem wp_thenN {c : Code} {P : Program} {Q : Exit → Act → World → Prop} {a : Act} {w : World} (h : c.wp P (Exit.then (Q .normal) Q) a w) : c.wp P Q a w := by
  have e : Exit.then (Q .normal) Q = Q := by
    funext e a w
    cases e <;> rfl
  rwa [e] at h
/-- What newSearch leaves. -/
structure NewP (D : List Dd) (ad : Option Addr) (cap : Nat) (w w' : World) : Prop where
  ex : ∃ E A O, SB w' (w.heap.size + 1) w.heap.size ad D.length cap E A O ∧ KM w' w.heap.size [] ∧ Masks D E A O ∧ Turned [] w w'
structure NI (D : List Dd) (ad : Option Addr) (cap sb tb : Nat) (w0 : World) (i : Nat) (x : World) : Prop where
  ex : ∃ E A O, SB x sb tb ad D.length cap E A O ∧ KM x tb [] ∧ PE D i E ∧ PO D i O ∧ PAs D i 0 A ∧ Turned [sb] w0 x
set_option maxHeartbeats 1600000 in
theorem cNewS {D : List Dd} {ad : Option Addr} {cap : Nat} {w : World} (hD : DsAt w ad D) (hl : D.length ≤ 64) (hk : ∀ i, i < D.length → 1 ≤ (dAt D i).k ∧ (dAt D i).k ≤ 7 ∧ 0 ≤ (dAt D i).a ∧ (dAt D i).a < 256) :
    Calls Tryd.prog 30 #[.slice ad D.length cap] w fun r w' => r = .returned (.pointer (some ⟨w.heap.size + 1, 0, none⟩)) ∧ NewP D ad cap w w' := by
  obtain ⟨n, hn⟩ : ∃ n, n = D.length := ⟨_, rfl⟩
  have HN : Hid (n = D.length) := hn
  have HD : Hid (DsAt w ad D) := hD
  have HKd : Hid (∀ i, i < D.length → 1 ≤ (dAt D i).k ∧ (dAt D i).k ≤ 7 ∧ 0 ≤ (dAt D i).a ∧ (dAt D i).a < 256) := hk
  rw [← hn] at hl ⊢
  clear hn hD hk
  have hMk : ∀ x : World, (Instr.makeMap 100 none).run Tryd.prog x = .ok (.map (some x.heap.size)) (x.alloc (.map #[] 0)) := fun x => by
    unfold Instr.makeMap
    simp [Result.andThen]
  go_enter Tryd.func30, Tryd.ntmps30
  go_wp2
  have HW : Hid (NI D ad cap (w.heap.size + 1) w.heap.size w 0 ((w.alloc (.map #[] 0)).alloc (.cells ((Tryd.zeroCells106.setIfInBounds 0 (.slice ad n cap)).setIfInBounds 322 (.map (some w.heap.size))) 106 (0, 0)))) := by
    have hnn := HN.out
    clear HN
    subst hnn
    refine ⟨0, fun _ => 0, fun _ => 0, ?_, ?_, PE.zero, PO.zero, PAs.zero, ((Turned.refl _ w).alloc _).alloc _⟩
    · have h := SB.new (w.alloc (.map #[] 0)) ad D.length cap w.heap.size
      have e : (w.alloc (.map #[] 0)).heap.size = w.heap.size + 1 := by show (w.heap.push _).size = _; simp
      rw [e] at h
      exact h
    · exact ⟨⟨#[], 0, ((Turned.refl [] _).alloc _).heap (blk_new w _) (by simp), rfl⟩, fun k hk => by cases hk⟩
  clear hMk
  generalize (w.alloc (.map #[] 0)).alloc (.cells ((Tryd.zeroCells106.setIfInBounds 0 (.slice ad n cap)).setIfInBounds 322 (.map (some w.heap.size))) 106 (0, 0)) = W at *
  obtain ⟨sb, hsb⟩ : ∃ sb, sb = w.heap.size + 1 := ⟨_, rfl⟩
  obtain ⟨tb, htb⟩ : ∃ tb, tb = w.heap.size := ⟨_, rfl⟩
  have HSB : Hid (sb = w.heap.size + 1 ∧ tb = w.heap.size) := ⟨hsb, htb⟩
  rw [← hsb] at HW ⊢
  rw [← htb] at HW
  clear hsb htb
  generalize Value.agg ((Tryd.zeroCells106.setIfInBounds 0 (.slice ad n cap)).setIfInBounds 322 (.map (some w.heap.size))) = v10
  generalize Value.map (some w.heap.size) = v9
  go_loopw [14] (fun i wx => ∃ k : Nat, k ≤ n ∧ i = .int .i64 k ∧ Hid (NI D ad cap sb tb w k wx)) (fun i _ => n - (intOf i).toNat)
  case atStart => exact ⟨0, Nat.zero_le _, rfl, HW⟩
  case round =>
    obtain ⟨k, hk, rfl, HI⟩ := hrel
    by_cases hlt : k < n
    · obtain ⟨E, A, O, hSB, hKM, hPE, hPO, hPA, hTu⟩ := HI.out.ex
      have HD2 : DsAt wr ad D := HD.out.keep hTu (fun b o e => by
        have := HSB.out.1
        intro hm
        have hb : b = sb := by simpa using hm
        obtain ⟨b', o', e', hb', -⟩ := HD.out.all 0 (dAt D 0) (by unfold dAt; rw [List.getD_eq_getElem?_getD, List.getElem?_eq_getElem (by rw [← HN.out]; omega)]; rfl)
        rw [e] at e'
        cases e'
        omega)
      obtain ⟨d, hd⟩ : ∃ d, D[k]? = some d := ⟨_, List.getElem?_eq_getElem (by rw [← HN.out]; exact hlt)⟩
      have hdA : dAt D k = d := by unfold dAt; rw [List.getD_eq_getElem?_getD, hd]; rfl
      obtain ⟨b, o, rfl, hb, h0, h1, h2, h3, h4, h5, h6, h7⟩ := HD2.all k d hd
      have HBS : Hid (b ∉ [sb]) := by
        obtain ⟨b', o', e', hb', -⟩ := HD.out.all k d hd
        cases e'
        have q := HSB.out.1
        rw [Hid, List.mem_singleton]
        omega
      have HX : Hid (SB wr sb tb (some ⟨b, o, none⟩) D.length cap E A O ∧ KM wr tb [] ∧ PE D k E ∧ PO D k O ∧ PAs D k 0 A ∧ Turned [sb] w wr ∧ dAt D k = d) := ⟨hSB, hKM, hPE, hPO, hPA, hTu, hdA⟩
      clear hSB hKM hPE hPO hPA hTu hdA HD2 hd HI HW
      obtain ⟨h8, h9, h10, h11⟩ := HKd.out k (by rw [← HN.out]; exact hlt)
      obtain ⟨ce, hce⟩ : ∃ ce : Nat, d.a = (ce : Int) := ⟨d.a.toNat, by rw [HX.out.2.2.2.2.2.2] at h10; omega⟩
      have hce2 : ce < 256 := by rw [HX.out.2.2.2.2.2.2, hce] at h11; omega
      have PW : Hid (∀ (old : Nat), old < 18446744073709551616 → ∀ x, Calls Tryd.prog 45 #[.int .u64 (old : Int), .int .i64 (k : Int)] x fun r w' => r = .returned (.int .u64 ((old ||| 2 ^ k : Nat) : Int)) ∧ Turned [] x w') := fun old ho x => (cWith ho (by omega) x).mono fun r w' h => ⟨h.1, by rw [h.2]; exact Turned.refl [] x⟩
      rw [hce] at h3
      clear h8 h9 h10 h11
      go_wp2
      obtain ⟨cs, hcs, hc1, hc2, hc3, hc4, hc5, hc6⟩ := HX.out.1.ex
      have T5 := (Turned.refl [] wr).alloc (.cells #[.int .i64 d.b, .int .i64 d.e, .int .i64 d.k, .int .i64 (ce : Int), .int .i64 d.x, .int .i64 d.c, .int .i64 d.n, .bool d.ok] 27 (0, 0))
      have B5 := blk_new wr (.cells #[.int .i64 d.b, .int .i64 d.e, .int .i64 d.k, .int .i64 (ce : Int), .int .i64 d.x, .int .i64 d.c, .int .i64 d.n, .bool d.ok] 27 (0, 0))
      have hlts := lt_of_heap hcs
      refine new_r5 (sb := sb) (g5 := wr.heap.size) (ce := ce) (ix := k) (old := O ce) (cs := cs) rfl rfl rfl rfl (cell_at B5 3) (by omega) (hc5 ce hce2) (by omega) (T5.heap hcs (by simp)) (PW.out (O ce) (HX.out.2.2.2.1.lt ce)) ?_
      intro a1 y hsz hdf hoff ht hb
      rename_i K hK'
      refine hK' _ _ ?_
      clear hK' K
      have f0 : a1.eval (.tmp 0) = .slice (some ⟨b, o, none⟩) n cap := hoff 0 (by decide)
      have f1 : a1.eval (.tmp 1) = undef := hoff 1 (by decide)
      have f2 : a1.eval (.tmp 2) = .pointer none := hoff 2 (by decide)
      have f3 : a1.eval (.tmp 3) = .pointer (some ⟨sb, 0, none⟩) := hoff 3 (by decide)
      have f4 : a1.eval (.tmp 4) = .int .i64 (k : Int) := hoff 4 (by decide)
      have f5 : a1.eval (.tmp 5) = .pointer (some ⟨wr.heap.size, 0, none⟩) := hoff 5 (by decide)
      have f8 : a1.eval (.tmp 8) = .slice (some ⟨b, o, none⟩) n cap := hoff 8 (by decide)
      have f9 : a1.eval (.tmp 9) = v9 := hoff 9 (by decide)
      have f10 : a1.eval (.tmp 10) = v10 := hoff 10 (by decide)
      have f11 : a1.eval (.tmp 11) = .pointer (some ⟨sb, 0, none⟩) := hoff 11 (by decide)
      have f12 : a1.eval (.tmp 12) = .slice (some ⟨b, o, none⟩) n cap := hoff 12 (by decide)
      have f13 : a1.eval (.tmp 13) = .int .i64 (n : Int) := hoff 13 (by decide)
      have f14 : a1.eval (.tmp 14) = .int .i64 (k : Int) := hoff 14 (by decide)
      have f73 : a1.eval (.tmp 73) = undef := hoff 73 (by decide)
      have hsz2 : a1.tmps.size = 74 := hsz
      have hdf2 : a1.defers = [] := hdf
      have S5 := HX.out.1.keep T5 (by simp)
      have S6 : Hid (SB y sb tb (some ⟨b, o, none⟩) D.length cap E A (updN O ce (O ce ||| 2 ^ k))) := SB.setO (T5.heap hcs (by simp)) S5 hce2 hb
      have B6 : Hid (y.heap[wr.heap.size]? = some (.cells #[.int .i64 d.b, .int .i64 d.e, .int .i64 d.k, .int .i64 (ce : Int), .int .i64 d.x, .int .i64 d.c, .int .i64 d.n, .bool d.ok] 27 (0, 0))) := ht.heap B5 (by simp; omega)
      have T6 : Hid (Turned [sb] wr y) := (T5.mono (by simp)).trans ht
      have HTS : Hid (tb ∉ [sb] ∧ wr.heap.size ∉ [sb]) := by
        have q := HSB.out
        exact ⟨by simp; omega, by simp; omega⟩
      clear hsz hdf hoff hb hcs hc1 hc2 hc3 hc4 hc5 hc6 T5 B5 S5 ht h0 h1 h2 h3 h4 h5 h6 h7
      generalize wr.heap.size = g5 at *
      obtain ⟨dd, hdd, hde⟩ := expand74 hsz2 hdf2
      have p0 := (hde 0).trans f0
      have p1 := (hde 1).trans f1
      have p2 := (hde 2).trans f2
      have p3 := (hde 3).trans f3
      have p4 := (hde 4).trans f4
      have p5 := (hde 5).trans f5
      have p8 := (hde 8).trans f8
      have p9 := (hde 9).trans f9
      have p10 := (hde 10).trans f10
      have p11 := (hde 11).trans f11
      have p12 := (hde 12).trans f12
      have p13 := (hde 13).trans f13
      have p14 := (hde 14).trans f14
      have p73 := (hde 73).trans f73
      clear hde f0 f1 f2 f3 f4 f5 f8 f9 f10 f11 f12 f13 f14 f73 hsz2 hdf2
      subst hdd
      simp only [lit74, p0, p1, p2, p3, p4, p5, p8, p9, p10, p11, p12, p13, p14, p73]
      conv => arg 2; whnf
      have hq1 := cell_at B6.out 1
      have hq0 := cell_at B6.out 0
      have hg5 := lt_of_heap B6.out
      by_cases hez : d.e = 0
      · have hez2 : (d.e != 0) = false := by simpa using hez
        go_wp2
        refine wp_expand74 (fun ee hee => ?_) rfl rfl
        have r0 : ee 0 = .slice (some ⟨b, o, none⟩) n cap := hee 0
        have r1 : ee 1 = undef := hee 1
        have r2 : ee 2 = .pointer none := hee 2
        have r3 : ee 3 = .pointer (some ⟨sb, 0, none⟩) := hee 3
        have r4 : ee 4 = .int .i64 (k : Int) := hee 4
        have r5 : ee 5 = .pointer (some ⟨g5, 0, none⟩) := hee 5
        have r8 : ee 8 = .slice (some ⟨b, o, none⟩) n cap := hee 8
        have r9 : ee 9 = v9 := hee 9
        have r10 : ee 10 = v10 := hee 10
        have r11 : ee 11 = .pointer (some ⟨sb, 0, none⟩) := hee 11
        have r12 : ee 12 = .slice (some ⟨b, o, none⟩) n cap := hee 12
        have r13 : ee 13 = .int .i64 (n : Int) := hee 13
        have r14 : ee 14 = .int .i64 (k : Int) := hee 14
        have r46 : ee 46 = .slice (some ⟨b, o, none⟩) n cap := hee 46
        have r47 : ee 47 = .int .i64 (n : Int) := hee 47
        have r73 : ee 73 = undef := hee 73
        have r48 : ee 48 = .int .i64 0 := hee 48
        clear hee
        simp only [lit74, r0, r1, r2, r3, r4, r5, r8, r9, r10, r11, r12, r13, r14, r46, r47, r73, r48]
        conv => arg 2; whnf
        clear r0 r1 r2 r3 r4 r5 r8 r9 r10 r11 r12 r13 r14 r46 r47 r73 r48
        have HII : Hid (II D (some ⟨b, o, none⟩) cap sb tb g5 d ce k E (updN O ce (O ce ||| 2 ^ k)) wr 0 y) := ⟨A, S6.out, HX.out.2.1.keep T6.out HTS.out.1, HX.out.2.2.2.2.1, T6.out, B6.out⟩
        have HPE : Hid (PE D (k + 1) E) := HX.out.2.2.1.not (by rw [HX.out.2.2.2.2.2.2]; exact hez)
        generalize E = E2 at *
        obtain ⟨w1, rfl⟩ : ∃ w1, w1 = wr := ⟨wr, rfl⟩
        have HPO : Hid (PO D (k + 1) (updN O ce (O ce ||| 2 ^ k))) := HX.out.2.2.2.1.next (by omega) (by rw [HX.out.2.2.2.2.2.2]; exact hce)
        generalize updN O ce (O ce ||| 2 ^ k) = O2 at *
        go_loopw [48] (fun j wx => ∃ l : Nat, l ≤ n ∧ j = .int .i64 l ∧ Hid (II D (some ⟨b, o, none⟩) cap sb tb g5 d ce k E2 O2 w1 l wx)) (fun j _ => n - (intOf j).toNat)
        case atStart => exact ⟨0, Nat.zero_le _, rfl, HII⟩
        case round =>
          obtain ⟨l, hl2, rfl, HIl⟩ := hrel
          clear HII
          by_cases hl3 : l < n
          · obtain ⟨A2, i1, i2, i3, i4, i5⟩ := HIl.out.ex
            obtain ⟨d2, hd2⟩ : ∃ d2, D[l]? = some d2 := ⟨_, List.getElem?_eq_getElem (by rw [← HN.out]; exact hl3)⟩
            have hdA2 : dAt D l = d2 := by unfold dAt; rw [List.getD_eq_getElem?_getD, hd2]; rfl
            obtain ⟨b', o', e', hb', h0, h1, h2, h3, h4, h5, h6, h7⟩ := (HD.out.keep (HX.out.2.2.2.2.2.1.trans i4) (fun b' o' e' => by cases e'; exact HBS.out)).all l d2 hd2
            cases e'
            have hq0' := cell_at i5 0
            have hg5' := lt_of_heap i5
            have HY : Hid (SB wr sb tb (some ⟨b, o, none⟩) D.length cap E2 A2 O2 ∧ KM wr tb [] ∧ PAs D k l A2 ∧ Turned [sb] w1 wr ∧ wr.heap[g5]? = some (.cells #[.int .i64 d.b, .int .i64 d.e, .int .i64 d.k, .int .i64 (ce : Int), .int .i64 d.x, .int .i64 d.c, .int .i64 d.n, .bool d.ok] 27 (0, 0)) ∧ dAt D l = d2) := ⟨i1, i2, i3, i4, i5, hdA2⟩
            have PWA := fun e b w => cWasA e b w
            clear i1 i2 i3 i4 i5 hdA2 hd2 HIl
            cases hw : wasA d2.e d.b with
            | false =>
              have HNx : Hid (∀ x, Turned [] wr x → II D (some ⟨b, o, none⟩) cap sb tb g5 d ce k E2 O2 w1 (l + 1) x) := fun x hx => ⟨A2, HY.out.1.keep hx (by simp), HY.out.2.1.keep hx (by simp), HY.out.2.2.1.not (by rw [HY.out.2.2.2.2.2, HX.out.2.2.2.2.2.2]; exact hw), HY.out.2.2.2.1.inner hx (by simp), hx.heap HY.out.2.2.2.2.1 (by simp)⟩
              go_wp2_with (go_at_call 46; refine (PWA _ _ _).mono ?_; rintro r xz ⟨rfl, ez⟩; rw [ez]; clear ez xz)
              go_roundw
              case rel => exact ⟨l + 1, by omega, by go_num, HNx.out _ ((Turned.refl [] wr).alloc _)⟩
              case measure => simp [intOf]; omega
            | true =>
              have PW2 : Hid (∀ (old : Nat), old < 18446744073709551616 → ∀ x, Calls Tryd.prog 45 #[.int .u64 (old : Int), .int .i64 (l : Int)] x fun r w' => r = .returned (.int .u64 ((old ||| 2 ^ l : Nat) : Int)) ∧ Turned [] x w') := fun old ho x => (cWith ho (by omega) x).mono fun r w' h => ⟨h.1, by rw [h.2]; exact Turned.refl [] x⟩
              have HW2 : Hid (wasA d2.e d.b = true) := hw
              go_wp2_with (go_at_call 46; refine (PWA _ _ _).mono ?_; rintro r xz ⟨rfl, ez⟩; rw [ez]; clear ez xz)
              obtain ⟨cs, hcs, hc1, hc2, hc3, hc4, hc5, hc6⟩ := HY.out.1.ex
              have T7 := (Turned.refl [] wr).alloc (.cells #[.int .i64 d2.b, .int .i64 d2.e, .int .i64 d2.k, .int .i64 d2.a, .int .i64 d2.x, .int .i64 d2.c, .int .i64 d2.n, .bool d2.ok] 27 (0, 0))
              refine wp_thenN (new_r12 (sb := sb) (iy := k) (ix := l) (old := A2 k) (cs := cs) rfl rfl rfl rfl (by omega) (hc4 k (by omega)) (T7.heap hcs (by simp)) (PW2.out (A2 k) (HY.out.2.2.1.lt k)) ?_)
              intro a2 z hsz hdf hoff ht hb
              simp only [Exit.inBlock, Exit.then]
              rename_i K hK'
              refine hK' _ _ ?_
              clear hK' K
              have HNx : Hid (II D (some ⟨b, o, none⟩) cap sb tb g5 d ce k E2 O2 w1 (l + 1) z) := ⟨updN A2 k (A2 k ||| 2 ^ l), SB.setA (T7.heap hcs (by simp)) (HY.out.1.keep T7 (by simp)) (by omega) hb, (HY.out.2.1.keep T7 (by simp)).keep ht HTS.out.1, HY.out.2.2.1.yes (by omega) (by rw [HY.out.2.2.2.2.2, HX.out.2.2.2.2.2.2]; exact hw), (HY.out.2.2.2.1.inner T7 (by simp)).trans ht, ht.heap (T7.heap HY.out.2.2.2.2.1 (by simp)) HTS.out.2⟩
              have s0 : a2.eval (.tmp 0) = .slice (some ⟨b, o, none⟩) n cap := hoff 0 (by decide)
              have s1 : a2.eval (.tmp 1) = undef := hoff 1 (by decide)
              have s2 : a2.eval (.tmp 2) = .pointer none := hoff 2 (by decide)
              have s3 : a2.eval (.tmp 3) = .pointer (some ⟨sb, 0, none⟩) := hoff 3 (by decide)
              have s4 : a2.eval (.tmp 4) = .int .i64 (k : Int) := hoff 4 (by decide)
              have s5 : a2.eval (.tmp 5) = .pointer (some ⟨g5, 0, none⟩) := hoff 5 (by decide)
              have s8 : a2.eval (.tmp 8) = .slice (some ⟨b, o, none⟩) n cap := hoff 8 (by decide)
              have s9 : a2.eval (.tmp 9) = v9 := hoff 9 (by decide)
              have s10 : a2.eval (.tmp 10) = v10 := hoff 10 (by decide)
              have s11 : a2.eval (.tmp 11) = .pointer (some ⟨sb, 0, none⟩) := hoff 11 (by decide)
              have s12 : a2.eval (.tmp 12) = .slice (some ⟨b, o, none⟩) n cap := hoff 12 (by decide)
              have s13 : a2.eval (.tmp 13) = .int .i64 (n : Int) := hoff 13 (by decide)
              have s14 : a2.eval (.tmp 14) = .int .i64 (k : Int) := hoff 14 (by decide)
              have s15 : a2.eval (.tmp 15) = ee 15 := hoff 15 (by decide)
              have s16 : a2.eval (.tmp 16) = ee 16 := hoff 16 (by decide)
              have s17 : a2.eval (.tmp 17) = ee 17 := hoff 17 (by decide)
              have s18 : a2.eval (.tmp 18) = ee 18 := hoff 18 (by decide)
              have s19 : a2.eval (.tmp 19) = ee 19 := hoff 19 (by decide)
              have s20 : a2.eval (.tmp 20) = ee 20 := hoff 20 (by decide)
              have s21 : a2.eval (.tmp 21) = ee 21 := hoff 21 (by decide)
              have s22 : a2.eval (.tmp 22) = ee 22 := hoff 22 (by decide)
              have s23 : a2.eval (.tmp 23) = ee 23 := hoff 23 (by decide)
              have s24 : a2.eval (.tmp 24) = ee 24 := hoff 24 (by decide)
              have s25 : a2.eval (.tmp 25) = ee 25 := hoff 25 (by decide)
              have s26 : a2.eval (.tmp 26) = ee 26 := hoff 26 (by decide)
              have s27 : a2.eval (.tmp 27) = ee 27 := hoff 27 (by decide)
              have s28 : a2.eval (.tmp 28) = ee 28 := hoff 28 (by decide)
              have s29 : a2.eval (.tmp 29) = ee 29 := hoff 29 (by decide)
              have s30 : a2.eval (.tmp 30) = ee 30 := hoff 30 (by decide)
              have s31 : a2.eval (.tmp 31) = ee 31 := hoff 31 (by decide)
              have s32 : a2.eval (.tmp 32) = ee 32 := hoff 32 (by decide)
              have s33 : a2.eval (.tmp 33) = ee 33 := hoff 33 (by decide)
              have s34 : a2.eval (.tmp 34) = ee 34 := hoff 34 (by decide)
              have s35 : a2.eval (.tmp 35) = ee 35 := hoff 35 (by decide)
              have s36 : a2.eval (.tmp 36) = ee 36 := hoff 36 (by decide)
              have s37 : a2.eval (.tmp 37) = ee 37 := hoff 37 (by decide)
              have s38 : a2.eval (.tmp 38) = ee 38 := hoff 38 (by decide)
              have s39 : a2.eval (.tmp 39) = ee 39 := hoff 39 (by decide)
              have s40 : a2.eval (.tmp 40) = ee 40 := hoff 40 (by decide)
              have s41 : a2.eval (.tmp 41) = ee 41 := hoff 41 (by decide)
              have s42 : a2.eval (.tmp 42) = ee 42 := hoff 42 (by decide)
              have s43 : a2.eval (.tmp 43) = ee 43 := hoff 43 (by decide)
              have s44 : a2.eval (.tmp 44) = ee 44 := hoff 44 (by decide)
              have s45 : a2.eval (.tmp 45) = ee 45 := hoff 45 (by decide)
              have s46 : a2.eval (.tmp 46) = .slice (some ⟨b, o, none⟩) n cap := hoff 46 (by decide)
              have s47 : a2.eval (.tmp 47) = .int .i64 (n : Int) := hoff 47 (by decide)
              have s72 : a2.eval (.tmp 72) = ee 72 := hoff 72 (by decide)
              have s73 : a2.eval (.tmp 73) = undef := hoff 73 (by decide)
              have s48 : a2.eval (.tmp 48) = .int .i64 (l : Int) := hoff 48 (by decide)
              have hsz2 : a2.tmps.size = 74 := hsz
              have hdf2 : a2.defers = [] := hdf
              clear hsz hdf hoff hcs hc1 hc2 hc3 hc4 hc5 hc6 T7 ht hb
              obtain ⟨zz, hzy, hzz⟩ := expand74 hsz2 hdf2
              have t0 := (hzz 0).trans s0
              have t1 := (hzz 1).trans s1
              have t2 := (hzz 2).trans s2
              have t3 := (hzz 3).trans s3
              have t4 := (hzz 4).trans s4
              have t5 := (hzz 5).trans s5
              have t8 := (hzz 8).trans s8
              have t9 := (hzz 9).trans s9
              have t10 := (hzz 10).trans s10
              have t11 := (hzz 11).trans s11
              have t12 := (hzz 12).trans s12
              have t13 := (hzz 13).trans s13
              have t14 := (hzz 14).trans s14
              have t15 := (hzz 15).trans s15
              have t16 := (hzz 16).trans s16
              have t17 := (hzz 17).trans s17
              have t18 := (hzz 18).trans s18
              have t19 := (hzz 19).trans s19
              have t20 := (hzz 20).trans s20
              have t21 := (hzz 21).trans s21
              have t22 := (hzz 22).trans s22
              have t23 := (hzz 23).trans s23
              have t24 := (hzz 24).trans s24
              have t25 := (hzz 25).trans s25
              have t26 := (hzz 26).trans s26
              have t27 := (hzz 27).trans s27
              have t28 := (hzz 28).trans s28
              have t29 := (hzz 29).trans s29
              have t30 := (hzz 30).trans s30
              have t31 := (hzz 31).trans s31
              have t32 := (hzz 32).trans s32
              have t33 := (hzz 33).trans s33
              have t34 := (hzz 34).trans s34
              have t35 := (hzz 35).trans s35
              have t36 := (hzz 36).trans s36
              have t37 := (hzz 37).trans s37
              have t38 := (hzz 38).trans s38
              have t39 := (hzz 39).trans s39
              have t40 := (hzz 40).trans s40
              have t41 := (hzz 41).trans s41
              have t42 := (hzz 42).trans s42
              have t43 := (hzz 43).trans s43
              have t44 := (hzz 44).trans s44
              have t45 := (hzz 45).trans s45
              have t46 := (hzz 46).trans s46
              have t47 := (hzz 47).trans s47
              have t72 := (hzz 72).trans s72
              have t73 := (hzz 73).trans s73
              have t48 := (hzz 48).trans s48
              clear hzz hsz2 hdf2
              subst hzy
              simp only [lit74, t0, t1, t2, t3, t4, t5, t8, t9, t10, t11, t12, t13, t14, t15, t16, t17, t18, t19, t20, t21, t22, t23, t24, t25, t26, t27, t28, t29, t30, t31, t32, t33, t34, t35, t36, t37, t38, t39, t40, t41, t42, t43, t44, t45, t46, t47, t72, t73, t48]
              conv => arg 2; whnf
              go_wp2
              go_roundw
              case rel => exact ⟨l + 1, by omega, by go_num, HNx⟩
              case measure => simp [intOf]; omega
          · have e : l = n := by omega
            subst e
            have HNk : Hid (NI D (some ⟨b, o, none⟩) cap sb tb w (k + 1) wr) := by
              obtain ⟨A2, i1, i2, i3, i4, i5⟩ := HIl.out.ex
              refine ⟨E2, A2, O2, i1, i2, HPE.out, HPO.out, ?_, HX.out.2.2.2.2.2.1.trans i4⟩
              have := i3
              rw [HN.out] at this
              exact this.done
            clear HIl
            go_wp2
            go_roundw
            case rel => exact ⟨k + 1, by omega, by go_num, HNk⟩
            case measure => simp [intOf]; omega
      · have hez2 : (d.e != 0) = true := by simpa using hez
        obtain ⟨cs, hcs, hc1, hc2, hc3, hc4, hc5, hc6⟩ := S6.out.ex
        have hE1 : y.cell? ⟨sb, 1, none⟩ = some (.int .u64 (E : Int)) := (cell_at hcs 1).trans hc3
        have hzf := froz_at hcs 1
        have hsl := lt_of_heap hcs
        have PWE := PW.out E HX.out.2.2.1.lt
        have SE : Hid (SB (y.setCell ⟨sb, 1, none⟩ (.int .u64 ((E ||| 2 ^ k : Nat) : Int))) sb tb (some ⟨b, o, none⟩) D.length cap (E ||| 2 ^ k) A (updN O ce (O ce ||| 2 ^ k))) := SB.setE hcs S6.out (blk_set hcs 1 _)
        clear hcs hc1 hc2 hc3 hc4 hc5 hc6
        have PWX : ∀ x, Calls Tryd.prog 45 #[.int .u64 (E : Int), .int .i64 (k : Int)] x fun r w' => r = .returned (.int .u64 ((E ||| 2 ^ k : Nat) : Int)) ∧ w' = x := fun x => cWith HX.out.2.2.1.lt (by omega) x
        go_wp2_with (go_at_call 45; refine (PWX _).mono ?_; rintro r xz ⟨rfl, ez⟩; rw [ez]; clear ez xz)
        refine wp_expand74 (fun ee hee => ?_) rfl rfl
        have r0 : ee 0 = .slice (some ⟨b, o, none⟩) n cap := hee 0
        have r1 : ee 1 = undef := hee 1
        have r2 : ee 2 = .pointer none := hee 2
        have r3 : ee 3 = .pointer (some ⟨sb, 0, none⟩) := hee 3
        have r4 : ee 4 = .int .i64 (k : Int) := hee 4
        have r5 : ee 5 = .pointer (some ⟨g5, 0, none⟩) := hee 5
        have r8 : ee 8 = .slice (some ⟨b, o, none⟩) n cap := hee 8
        have r9 : ee 9 = v9 := hee 9
        have r10 : ee 10 = v10 := hee 10
        have r11 : ee 11 = .pointer (some ⟨sb, 0, none⟩) := hee 11
        have r12 : ee 12 = .slice (some ⟨b, o, none⟩) n cap := hee 12
        have r13 : ee 13 = .int .i64 (n : Int) := hee 13
        have r14 : ee 14 = .int .i64 (k : Int) := hee 14
        have r46 : ee 46 = .slice (some ⟨b, o, none⟩) n cap := hee 46
        have r47 : ee 47 = .int .i64 (n : Int) := hee 47
        have r73 : ee 73 = undef := hee 73
        have r48 : ee 48 = .int .i64 0 := hee 48
        clear hee
        simp only [lit74, r0, r1, r2, r3, r4, r5, r8, r9, r10, r11, r12, r13, r14, r46, r47, r73, r48]
        conv => arg 2; whnf
        clear r0 r1 r2 r3 r4 r5 r8 r9 r10 r11 r12 r13 r14 r46 r47 r73 r48
        have HII : Hid (II D (some ⟨b, o, none⟩) cap sb tb g5 d ce k (E ||| 2 ^ k) (updN O ce (O ce ||| 2 ^ k)) wr 0 (y.setCell ⟨sb, 1, none⟩ (.int .u64 ((E ||| 2 ^ k : Nat) : Int)))) := by
          have ts : Turned [sb] y (y.setCell ⟨sb, 1, none⟩ (.int .u64 ((E ||| 2 ^ k : Nat) : Int))) := (Turned.refl _ y).set (.inl (by simp)) 1 _
          exact ⟨A, SE.out, (HX.out.2.1.keep T6.out HTS.out.1).keep ts HTS.out.1, HX.out.2.2.2.2.1, T6.out.trans ts, ts.heap B6.out HTS.out.2⟩
        have HPE : Hid (PE D (k + 1) (E ||| 2 ^ k)) := HX.out.2.2.1.yes (by omega) (by rw [HX.out.2.2.2.2.2.2]; exact hez)
        generalize (E ||| 2 ^ k) = E2 at *
        generalize y.setCell ⟨sb, 1, none⟩ (.int .u64 ((E2 : Nat) : Int)) = y2 at *
        obtain ⟨w1, rfl⟩ : ∃ w1, w1 = wr := ⟨wr, rfl⟩
        have HPO : Hid (PO D (k + 1) (updN O ce (O ce ||| 2 ^ k))) := HX.out.2.2.2.1.next (by omega) (by rw [HX.out.2.2.2.2.2.2]; exact hce)
        generalize updN O ce (O ce ||| 2 ^ k) = O2 at *
        go_loopw [48] (fun j wx => ∃ l : Nat, l ≤ n ∧ j = .int .i64 l ∧ Hid (II D (some ⟨b, o, none⟩) cap sb tb g5 d ce k E2 O2 w1 l wx)) (fun j _ => n - (intOf j).toNat)
        case atStart => exact ⟨0, Nat.zero_le _, rfl, HII⟩
        case round =>
          obtain ⟨l, hl2, rfl, HIl⟩ := hrel
          clear HII
          by_cases hl3 : l < n
          · obtain ⟨A2, i1, i2, i3, i4, i5⟩ := HIl.out.ex
            obtain ⟨d2, hd2⟩ : ∃ d2, D[l]? = some d2 := ⟨_, List.getElem?_eq_getElem (by rw [← HN.out]; exact hl3)⟩
            have hdA2 : dAt D l = d2 := by unfold dAt; rw [List.getD_eq_getElem?_getD, hd2]; rfl
            obtain ⟨b', o', e', hb', h0, h1, h2, h3, h4, h5, h6, h7⟩ := (HD.out.keep (HX.out.2.2.2.2.2.1.trans i4) (fun b' o' e' => by cases e'; exact HBS.out)).all l d2 hd2
            cases e'
            have hq0' := cell_at i5 0
            have hg5' := lt_of_heap i5
            have HY : Hid (SB wr sb tb (some ⟨b, o, none⟩) D.length cap E2 A2 O2 ∧ KM wr tb [] ∧ PAs D k l A2 ∧ Turned [sb] w1 wr ∧ wr.heap[g5]? = some (.cells #[.int .i64 d.b, .int .i64 d.e, .int .i64 d.k, .int .i64 (ce : Int), .int .i64 d.x, .int .i64 d.c, .int .i64 d.n, .bool d.ok] 27 (0, 0)) ∧ dAt D l = d2) := ⟨i1, i2, i3, i4, i5, hdA2⟩
            have PWA := fun e b w => cWasA e b w
            clear i1 i2 i3 i4 i5 hdA2 hd2 HIl
            cases hw : wasA d2.e d.b with
            | false =>
              have HNx : Hid (∀ x, Turned [] wr x → II D (some ⟨b, o, none⟩) cap sb tb g5 d ce k E2 O2 w1 (l + 1) x) := fun x hx => ⟨A2, HY.out.1.keep hx (by simp), HY.out.2.1.keep hx (by simp), HY.out.2.2.1.not (by rw [HY.out.2.2.2.2.2, HX.out.2.2.2.2.2.2]; exact hw), HY.out.2.2.2.1.inner hx (by simp), hx.heap HY.out.2.2.2.2.1 (by simp)⟩
              go_wp2_with (go_at_call 46; refine (PWA _ _ _).mono ?_; rintro r xz ⟨rfl, ez⟩; rw [ez]; clear ez xz)
              go_roundw
              case rel => exact ⟨l + 1, by omega, by go_num, HNx.out _ ((Turned.refl [] wr).alloc _)⟩
              case measure => simp [intOf]; omega
            | true =>
              have PW2 : Hid (∀ (old : Nat), old < 18446744073709551616 → ∀ x, Calls Tryd.prog 45 #[.int .u64 (old : Int), .int .i64 (l : Int)] x fun r w' => r = .returned (.int .u64 ((old ||| 2 ^ l : Nat) : Int)) ∧ Turned [] x w') := fun old ho x => (cWith ho (by omega) x).mono fun r w' h => ⟨h.1, by rw [h.2]; exact Turned.refl [] x⟩
              have HW2 : Hid (wasA d2.e d.b = true) := hw
              go_wp2_with (go_at_call 46; refine (PWA _ _ _).mono ?_; rintro r xz ⟨rfl, ez⟩; rw [ez]; clear ez xz)
              obtain ⟨cs, hcs, hc1, hc2, hc3, hc4, hc5, hc6⟩ := HY.out.1.ex
              have T7 := (Turned.refl [] wr).alloc (.cells #[.int .i64 d2.b, .int .i64 d2.e, .int .i64 d2.k, .int .i64 d2.a, .int .i64 d2.x, .int .i64 d2.c, .int .i64 d2.n, .bool d2.ok] 27 (0, 0))
              refine wp_thenN (new_r12 (sb := sb) (iy := k) (ix := l) (old := A2 k) (cs := cs) rfl rfl rfl rfl (by omega) (hc4 k (by omega)) (T7.heap hcs (by simp)) (PW2.out (A2 k) (HY.out.2.2.1.lt k)) ?_)
              intro a2 z hsz hdf hoff ht hb
              simp only [Exit.inBlock, Exit.then]
              rename_i K hK'
              refine hK' _ _ ?_
              clear hK' K
              have HNx : Hid (II D (some ⟨b, o, none⟩) cap sb tb g5 d ce k E2 O2 w1 (l + 1) z) := ⟨updN A2 k (A2 k ||| 2 ^ l), SB.setA (T7.heap hcs (by simp)) (HY.out.1.keep T7 (by simp)) (by omega) hb, (HY.out.2.1.keep T7 (by simp)).keep ht HTS.out.1, HY.out.2.2.1.yes (by omega) (by rw [HY.out.2.2.2.2.2, HX.out.2.2.2.2.2.2]; exact hw), (HY.out.2.2.2.1.inner T7 (by simp)).trans ht, ht.heap (T7.heap HY.out.2.2.2.2.1 (by simp)) HTS.out.2⟩
              have s0 : a2.eval (.tmp 0) = .slice (some ⟨b, o, none⟩) n cap := hoff 0 (by decide)
              have s1 : a2.eval (.tmp 1) = undef := hoff 1 (by decide)
              have s2 : a2.eval (.tmp 2) = .pointer none := hoff 2 (by decide)
              have s3 : a2.eval (.tmp 3) = .pointer (some ⟨sb, 0, none⟩) := hoff 3 (by decide)
              have s4 : a2.eval (.tmp 4) = .int .i64 (k : Int) := hoff 4 (by decide)
              have s5 : a2.eval (.tmp 5) = .pointer (some ⟨g5, 0, none⟩) := hoff 5 (by decide)
              have s8 : a2.eval (.tmp 8) = .slice (some ⟨b, o, none⟩) n cap := hoff 8 (by decide)
              have s9 : a2.eval (.tmp 9) = v9 := hoff 9 (by decide)
              have s10 : a2.eval (.tmp 10) = v10 := hoff 10 (by decide)
              have s11 : a2.eval (.tmp 11) = .pointer (some ⟨sb, 0, none⟩) := hoff 11 (by decide)
              have s12 : a2.eval (.tmp 12) = .slice (some ⟨b, o, none⟩) n cap := hoff 12 (by decide)
              have s13 : a2.eval (.tmp 13) = .int .i64 (n : Int) := hoff 13 (by decide)
              have s14 : a2.eval (.tmp 14) = .int .i64 (k : Int) := hoff 14 (by decide)
              have s15 : a2.eval (.tmp 15) = ee 15 := hoff 15 (by decide)
              have s16 : a2.eval (.tmp 16) = ee 16 := hoff 16 (by decide)
              have s17 : a2.eval (.tmp 17) = ee 17 := hoff 17 (by decide)
              have s18 : a2.eval (.tmp 18) = ee 18 := hoff 18 (by decide)
              have s19 : a2.eval (.tmp 19) = ee 19 := hoff 19 (by decide)
              have s20 : a2.eval (.tmp 20) = ee 20 := hoff 20 (by decide)
              have s21 : a2.eval (.tmp 21) = ee 21 := hoff 21 (by decide)
              have s22 : a2.eval (.tmp 22) = ee 22 := hoff 22 (by decide)
              have s23 : a2.eval (.tmp 23) = ee 23 := hoff 23 (by decide)
              have s24 : a2.eval (.tmp 24) = ee 24 := hoff 24 (by decide)
              have s25 : a2.eval (.tmp 25) = ee 25 := hoff 25 (by decide)
              have s26 : a2.eval (.tmp 26) = ee 26 := hoff 26 (by decide)
              have s27 : a2.eval (.tmp 27) = ee 27 := hoff 27 (by decide)
              have s28 : a2.eval (.tmp 28) = ee 28 := hoff 28 (by decide)
              have s29 : a2.eval (.tmp 29) = ee 29 := hoff 29 (by decide)
              have s30 : a2.eval (.tmp 30) = ee 30 := hoff 30 (by decide)
              have s31 : a2.eval (.tmp 31) = ee 31 := hoff 31 (by decide)
              have s32 : a2.eval (.tmp 32) = ee 32 := hoff 32 (by decide)
              have s33 : a2.eval (.tmp 33) = ee 33 := hoff 33 (by decide)
              have s34 : a2.eval (.tmp 34) = ee 34 := hoff 34 (by decide)
              have s35 : a2.eval (.tmp 35) = ee 35 := hoff 35 (by decide)
              have s36 : a2.eval (.tmp 36) = ee 36 := hoff 36 (by decide)
              have s37 : a2.eval (.tmp 37) = ee 37 := hoff 37 (by decide)
              have s38 : a2.eval (.tmp 38) = ee 38 := hoff 38 (by decide)
              have s39 : a2.eval (.tmp 39) = ee 39 := hoff 39 (by decide)
              have s40 : a2.eval (.tmp 40) = ee 40 := hoff 40 (by decide)
              have s41 : a2.eval (.tmp 41) = ee 41 := hoff 41 (by decide)
              have s42 : a2.eval (.tmp 42) = ee 42 := hoff 42 (by decide)
              have s43 : a2.eval (.tmp 43) = ee 43 := hoff 43 (by decide)
              have s44 : a2.eval (.tmp 44) = ee 44 := hoff 44 (by decide)
              have s45 : a2.eval (.tmp 45) = ee 45 := hoff 45 (by decide)
              have s46 : a2.eval (.tmp 46) = .slice (some ⟨b, o, none⟩) n cap := hoff 46 (by decide)
              have s47 : a2.eval (.tmp 47) = .int .i64 (n : Int) := hoff 47 (by decide)
              have s72 : a2.eval (.tmp 72) = ee 72 := hoff 72 (by decide)
              have s73 : a2.eval (.tmp 73) = undef := hoff 73 (by decide)
              have s48 : a2.eval (.tmp 48) = .int .i64 (l : Int) := hoff 48 (by decide)
              have hsz2 : a2.tmps.size = 74 := hsz
              have hdf2 : a2.defers = [] := hdf
              clear hsz hdf hoff hcs hc1 hc2 hc3 hc4 hc5 hc6 T7 ht hb
              obtain ⟨zz, hzy, hzz⟩ := expand74 hsz2 hdf2
              have t0 := (hzz 0).trans s0
              have t1 := (hzz 1).trans s1
              have t2 := (hzz 2).trans s2
              have t3 := (hzz 3).trans s3
              have t4 := (hzz 4).trans s4
              have t5 := (hzz 5).trans s5
              have t8 := (hzz 8).trans s8
              have t9 := (hzz 9).trans s9
              have t10 := (hzz 10).trans s10
              have t11 := (hzz 11).trans s11
              have t12 := (hzz 12).trans s12
              have t13 := (hzz 13).trans s13
              have t14 := (hzz 14).trans s14
              have t15 := (hzz 15).trans s15
              have t16 := (hzz 16).trans s16
              have t17 := (hzz 17).trans s17
              have t18 := (hzz 18).trans s18
              have t19 := (hzz 19).trans s19
              have t20 := (hzz 20).trans s20
              have t21 := (hzz 21).trans s21
              have t22 := (hzz 22).trans s22
              have t23 := (hzz 23).trans s23
              have t24 := (hzz 24).trans s24
              have t25 := (hzz 25).trans s25
              have t26 := (hzz 26).trans s26
              have t27 := (hzz 27).trans s27
              have t28 := (hzz 28).trans s28
              have t29 := (hzz 29).trans s29
              have t30 := (hzz 30).trans s30
              have t31 := (hzz 31).trans s31
              have t32 := (hzz 32).trans s32
              have t33 := (hzz 33).trans s33
              have t34 := (hzz 34).trans s34
              have t35 := (hzz 35).trans s35
              have t36 := (hzz 36).trans s36
              have t37 := (hzz 37).trans s37
              have t38 := (hzz 38).trans s38
              have t39 := (hzz 39).trans s39
              have t40 := (hzz 40).trans s40
              have t41 := (hzz 41).trans s41
              have t42 := (hzz 42).trans s42
              have t43 := (hzz 43).trans s43
              have t44 := (hzz 44).trans s44
              have t45 := (hzz 45).trans s45
              have t46 := (hzz 46).trans s46
              have t47 := (hzz 47).trans s47
              have t72 := (hzz 72).trans s72
              have t73 := (hzz 73).trans s73
              have t48 := (hzz 48).trans s48
              clear hzz hsz2 hdf2
              subst hzy
              simp only [lit74, t0, t1, t2, t3, t4, t5, t8, t9, t10, t11, t12, t13, t14, t15, t16, t17, t18, t19, t20, t21, t22, t23, t24, t25, t26, t27, t28, t29, t30, t31, t32, t33, t34, t35, t36, t37, t38, t39, t40, t41, t42, t43, t44, t45, t46, t47, t72, t73, t48]
              conv => arg 2; whnf
              go_wp2
              go_roundw
              case rel => exact ⟨l + 1, by omega, by go_num, HNx⟩
              case measure => simp [intOf]; omega
          · have e : l = n := by omega
            subst e
            have HNk : Hid (NI D (some ⟨b, o, none⟩) cap sb tb w (k + 1) wr) := by
              obtain ⟨A2, i1, i2, i3, i4, i5⟩ := HIl.out.ex
              refine ⟨E2, A2, O2, i1, i2, HPE.out, HPO.out, ?_, HX.out.2.2.2.2.2.1.trans i4⟩
              have := i3
              rw [HN.out] at this
              exact this.done
            clear HIl
            go_wp2
            go_roundw
            case rel => exact ⟨k + 1, by omega, by go_num, HNk⟩
            case measure => simp [intOf]; omega
    · have e : k = n := by omega
      subst e
      have HP : Hid (NewP D ad cap w wr) := by
        obtain ⟨E, A, O, i1, i2, i3, i4, i5, i6⟩ := HI.out.ex
        have q := HSB.out
        rw [q.1, q.2] at i1
        rw [q.2] at i2
        rw [HN.out] at i3 i4 i5
        refine ⟨E, A, O, i1, i2, Masks.of (by rw [← HN.out]; exact hl) (fun i hi => ⟨(HKd.out i hi).1, (HKd.out i hi).2.1⟩) i3 i4 i5, ?_⟩
        have h0 : Turned [] w w := Turned.refl [] w
        exact h0.inner i6 (fun x hx => .inr (by have := List.mem_singleton.1 hx; omega))
      have HQ : Hid (sb = w.heap.size + 1) := HSB.out.1
      go_wp2
      go_ret
      exact ⟨by rw [HQ.out]; rfl, HP.out⟩
end Go.Proofs.YtbielnehggcaoaaDoor

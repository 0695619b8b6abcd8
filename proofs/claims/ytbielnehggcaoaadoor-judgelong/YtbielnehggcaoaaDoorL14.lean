/- 'append(s, u)' as a law for the walk, and as one step of a region that draws. -/
import Derived.Test.YtbielnehggcaoaaDoorL02
import Derived.Deep.RegionLaw
import Derived.Test.YtbielnehggcaoaaDoorL13
namespace Go.Proofs.YtbielnehggcaoaaDoor
open Go.RowKit
section
variable {P : Program} {w : World} {ops : Array Oper} {o : Oper} {a : Act}
theorem wp_push {K : Act → World → Prop} {Q : Exit → Act → World → Prop} (s x : Operand) (t : TypeId) (ho : o.op = .call { callee := .builtin .append, args := #[s, x], argTypes := #[t, t] })
    (B : Nat) (e : TypeId) (z : Value) (bytes : Nat) (ht : P.underlying t = some (.slice e)) (hinfo : (P.info? e).map (fun i => (i.zero, i.size, i.bytes)) = some (some z, 1, bytes)) (hz : z.cells.size = 1)
    (v : Value) (n : Nat) (xs : List Value) (hs : a.eval s = v) (hown : w.ownsRow B e 1 v n xs) (ad : Addr) (c : Nat) (u : Value) (hx : a.eval x = .slice (some ad) 1 c) (hu : w.cell? ad = some u) (h1 : u.oneCell' = true)
    (h63 : n + 1 ≤ maxLen) (hbytes : (n + 1) * bytes ≤ 140737488355328) (hbase : B ≤ w.heap.size)
    (h : ∀ v' w', w'.ownsRow B e 1 v' (n + 1) (xs ++ [u]) → Grew w w' v v' → K (a.put o.dst v') w') : o.wp P a w K Q := by
  obtain ⟨i, hi, hz0, hz1, hz2⟩ := info_parts hinfo
  obtain ⟨v', w', hr, h2, h3⟩ := run_push (P := P) (w := w) B t o.type e i z bytes ht hi hz0 hz1 hz2 hz v n xs hown ad c u hu h1 h63 hbytes hbase
  unfold Oper.wp execOp
  simp only [ho, resolve, invoke, builtin, Sem.run_bind, Sem.run_pure, Result.andThen_ok, List.map_toArray, List.map_cons, List.map_nil, hs, hx, hr]
  exact h v' w' h2 h3
theorem wpList_push {rest : List Oper} {Q : Exit → Act → World → Prop} (hgd : o.guard = none) (s x : Operand) (t : TypeId) (ho : o.op = .call { callee := .builtin .append, args := #[s, x], argTypes := #[t, t] })
    (B : Nat) (e : TypeId) (z : Value) (bytes : Nat) (ht : P.underlying t = some (.slice e)) (hinfo : (P.info? e).map (fun i => (i.zero, i.size, i.bytes)) = some (some z, 1, bytes)) (hz : z.cells.size = 1)
    (v : Value) (n : Nat) (xs : List Value) (hs : a.eval s = v) (hown : w.ownsRow B e 1 v n xs) (ad : Addr) (c : Nat) (u : Value) (hx : a.eval x = .slice (some ad) 1 c) (hu : w.cell? ad = some u) (h1 : u.oneCell' = true)
    (h63 : n + 1 ≤ maxLen) (hbytes : (n + 1) * bytes ≤ 140737488355328) (hbase : B ≤ w.heap.size)
    (h : ∀ v' w', w'.ownsRow B e 1 v' (n + 1) (xs ++ [u]) → Grew w w' v v' → wpList P ops Q rest (a.put o.dst v') w') : wpList P ops Q (o :: rest) a w :=
  wpList_plain hgd fun _ hK => wp_push s x t ho B e z bytes ht hinfo hz v n xs hs hown ad c u hx hu h1 h63 hbytes hbase fun v' w' h2 h3 => hK _ _ (h v' w' h2 h3)
theorem step_push {K : Act → World → Prop} {Q : Exit → Act → World → Prop} {E : Prop} (hgd : o.guard = none) (s x : Operand) (t : TypeId) (ho : o.op = .call { callee := .builtin .append, args := #[s, x], argTypes := #[t, t] })
    (B : Nat) (e : TypeId) (z : Value) (bytes : Nat) (ht : P.underlying t = some (.slice e)) (hinfo : (P.info? e).map (fun i => (i.zero, i.size, i.bytes)) = some (some z, 1, bytes)) (hz : z.cells.size = 1)
    (v : Value) (n : Nat) (xs : List Value) (hs : a.eval s = v) (hown : w.ownsRow B e 1 v n xs) (ad : Addr) (c : Nat) (u : Value) (hx : a.eval x = .slice (some ad) 1 c) (hu : w.cell? ad = some u) (h1 : u.oneCell' = true)
    (h63 : n + 1 ≤ maxLen) (hbytes : (n + 1) * bytes ≤ 140737488355328) (hbase : B ≤ w.heap.size)
    (h : ∀ v' w', w'.ownsRow B e 1 v' (n + 1) (xs ++ [u]) → Grew w w' v v' → K (a.put o.dst v') w') : if Region.wanted o (yielded ops a.tmps) = true then Oper.wp P o a w K Q else E := by
  have hw : Region.wanted o (yielded ops a.tmps) = true := by simp [Region.wanted, hgd]
  rw [if_pos hw]
  exact wp_push s x t ho B e z bytes ht hinfo hz v n xs hs hown ad c u hx hu h1 h63 hbytes hbase h
end
end Go.Proofs.YtbielnehggcaoaaDoor
/-
  The search for the least order: what its loops keep. (By the verifier; no statement.)
-/
namespace Go.Proofs.YtbielnehggcaoaaDoor
open Go.RowKit
/-- The search so far. -/
structure LS (D : List Dd) (S0 : Pl) (v0 : Int → Int) (os : List Nat) (dn : Nat) (vf : Int → Int) : Prop where
  lt : dn < 18446744073709551616
  pre : ∀ t, Least D (bitsP dn) vf t → Least D S0 v0 (os ++ t)
  can : Can D S0 v0 → Can D (bitsP dn) vf
section
variable {D : List Dd} {E : Nat} {A O : Nat → Nat} {cv : Nat → Nat → Int → Bool} {S0 : Pl} {v0 vf : Int → Int} {os : List Nat} {dn : Nat}
theorem LS.start (v0 : Int → Int) : LS D (bitsP 0) v0 [] 0 v0 := ⟨by decide, fun _ h => h, fun h => h⟩
theorem LS.next (h : LS D S0 v0 os dn vf) (hr : ∀ i, i < D.length → (dAt D i).e = 0 ∨ (dAt D i).b ≤ (dAt D i).e) (hl : D.length ≤ 64) {i : Nat} (ha : allIn D (bitsP dn) = false) (hi : i < D.length) (hc : Cond D (bitsP dn) vf i) (hn : ∀ j, j < i → ¬ Cond D (bitsP dn) vf j) : LS D S0 v0 (os ++ [i]) (dn ||| 2 ^ i) (stepV D vf i) :=
  ⟨with_lt h.lt (by omega), fun t ht => by
    rw [← bitsP_upd] at ht
    rw [List.append_assoc]
    exact h.pre _ (.cons ha hi hc hn ht), fun hh => by
    rw [← bitsP_upd]
    exact Can.of_cells hr _ (Nat.le_refl _) (hc.keeps fun c => (h.can hh).cells c)⟩
theorem LS.none (h : LS D S0 v0 os dn vf) (ha : allIn D (bitsP dn) = false) (hn : ∀ j, j < D.length → ¬ Cond D (bitsP dn) vf j) : ¬ Can D S0 v0 := fun hh => by
  obtain ⟨i, hi, hc⟩ := (h.can hh).cond ha
  exact hn i hi hc
theorem LS.done (h : LS D S0 v0 os dn vf) (ha : allIn D (bitsP dn) = true) : Least D S0 v0 os := by
  have := h.pre [] (.nil ha)
  rwa [List.append_nil] at this
theorem can_and (M : Masks D E A O) {ce i : Nat} (hc : ce < 256) (x : Int) : CCan D ce (bitsP (dn &&& O ce ||| 2 ^ i)) x ↔ CCan D ce ((bitsP dn).upd i) x := by
  have key : ∀ j, j < D.length → (dAt D j).a = (ce : Int) → bitsP (dn &&& O ce ||| 2 ^ i) j = (bitsP dn).upd i j := fun j hj ha => by
    rw [bitsP_upd]
    simp only [bitsP, bit_or, Nat.testBit_and, M.o ce hc, hj, ha, decide_true, Bool.and_self, Bool.and_true]
  exact ⟨fun ⟨os, h⟩ => ⟨os, h.congr key⟩, fun ⟨os, h⟩ => ⟨os, h.congr fun j hj ha => (key j hj ha).symm⟩⟩
theorem Masks.mayA (M : Masks D E A O) {i : Nat} (hi : i < D.length) (hn : dn.testBit i = false) : anN (A i) dn = 0 ↔ may D (bitsP dn) i = true := by
  constructor
  · intro h
    refine may_iff.2 ⟨hn, fun j hj hw => ?_⟩
    have hb := anN_bit (a := A i) (b := dn) (j := j) (M.a_lt i)
    rw [h, Nat.zero_testBit, M.a i hi] at hb
    simp only [hj, hw, decide_true, Bool.true_and] at hb
    show dn.testBit j = true
    simpa using hb.symm
  · intro h
    refine zero_of_bits fun j => ?_
    rw [anN_bit (M.a_lt i), M.a i hi]
    by_cases hj : j < D.length
    · cases hw : wasA (dAt D j).e (dAt D i).b with
      | false => simp
      | true =>
        have : dn.testBit j = true := (may_iff.1 h).2 j hj hw
        simp [this]
    · simp [hj]
theorem Masks.allE (M : Masks D E A O) : anN E dn = 0 ↔ allIn D (bitsP dn) = true := by
  constructor
  · intro h
    refine allIn_iff.2 fun j hj he => ?_
    have hb := anN_bit (a := E) (b := dn) (j := j) M.e_lt
    rw [h, Nat.zero_testBit, M.e] at hb
    simp only [hj, he, decide_true, Bool.true_and, ne_eq, not_false_eq_true] at hb
    show dn.testBit j = true
    simpa using hb.symm
  · intro h
    refine zero_of_bits fun j => ?_
    rw [anN_bit M.e_lt, M.e]
    by_cases hj : j < D.length
    · by_cases he : (dAt D j).e = 0
      · simp [he]
      · have : dn.testBit j = true := allIn_iff.1 h j hj he
        simp [this]
    · simp [hj]
/-- What the program asks of a deed is what makes it a next one. -/
theorem cond_iff (M : Masks D E A O) (hcv : ∀ ce m v, cv ce m v = true ↔ CCan D ce (bitsP m) v) {i ce : Nat} (hi : i < D.length) (ha : (dAt D i).a = (ce : Int)) (hc : ce < 256) (hn : dn.testBit i = false) (hz : anN (A i) dn = 0) : Cond D (bitsP dn) vf i ↔ (dAt D i).fits (vf ce) = true ∧ cv ce (dn &&& O ce ||| 2 ^ i) ((dAt D i).next (vf ce)) = true := by
  unfold Cond
  rw [ha, hcv, can_and M hc]
  exact ⟨fun h => ⟨h.2.1, h.2.2⟩, fun h => ⟨(M.mayA hi hn).1 hz, h.1, h.2⟩⟩
theorem cond_no (M : Masks D E A O) {i : Nat} (hi : i < D.length) (h : dn.testBit i = true ∨ anN (A i) dn ≠ 0) : ¬ Cond D (bitsP dn) vf i := fun hc => by
  have hm := may_iff.1 hc.1
  rcases h with h | h
  · have h1 : dn.testBit i = false := hm.1
    rw [h] at h1
    cases h1
  · exact h ((M.mayA hi hm.1).2 hc.1)
end
theorem own_ge {x : World} {B n : Nat} {e : TypeId} {v : Value} {xs : List Value} (h : x.ownsRow B e 1 v n xs) {g : Nat} (hg : v.ownBlock = some g) : B ≤ g := by
  rcases h.2 with ⟨rfl, _⟩ | ⟨g', cap, cur, rfl, hb, _⟩
  · cases hg
  · cases hg
    exact hb
theorem Turned.grew {l : List Nat} {w x x' : World} {e : TypeId} {v v' : Value} {n : Nat} {xs : List Value} (h : Turned l w x) (ho : x.ownsRow w.heap.size e 1 v n xs) (hg : Grew x x' v v') : Turned l w x' :=
  ⟨hg.1.os.trans h.os, hg.1.tape.trans h.tape, hg.1.output.trans h.output, Nat.le_trans h.size hg.1.size, fun k hk hn => by
    rw [hg.1.block k (Nat.lt_of_lt_of_le hk h.size) (fun e => by have := own_ge ho e.symm; omega)]
    exact h.block k hk hn⟩
/-- The search's block, its deeds and the table: the search in memory. -/
theorem SB.sr {w : World} {sb tb cap E : Nat} {ad : Option Addr} {D : List Dd} {A O : Nat → Nat} (h : SB w sb tb ad D.length cap E A O) (hK : KM w tb []) (hT : Tab w) (hD : DsAt w ad D) (h0 : 0 ≠ tb) (hn : sb ≠ tb) (hd : ∀ b o, ad = some ⟨b, o, none⟩ → b ≠ tb) : SrAt w sb tb ad cap D E A O := by
  obtain ⟨cs, h1, h2, h3, h4, h5, h6, h7⟩ := h.ex
  exact ⟨(cell_at h1 0).trans h3, (cell_at h1 1).trans h4, fun i hi => (cell_at h1 _).trans (h5 i hi), fun c hc => (cell_at h1 _).trans (h6 c hc), (cell_at h1 322).trans h7, lt_of_heap h1, hK.here, hn, h0, hD, hd, hT⟩
end Go.Proofs.YtbielnehggcaoaaDoor
/-
  least by contract, its walk. (By the verifier; no statement.)
-/
namespace Go.Proofs.YtbielnehggcaoaaDoor
open Go.RowKit
/-- least's state. -/
structure LO (D : List Dd) (E : Nat) (A O : Nat → Nat) (sb tb cap : Nat) (ad : Option Addr) (cv : Nat → Nat → Int → Bool) (kb kn : Nat) (v0 : Int → Int) (w : World) (os : List Nat) (dn : Nat) (vf : Int → Int) (vo : Value) (x : World) : Prop where
  tu : Turned [tb, kb] w x
  sr : SrAt x sb tb ad cap D E A O
  km : ∃ Ks, KM x tb Ks ∧ KsOk cv Ks
  row : x.ownsRow w.heap.size 3 1 vo os.length (os.map fun i : Nat => Value.int .i64 (i : Int))
  held : ∃ hc, x.heap[kb]? = some (.cells hc 3 (0, 0)) ∧ ∀ c : Nat, c < kn → hc[c]? = some (.int .i64 (vf c))
  ls : LS D (bitsP 0) v0 os dn vf
  ol : os.length + outN D.length (bitsP dn) ≤ D.length
theorem ownsRow_keep {B e n : Nat} {v : Value} {xs : List Value} {x y : World} {l : List Nat} (h : x.ownsRow B e 1 v n xs) (ht : Turned l x y) (hl : ∀ b ∈ l, b < B) : y.ownsRow B e 1 v n xs := by
  refine ⟨h.1, ?_⟩
  rcases h.2 with h2 | ⟨g, cp, cur, h1, h2, h3, h4⟩
  · exact .inl h2
  · refine .inr ⟨g, cp, cur, h1, h2, ht.heap h3 (fun hg => ?_), h4⟩
    have := hl g hg
    omega
theorem infoIntJ : (Tryd.prog.info? 3).map (fun i => (i.zero, i.size, i.bytes)) = some (some (.int .i64 0), 1, 8) := by kernel_rfl
section
variable {D : List Dd} {E : Nat} {A O : Nat → Nat} {sb tb cap : Nat} {ad : Option Addr} {cv : Nat → Nat → Int → Bool} {kb kn : Nat} {v0 : Int → Int} {w : World} {os : List Nat} {dn : Nat} {vf : Int → Int} {vo : Value} {x : World}
theorem LO.still (h : LO D E A O sb tb cap ad cv kb kn v0 w os dn vf vo x) {y : World} (ht : Turned [] x y) : LO D E A O sb tb cap ad cv kb kn v0 w os dn vf vo y := by
  obtain ⟨K, a, b⟩ := h.km
  obtain ⟨hc, c, d⟩ := h.held
  exact ⟨h.tu.inner ht (by simp), h.sr.still ht, ⟨K, a.keep ht (by simp), b⟩, ownsRow_keep h.row ht (by simp), ⟨hc, ht.heap c (by simp), d⟩, h.ls, h.ol⟩
theorem LO.ended (h : LO D E A O sb tb cap ad cv kb kn v0 w os dn vf vo x) {m : Nat} {Ks : List KE} {y : World} (hk : kb ≠ tb) (ht : tb < w.heap.size) (he : EndP cv tb m Ks x y) : LO D E A O sb tb cap ad cv kb kn v0 w os dn vf vo y := by
  obtain ⟨K, a, b, _⟩ := he.ex
  obtain ⟨hc, c, d⟩ := h.held
  exact ⟨h.tu.trans (he.turned.mono (by simp)), h.sr.keep he.turned, ⟨K, a, b⟩, ownsRow_keep h.row he.turned (fun q hq => by rw [List.mem_singleton.1 hq]; exact ht), ⟨hc, he.turned.heap c (by simpa using hk), d⟩, h.ls, h.ol⟩
theorem SrAt.keepL (h : SrAt w sb tb ad cap D E A O) {w' : World} {l : List Nat} (ht : Turned l w w') (hl : ∀ q ∈ l, q ≠ sb ∧ q ≠ 0 ∧ ∀ b o, ad = some ⟨b, o, none⟩ → b ≠ q) : SrAt w' sb tb ad cap D E A O :=
  have n1 : sb ∉ l := fun hh => (hl _ hh).1 rfl
  have n0 : 0 ∉ l := fun hh => (hl _ hh).2.1 rfl
  ⟨ht.cell h.c0 n1, ht.cell h.c1 n1, fun i hi => ht.cell (h.ca i hi) n1, fun c hc => ht.cell (h.co c hc) n1, ht.cell h.cm n1, Nat.lt_of_lt_of_le h.sl ht.size, Nat.lt_of_lt_of_le h.tl ht.size, h.ne, h.nz, h.ds.keep ht (fun b o e hb => (hl _ hb).2.2 b o e rfl), h.nd, h.tab.keep ht n0⟩
theorem Grew.turned {x x' : World} {v v' : Value} (hg : Grew x x' v v') : Turned v.ownBlock.toList x x' := ⟨hg.1.os, hg.1.tape, hg.1.output, hg.1.size, fun k hk hn => hg.1.block k hk (fun e => hn (by rw [← e]; simp))⟩
theorem own_lt {x : World} {B n : Nat} {e : TypeId} {v : Value} {xs : List Value} (h : x.ownsRow B e 1 v n xs) {g : Nat} (hg : v.ownBlock = some g) : g < x.heap.size := by
  rcases h.2 with ⟨rfl, _⟩ | ⟨g', cap, cur, rfl, hb, h3, _⟩
  · cases hg
  · cases hg
    exact lt_of_heap h3
theorem blk_pushed {y y2 y4 : World} {tb m r B : Nat} {cv : Nat → Nat → Int → Bool} {Ks : List KE} {u v' : Value} {o o' : Obj} (h : y.heap[r]? = some o) (he : EndP cv tb m Ks y y2) (hG : Grew (y2.alloc o') y4 u v') (hr : r ≠ tb) (hu : ∀ g, u.ownBlock = some g → g < B) (hB : B ≤ r) : y4.heap[r]? = some o :=
  hG.turned.heap (blk_old (he.turned.heap h (by simpa using hr)) o') (fun hq => by have := hu r (by simpa using hq); omega)
/-- The blocks lie apart. -/
structure Apart (sb tb kb : Nat) (ad : Option Addr) (w : World) : Prop where
  s : sb < w.heap.size
  t : tb < w.heap.size
  k : kb < w.heap.size
  z : 0 < w.heap.size
  ks : kb ≠ sb
  kt : kb ≠ tb
  k0 : kb ≠ 0
  d : ∀ b o, ad = some ⟨b, o, none⟩ → b < w.heap.size ∧ b ≠ kb
theorem LO.next (h : LO D E A O sb tb cap ad cv kb kn v0 w os dn vf vo x) (hp : Apart sb tb kb ad w) (hr : ∀ i, i < D.length → (dAt D i).e = 0 ∨ (dAt D i).b ≤ (dAt D i).e) (hlen : D.length ≤ 64) (hN : allIn D (bitsP dn) = false) {l ce : Nat} (hl : l < D.length) (ha : (dAt D l).a = (ce : Int)) (hC : Cond D (bitsP dn) vf l) (hno : ∀ j, j < l → ¬ Cond D (bitsP dn) vf j) {v' : Value} {y : World} (hg : Grew x y vo v') (ho : y.ownsRow w.heap.size 3 1 v' (os.length + 1) ((os.map fun i : Nat => Value.int .i64 (i : Int)) ++ [.int .i64 (l : Int)])) :
    LO D E A O sb tb cap ad cv kb kn v0 w (os ++ [l]) (dn ||| 2 ^ l) (stepV D vf l) v' (y.setCell ⟨kb, ce, none⟩ (.int .i64 ((dAt D l).next (vf ce)))) := by
  have t1 := hg.turned
  have g1 : ∀ q ∈ vo.ownBlock.toList, w.heap.size ≤ q := fun q hq => own_ge h.row (by simpa using hq)
  have t2 : Turned [kb] y (y.setCell ⟨kb, ce, none⟩ (.int .i64 ((dAt D l).next (vf ce)))) := (Turned.refl _ _).set (.inl (by simp)) _ _
  obtain ⟨K, a, b⟩ := h.km
  obtain ⟨hc, c, d⟩ := h.held
  have hs := hp.s
  have ht := hp.t
  have hk := hp.k
  have hz := hp.z
  refine ⟨(h.tu.grew h.row hg).set (.inl (by simp)) _ _, (h.sr.keepL t1 fun q hq => ?_).keepL t2 fun q hq => ?_, ⟨K, (a.keep t1 fun hq => ?_).keep t2 ?_, b⟩, ?_, ⟨_, blk_set (t1.heap c fun hq => ?_) ce _, fun i hi => ?_⟩, h.ls.next hr hlen hN hl hC hno, ?_⟩
  · have := g1 q hq
    refine ⟨by omega, by omega, fun b o e => ?_⟩
    have := (hp.d b o e).1
    omega
  · obtain rfl := List.mem_singleton.1 hq
    exact ⟨hp.ks, hp.k0, fun b o e => (hp.d b o e).2⟩
  · have := g1 _ hq
    omega
  · simpa using fun e => hp.kt e.symm
  · rw [List.length_append, List.map_append]
    exact ownsRow_keep ho t2 (fun q hq => by rw [List.mem_singleton.1 hq]; exact hk)
  · have := g1 _ hq
    omega
  · have hd := d i hi
    rw [Array.getElem?_setIfInBounds]
    by_cases e : ce = i
    · subst e
      have hlt : ce < hc.size := by
        rcases Nat.lt_or_ge ce hc.size with h1 | h1
        · exact h1
        · rw [Array.getElem?_eq_none h1] at hd; cases hd
      simp [stepV, updV, ha, hlt]
    · have e2 : (i : Int) ≠ (ce : Int) := by omega
      simp [stepV, updV, ha, e, e2, hd]
  · have h1 := outN_upd (S := bitsP dn) hl (may_iff.1 hC.1).1
    rw [bitsP_upd] at h1
    have := h.ol
    rw [List.length_append, List.length_singleton]
    omega
/-- What least leaves. -/
structure LeP (D : List Dd) (v0 : Int → Int) (tb kb : Nat) (w : World) (r : Ending) (w' : World) : Prop where
  tu : Turned [tb, kb] w w'
  ans : (∃ os v, r = .returned (.tuple #[v, .bool true]) ∧ Least D (bitsP 0) v0 os ∧ w'.ownsRow w.heap.size 3 1 v os.length (os.map fun i : Nat => Value.int .i64 (i : Int))) ∨ (r = .returned (.tuple #[.slice none 0 0, .bool false]) ∧ ¬ Can D (bitsP 0) v0)
set_option maxRecDepth 100000 in
set_option maxHeartbeats 3200000 in
theorem cLeast {kc : Nat} (M : Masks D E A O) (hcv : ∀ ce m v, cv ce m v = true ↔ CCan D ce (bitsP m) v) (hr : ∀ i, i < D.length → ((dAt D i).e = 0 ∨ (dAt D i).b ≤ (dAt D i).e) ∧ 0 ≤ (dAt D i).a ∧ (dAt D i).a < kn) (hkn : kn ≤ 256) (hp : Apart sb tb kb ad w) (h0 : LO D E A O sb tb cap ad cv kb kn v0 w [] 0 v0 (.slice none 0 0) w) :
    Calls Tryd.prog 31 #[.pointer (some ⟨sb, 0, none⟩), .slice (some ⟨kb, 0, none⟩) kn kc] w fun r w' => LeP D v0 tb kb w r w' := by
  have HM : Hid (Masks D E A O) := M
  have HCV : Hid (∀ ce m v, cv ce m v = true ↔ CCan D ce (bitsP m) v) := hcv
  have HR : Hid (∀ i, i < D.length → ((dAt D i).e = 0 ∨ (dAt D i).b ≤ (dAt D i).e) ∧ 0 ≤ (dAt D i).a ∧ (dAt D i).a < kn) := hr
  have H0 : Hid (LO D E A O sb tb cap ad cv kb kn v0 w [] 0 v0 (.slice none 0 0) w) := h0
  have HP : Hid (Apart sb tb kb ad w) := hp
  clear M hcv hr h0 hp
  go_enter Tryd.func31, Tryd.ntmps31
  go_wp2
  refine wp_scope_straight ?_
  go_wp2
  refine wp_label ?_
  go_wp2
  go_loopw [6, 7] (fun vo d wx => ∃ (os : List Nat) (dn : Nat) (vf : Int → Int), d = .int .u64 (dn : Int) ∧ Hid (LO D E A O sb tb cap ad cv kb kn v0 w os dn vf vo wx)) (fun _ d _ => outN D.length (bitsP (intOf d).toNat))
  case atStart => exact ⟨[], 0, v0, rfl, H0⟩
  case round =>
    obtain ⟨os, dn, vf, rfl, HL⟩ := hrel
    have h1 := HL.out.sr.c1
    have h0 := HL.out.sr.c0
    have hsl := HL.out.sr.sl
    have hA2 : bits .andNot .u64 ((E : Nat) : Int) (dn : Int) = ((anN E dn : Nat) : Int) := bits_andNot
    have HAE : Hid (anN E dn = 0 ↔ allIn D (bitsP dn) = true) := HM.out.allE
    generalize anN E dn = ae at *
    by_cases hz : ae = 0
    · have HT : Hid (allIn D (bitsP dn) = true) := HAE.out.1 hz
      subst hz
      go_wp2
      go_ret2
      exact ⟨HL.out.tu, .inl ⟨os, _, rfl, HL.out.ls.done HT.out, HL.out.row⟩⟩
    · have hz2 : ((ae : Int) != 0) = true := by simpa using hz
      have HN : Hid (allIn D (bitsP dn) = false) := by
        cases hh : allIn D (bitsP dn) with
        | false => rfl
        | true => exact absurd (HAE.out.2 hh) hz
      clear HAE hz
      obtain ⟨n, hn⟩ : ∃ n, n = D.length := ⟨_, rfl⟩
      have HNn : Hid (n = D.length) := hn
      rw [← hn] at h0
      clear hn
      have hn64 : n ≤ 64 := by rw [HNn.out]; exact HM.out.len
      obtain ⟨vor, hvor⟩ : ∃ vor, vor = u6 := ⟨_, rfl⟩
      subst hvor
      have HL0 : Hid (LO D E A O sb tb cap ad cv kb kn v0 w os dn vf vor wr) := HL
      go_wp2
      obtain ⟨w1, rfl⟩ : ∃ w1, w1 = wr := ⟨wr, rfl⟩
      go_loopw [6, 7, 24] (fun vo2 d2 j wx => ∃ l : Nat, l ≤ n ∧ vo2 = vor ∧ d2 = .int .u64 (dn : Int) ∧ j = .int .i64 l ∧ Hid (∀ i, i < l → ¬ Cond D (bitsP dn) vf i) ∧ Hid (LO D E A O sb tb cap ad cv kb kn v0 w os dn vf vor wx)) (fun _ _ j _ => n - (intOf j).toNat)
      case atStart => exact ⟨0, Nat.zero_le _, rfl, rfl, rfl, fun i hi => absurd hi (Nat.not_lt_zero _), HL0⟩
      case round =>
        obtain ⟨l, hl, rfl, rfl, rfl, HNo, HLx⟩ := hrel
        by_cases hlt : l < n
        · have hlD : l < D.length := by rw [← HNn.out]; exact hlt
          obtain ⟨d, hd⟩ : ∃ d, D[l]? = some d := ⟨_, List.getElem?_eq_getElem hlD⟩
          have hdA : dAt D l = d := by unfold dAt; rw [List.getD_eq_getElem?_getD, hd]; rfl
          obtain ⟨b, o, rfl, hb, k0, k1, k2, k3, k4, k5, k6, k7⟩ := HLx.out.sr.ds.all l d hd
          obtain ⟨hr1, hr2, hr3⟩ := HR.out l hlD
          rw [hdA] at hr1 hr2 hr3
          obtain ⟨ce, hce⟩ : ∃ ce : Nat, d.a = (ce : Int) := ⟨d.a.toNat, by omega⟩
          have hcek : ce < kn := by omega
          have hce2 : ce < 256 := by omega
          have Hd : Hid (D[l]? = some d ∧ dAt D l = d ∧ d.a = (ce : Int)) := ⟨hd, hdA, hce⟩
          rw [hce] at k3
          have hdlt := HLx.out.ls.lt
          have hsl2 := HLx.out.sr.sl
          have hAl := HLx.out.sr.ca l (by omega)
          have hll : (l : Int) < 64 := by omega
          have hB2 : bits .andNot .u64 ((A l : Nat) : Int) (dn : Int) = ((anN (A l) dn : Nat) : Int) := bits_andNot
          have PH : ∀ y, Calls Tryd.prog 47 #[.int .u64 (dn : Int), .int .i64 (l : Int)] y fun r w' => r = .returned (.bool (dn.testBit l)) ∧ w' = y := fun y => cHas hdlt (by omega) y
          have HNn2 : Hid ((dn.testBit l = true ∨ anN (A l) dn ≠ 0) → ∀ i, i < l + 1 → ¬ Cond D (bitsP dn) vf i) := fun h i hi => by
            rcases Nat.lt_succ_iff_lt_or_eq.1 hi with h1 | rfl
            · exact HNo.out i h1
            · exact cond_no HM.out hlD h
          clear hd hdA hr1 hr2 hr3 hce
          cases htb : dn.testBit l with
          | true =>
            have HNx : Hid (∀ i, i < l + 1 → ¬ Cond D (bitsP dn) vf i) := HNn2.out (.inl htb)
            rw [htb] at PH
            clear htb HNn2
            go_wp2_with (go_at_call 47; refine (PH _).mono ?_; rintro r xz ⟨rfl, ez⟩; rw [ez]; clear ez xz)
            go_roundw
            case rel => exact ⟨l + 1, by omega, rfl, rfl, by go_num, HNx, HLx.out.still ((Turned.refl [] wr).alloc _)⟩
            case measure => simp [intOf]; omega
          | false =>
            have HTB : Hid (dn.testBit l = false) := htb
            rw [htb] at PH
            clear htb
            by_cases han : anN (A l) dn = 0
            · have HCI : Hid (Cond D (bitsP dn) vf l ↔ d.fits (vf ce) = true ∧ cv ce (dn &&& O ce ||| 2 ^ l) (d.next (vf ce)) = true) := by
                have := cond_iff (vf := vf) (cv := cv) HM.out HCV.out hlD (by rw [Hd.out.2.1]; exact Hd.out.2.2) hce2 HTB.out han
                rw [Hd.out.2.1] at this
                exact this
              rw [han] at hB2
              have HDA : Hid (DAt wr b o l d ∧ b < wr.heap.size) := ⟨⟨k0, k1, k2, by rw [Hd.out.2.2]; exact k3, k4, k5, k6, k7⟩, hb⟩
              clear han HNn2
              go_wp2_with (go_at_call 47; refine (PH _).mono ?_; rintro r xz ⟨rfl, ez⟩; rw [ez]; clear ez xz)
              have T9 := (Turned.refl [] wr).alloc (.cells #[.int .i64 d.b, .int .i64 d.e, .int .i64 d.k, .int .i64 (ce : Int), .int .i64 d.x, .int .i64 d.c, .int .i64 d.n, .bool d.ok] 27 (0, 0))
              have B9 := blk_new wr (.cells #[.int .i64 d.b, .int .i64 d.e, .int .i64 d.k, .int .i64 (ce : Int), .int .i64 d.x, .int .i64 d.c, .int .i64 d.n, .bool d.ok] 27 (0, 0))
              obtain ⟨hc, hh1, hh2⟩ := HLx.out.held
              have hkd := HM.out.kinds l hlD
              rw [Hd.out.2.1] at hkd
              refine least_r8 (sb := sb) (g9 := wr.heap.size) (kb := kb) (ko := 0) (kn := kn) (kc := kc) (ce := ce) (ix := l) (dn := dn) (own := O ce) (ve := vf ce) (nm := sI (dn &&& O ce ||| 2 ^ l)) (nx := d.next (vf ce)) (ft := d.fits (vf ce)) rfl rfl rfl rfl rfl rfl (cell_at B9 3) (T9.cell (HLx.out.sr.co ce hce2) (by simp)) (T9.cell ((cell_at hh1 (0 + ce)).trans (by rw [Nat.zero_add]; exact hh2 ce hcek)) (by simp)) (by omega) (by omega) hdlt (HM.out.o_lt ce) (fun x hx => cDid ((T9.trans hx).cell HLx.out.sr.c0 (by simp)) (Nat.lt_of_lt_of_le HLx.out.sr.sl (T9.trans hx).size) hlD (Nat.lt_of_lt_of_le HDA.out.2 (T9.trans hx).size) (HDA.out.1.keep (T9.trans hx) (by simp)) hkd.1 hkd.2 (Nat.lt_of_le_of_lt Nat.and_le_left hdlt) (by omega)) ?_
              intro a2 y nb hsz hdf hoff f10 f11 ht hbn hnb
              rename_i K hK'
              refine hK' _ _ ?_
              clear hK' K
              have HLy : Hid (LO D E A O sb tb cap (some ⟨b, o, none⟩) cv kb kn v0 w os dn vf u6 y) := HLx.out.still (T9.trans ht)
              have HBk : Hid (y.heap[wr.heap.size]? = some (.cells #[.int .i64 d.b, .int .i64 d.e, .int .i64 d.k, .int .i64 (ce : Int), .int .i64 d.x, .int .i64 d.c, .int .i64 d.n, .bool d.ok] 27 (0, 0)) ∧ y.heap[nb]? = some (.cells #[.int .i64 (ce : Int), .int .i64 (sI (dn &&& O ce ||| 2 ^ l)), .int .i64 (d.next (vf ce))] 109 (0, 0)) ∧ w.heap.size ≤ wr.heap.size ∧ wr.heap.size ≤ nb) := ⟨ht.heap B9 (by simp), hbn, HLx.out.tu.size, Nat.le_trans T9.size hnb⟩
              have s0 := cell_at hbn 0
              have s1 := cell_at hbn 1
              have s2 := cell_at hbn 2
              simp at s0 s1 s2
              have hnby : nb < y.heap.size := lt_of_heap hbn
              obtain ⟨cc, hcc, hcs⟩ := expand88 (a := a2) hsz hdf
              obtain ⟨ft, hft⟩ : ∃ ft, ft = d.fits (vf ce) := ⟨_, rfl⟩
              have HFT : Hid (ft = d.fits (vf ce)) := hft
              rw [← hft] at f11
              have q0 : cc 0 = .pointer (some ⟨sb, 0, none⟩) := (hcs 0).trans (hoff 0 (by decide))
              have q1 : cc 1 = .slice (some ⟨kb, 0, none⟩) kn kc := (hcs 1).trans (hoff 1 (by decide))
              have q2 : cc 2 = undef := (hcs 2).trans (hoff 2 (by decide))
              have q3 : cc 3 = undef := (hcs 3).trans (hoff 3 (by decide))
              have q4 : cc 4 = u4 := (hcs 4).trans (hoff 4 (by decide))
              have q5 : cc 5 = u5 := (hcs 5).trans (hoff 5 (by decide))
              have q6 : cc 6 = u6 := (hcs 6).trans (hoff 6 (by decide))
              have q7 : cc 7 = .int .u64 (dn : Int) := (hcs 7).trans (hoff 7 (by decide))
              have q8 : cc 8 = .int .i64 (l : Int) := (hcs 8).trans (hoff 8 (by decide))
              have q9 : cc 9 = .pointer (some ⟨wr.heap.size, 0, none⟩) := (hcs 9).trans (hoff 9 (by decide))
              have q10 : cc 10 = .pointer (some ⟨nb, 0, none⟩) := (hcs 10).trans f10
              have q11 : cc 11 = .bool ft := (hcs 11).trans f11
              have q12 : cc 12 = .pointer (some ⟨sb, 0, none⟩) := (hcs 12).trans (hoff 12 (by decide))
              have q13 : cc 13 = .pointer (some ⟨sb, 0, none⟩) := (hcs 13).trans (hoff 13 (by decide))
              have q14 : cc 14 = .pointer (some ⟨sb, 1, none⟩) := (hcs 14).trans (hoff 14 (by decide))
              have q15 : cc 15 = .int .u64 (E : Int) := (hcs 15).trans (hoff 15 (by decide))
              have q16 : cc 16 = .int .u64 (dn : Int) := (hcs 16).trans (hoff 16 (by decide))
              have q17 : cc 17 = .int .u64 (ae : Int) := (hcs 17).trans (hoff 17 (by decide))
              have q18 : cc 18 = .bool true := (hcs 18).trans (hoff 18 (by decide))
              have q19 : cc 19 = .pointer (some ⟨sb, 0, none⟩) := (hcs 19).trans (hoff 19 (by decide))
              have q20 : cc 20 = .pointer (some ⟨sb, 0, none⟩) := (hcs 20).trans (hoff 20 (by decide))
              have q21 : cc 21 = .pointer (some ⟨sb, 0, none⟩) := (hcs 21).trans (hoff 21 (by decide))
              have q22 : cc 22 = .slice (some ⟨b, o, none⟩) n cap := (hcs 22).trans (hoff 22 (by decide))
              have q23 : cc 23 = .int .i64 (n : Int) := (hcs 23).trans (hoff 23 (by decide))
              have q24 : cc 24 = .int .i64 (l : Int) := (hcs 24).trans (hoff 24 (by decide))
              have q87 : cc 87 = undef := (hcs 87).trans (hoff 87 (by decide))
              have hmlt : dn &&& O ce ||| 2 ^ l < 18446744073709551616 := with_lt (Nat.lt_of_le_of_lt Nat.and_le_left hdlt) (by omega)
              obtain ⟨Ks, hk1, hk2⟩ := HLy.out.km
              have PE := cCanEnd HM.out HCV.out _ (dn &&& O ce ||| 2 ^ l) (Nat.le_refl _) hmlt ce (d.next (vf ce)) y Ks HLy.out.sr hk1 hk2 hce2
              have PW : ∀ z, Calls Tryd.prog 45 #[.int .u64 (dn : Int), .int .i64 (l : Int)] z fun r w' => r = .returned (.int .u64 ((dn ||| 2 ^ l : Nat) : Int)) ∧ w' = z := fun z => cWith hdlt (by omega) z
              clear hcs hoff f10 f11 hsz hdf hft ht T9 B9 hbn hnb hh1 hh2 hkd hk1 hk2 k0 k1 k2 k3 k4 k5 k6 k7 PH hB2 hAl h0 h1 hc hmlt
              subst hcc
              simp only [lit88, q0, q1, q2, q3, q4, q5, q6, q7, q8, q9, q10, q11, q12, q13, q14, q15, q16, q17, q18, q19, q20, q21, q22, q23, q24, q87]
              clear q0 q1 q2 q3 q4 q5 q6 q7 q8 q9 q10 q11 q12 q13 q14 q15 q16 q17 q18 q19 q20 q21 q22 q23 q24 q87
              cases ft with
              | false =>
                have HNx : Hid (∀ i, i < l + 1 → ¬ Cond D (bitsP dn) vf i) := fun i hi => by
                  rcases Nat.lt_succ_iff_lt_or_eq.1 hi with h1 | rfl
                  · exact HNo.out i h1
                  · intro hC
                    have := (HCI.out.1 hC).1
                    rw [← HFT.out] at this
                    cases this
                clear PE PW
                go_wp2
                go_roundw
                case rel => exact ⟨l + 1, by omega, rfl, rfl, by go_num, HNx, HLy⟩
                case measure => simp [intOf]; omega
              | true =>
                cases hcb : cv ce (dn &&& O ce ||| 2 ^ l) (d.next (vf ce)) with
                | false =>
                  have HNx : Hid (∀ i, i < l + 1 → ¬ Cond D (bitsP dn) vf i) := fun i hi => by
                    rcases Nat.lt_succ_iff_lt_or_eq.1 hi with h1 | rfl
                    · exact HNo.out i h1
                    · intro hC
                      have := (HCI.out.1 hC).2
                      rw [hcb] at this
                      cases this
                  rw [hcb] at PE
                  clear hcb PW
                  go_wp2_with (go_at_call 49; refine PE.mono ?_; rintro r y2 ⟨rfl, hE⟩; have HE : Hid _ := hE; clear hE)
                  go_roundw
                  case rel => exact ⟨l + 1, by omega, rfl, rfl, by go_num, HNx, HLy.out.ended HP.out.kt HP.out.t HE.out⟩
                  case measure => simp [intOf]; omega
                | true =>
                  have HC : Hid (Cond D (bitsP dn) vf l) := HCI.out.2 ⟨HFT.out.symm, hcb⟩
                  rw [hcb] at PE
                  clear hcb
                  have hol : os.length ≤ 64 := by
                    have := HLy.out.ol
                    have := HM.out.len
                    omega
                  have hn1 : wr.heap.size ≠ tb := by
                    have := HP.out.t
                    have := HBk.out.2.2.1
                    omega
                  have hn2 : nb ≠ tb := by
                    have := HP.out.t
                    have := HBk.out.2.2.1
                    have := HBk.out.2.2.2
                    omega
                  have HOW : Hid (∀ g, u6.ownBlock = some g → g < wr.heap.size) := fun g hg => own_lt HLx.out.row hg
                  have HOG : Hid (kb ∉ u6.ownBlock.toList) := fun hq => by
                    have := own_ge HLx.out.row (g := kb) (by simpa using hq)
                    have := HP.out.k
                    omega
                  have hcki : (ce : Int) < (kn : Int) := by omega
                  clear s0 s1 s2 hnby
                  have s0 := cell_at HBk.out.2.1 0
                  have s1 := cell_at HBk.out.2.1 1
                  have s2 := cell_at HBk.out.2.1 2
                  have hnby : nb < y.heap.size := lt_of_heap HBk.out.2.1
                  simp at s0 s1 s2
                  go_wp2_with (first
                    | (go_at_call 49; refine PE.mono ?_; rintro r y2 ⟨rfl, hE⟩; have HE : Hid _ := hE; clear hE; have HL2 : Hid _ := HLy.out.ended HP.out.kt HP.out.t HE.out)
                    | (at_builtin; refine wpList_push rfl _ _ 22 rfl w.heap.size 3 (.int .i64 0) 8 undIntsG infoIntJ rfl u6 os.length (os.map fun i : Nat => Value.int .i64 (i : Int)) rfl (HL2.out.still ((Turned.refl [] y2).alloc _)).row ⟨y2.heap.size, 0, none⟩ 1 (.int .i64 (l : Int)) rfl (by go_simp) rfl (by unfold maxLen; omega) (by omega) (by have := HL2.out.tu.size; simp; omega) ?_; intro v' y4 hr4 hG4; have D4 := blk_pushed HBk.out.1 HE.out hG4 hn1 HOW.out (Nat.le_refl _); have S4 := blk_pushed HBk.out.2.1 HE.out hG4 hn2 HOW.out HBk.out.2.2.2; obtain ⟨hc, hh1, hh2⟩ := HL2.out.held; have K4 := hG4.turned.heap (blk_old hh1 _) HOG.out; have d3 := cell_at D4 3; have t2 := cell_at S4 2; simp at d3 t2; have kk := (cell_at K4 ce).trans (hh2 ce hcek); have kz := froz_at K4 ce; have l1 := lt_of_heap D4; have l2 := lt_of_heap S4; have l3 := lt_of_heap K4; have HR4 : Hid _ := hr4; have HG4 : Hid _ := hG4; clear hr4 hG4 D4 S4 K4 hh1 hh2 hc)
                    | (go_at_call 45; refine (PW _).mono ?_; rintro r xz ⟨rfl, ez⟩; rw [ez]; clear ez xz))
                  refine ⟨⟨os ++ [l], dn ||| 2 ^ l, stepV D vf l, rfl, ?_⟩, ?_⟩
                  · have := (HL2.out.still ((Turned.refl [] y2).alloc _)).next HP.out (fun i hi => (HR.out i hi).1) HM.out.len HN.out hlD (by rw [Hd.out.2.1]; exact Hd.out.2.2) HC.out HNo.out HG4.out HR4.out
                    rw [Hd.out.2.1] at this
                    exact this
                  · have h1 := outN_upd (S := bitsP dn) hlD HTB.out
                    rw [bitsP_upd] at h1
                    exact h1
            · have HNx : Hid (∀ i, i < l + 1 → ¬ Cond D (bitsP dn) vf i) := HNn2.out (.inr han)
              generalize anN (A l) dn = an at *
              have han2 : ((an : Int) != 0) = true := by simpa using han
              clear HNn2 han
              go_wp2_with (go_at_call 47; refine (PH _).mono ?_; rintro r xz ⟨rfl, ez⟩; rw [ez]; clear ez xz)
              go_roundw
              case rel => exact ⟨l + 1, by omega, rfl, rfl, by go_num, HNx, HLx.out.still ((Turned.refl [] wr).alloc _)⟩
              case measure => simp [intOf]; omega
        · have e : l = n := by omega
          subst e
          have HC : Hid (¬ Can D (bitsP 0) v0) := HLx.out.ls.none HN.out (fun j hj => HNo.out j (by rw [HNn.out]; exact hj))
          go_wp2
          go_ret2
          exact ⟨HLx.out.tu, .inr ⟨rfl, HC.out⟩⟩
end
end Go.Proofs.YtbielnehggcaoaaDoor

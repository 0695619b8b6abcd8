/-
  known by contract. (By the verifier; no statement.)
-/
import Derived.Test.YtbielnehggcaoaaDoorL21
namespace Go.Proofs.YtbielnehggcaoaaDoor
open Go.RowKit
theorem blk_newC (W : World) (A B C : Obj) : (((W.alloc A).alloc B).alloc C).heap[W.heap.size + 1 + 1]? = some C := by
  have h := blk_new ((W.alloc A).alloc B) C
  have e : ((W.alloc A).alloc B).heap.size = W.heap.size + 1 + 1 := by show ((W.heap.push A).push B).size = _; simp
  rw [e] at h
  exact h
theorem blk_newD (W : World) (A B C D : Obj) : ((((W.alloc A).alloc B).alloc C).alloc D).heap[W.heap.size + 1 + 1 + 1]? = some D := by
  have h := blk_new (((W.alloc A).alloc B).alloc C) D
  have e : (((W.alloc A).alloc B).alloc C).heap.size = W.heap.size + 1 + 1 + 1 := by show (((W.heap.push A).push B).push C).size = _; simp
  rw [e] at h
  exact h
theorem blk_newE (W : World) (A B C D E : Obj) : (((((W.alloc A).alloc B).alloc C).alloc D).alloc E).heap[W.heap.size + 1 + 1 + 1 + 1]? = some E := by
  have h := blk_new ((((W.alloc A).alloc B).alloc C).alloc D) E
  have e : ((((W.alloc A).alloc B).alloc C).alloc D).heap.size = W.heap.size + 1 + 1 + 1 + 1 := by show ((((W.heap.push A).push B).push C).push D).size = _; simp
  rw [e] at h
  exact h
theorem kOrdS {x : World} {g1 g2 c1 c2 : Nat} {D : List Dd} {os : List Nat} {n : Nat} {T1 T2 : TypeId} (h1 : x.heap[g1]? = some (.cells #[.int .i64 0] T1 (0, 0))) (h2 : x.heap[g2]? = some (.cells (D.flatMap dcs).toArray T2 (0, 0))) (hT : Tab x) (hD : D.length = n) (hn : n ≤ 1000) (h0 : chkD 1 D = 0) (hd : dfs D n (bitsP 0) (v0F [0]) = some os) :
    Calls Tryd.prog 11 #[.slice (some ⟨g1, 0, none⟩) 1 c1, .slice (some ⟨g2, 0, none⟩) n c2] x fun r x' => Turned [] x x' ∧ ∃ v, r = .returned (.tuple #[v, .bool true, .int .i64 0]) ∧ IR x.heap.size x' v (ints os) := by
  subst hD
  refine (kOrder (F := [0]) (c1 := c1) (c2 := c2) h1 h2 hT hn h0).mono ?_
  rintro r x' ⟨ht, ⟨os', v, e1, e2, e3⟩ | ⟨e1, _⟩⟩
  · rw [hd] at e1
    cases e1
    exact ⟨ht, v, e2, e3⟩
  · rw [hd] at e1
    cases e1
theorem kOrdN {x : World} {g1 g2 c1 c2 : Nat} {D : List Dd} {n : Nat} {T1 T2 : TypeId} (h1 : x.heap[g1]? = some (.cells #[.int .i64 0] T1 (0, 0))) (h2 : x.heap[g2]? = some (.cells (D.flatMap dcs).toArray T2 (0, 0))) (hT : Tab x) (hD : D.length = n) (hn : n ≤ 1000) (h0 : chkD 1 D = 0) (hd : dfs D n (bitsP 0) (v0F [0]) = none) :
    Calls Tryd.prog 11 #[.slice (some ⟨g1, 0, none⟩) 1 c1, .slice (some ⟨g2, 0, none⟩) n c2] x fun r x' => Turned [] x x' ∧ r = .returned (.tuple #[.slice none 0 0, .bool false, .int .i64 0]) := by
  subst hD
  refine (kOrder (F := [0]) (c1 := c1) (c2 := c2) h1 h2 hT hn h0).mono ?_
  rintro r x' ⟨ht, ⟨os', v, e1, e2, e3⟩ | ⟨_, e2⟩⟩
  · rw [hd] at e1
    cases e1
  · exact ⟨ht, e2⟩
abbrev kA : Obj := .cells #[.int .i64 1, .int .i64 4, .int .i64 2, .int .i64 0, .int .i64 1, .int .i64 0, .int .i64 0, .bool false] 27 (0, 0)
theorem cells8 {x : World} {g : Nat} {a b c d e f i : Int} {o : Bool} {T : TypeId} (h : x.heap[g]? = some (.cells #[.int .i64 a, .int .i64 b, .int .i64 c, .int .i64 d, .int .i64 e, .int .i64 f, .int .i64 i, .bool o] T (0, 0))) : g < x.heap.size ∧ x.cell? ⟨g, 0, none⟩ = some (.int .i64 a) ∧ x.cell? ⟨g, 1, none⟩ = some (.int .i64 b) ∧ x.cell? ⟨g, 2, none⟩ = some (.int .i64 c) ∧ x.cell? ⟨g, 3, none⟩ = some (.int .i64 d) ∧ x.cell? ⟨g, 4, none⟩ = some (.int .i64 e) ∧ x.cell? ⟨g, 5, none⟩ = some (.int .i64 f) ∧ x.cell? ⟨g, 6, none⟩ = some (.int .i64 i) ∧ x.cell? ⟨g, 7, none⟩ = some (.bool o) :=
  ⟨lt_of_heap h, by rw [cell_at h]; rfl, by rw [cell_at h]; rfl, by rw [cell_at h]; rfl, by rw [cell_at h]; rfl, by rw [cell_at h]; rfl, by rw [cell_at h]; rfl, by rw [cell_at h]; rfl, by rw [cell_at h]; rfl⟩
abbrev kObjW : Obj := .cells #[.int .i64 0, .int .i64 1, .int .i64 4, .int .i64 2, .int .i64 0, .int .i64 5, .int .i64 2, .bool true, .int .i64 50, .bool true, .int .i64 51, .slice none 0 0, .slice none 0 0] 52 (0, 0)
abbrev kObjR (b e n : Int) : Obj := .cells #[.int .i64 0, .int .i64 b, .int .i64 e, .int .i64 1, .int .i64 0, .int .i64 5, .int .i64 n, .bool true, .int .i64 50, .bool false, .int .i64 0, .slice none 0 0, .slice none 0 0] 52 (0, 0)
theorem cells13 {x : World} {g : Nat} {a0 a1 a2 a3 a4 a5 a6 a7 a8 a9 a10 a11 a12 : Value} {T : TypeId} (h : x.heap[g]? = some (.cells #[a0, a1, a2, a3, a4, a5, a6, a7, a8, a9, a10, a11, a12] T (0, 0))) : g < x.heap.size ∧ x.cell? ⟨g, 0, none⟩ = some a0 ∧ x.cell? ⟨g, 1, none⟩ = some a1 ∧ x.cell? ⟨g, 2, none⟩ = some a2 ∧ x.cell? ⟨g, 3, none⟩ = some a3 ∧ x.cell? ⟨g, 4, none⟩ = some a4 ∧ x.cell? ⟨g, 5, none⟩ = some a5 ∧ x.cell? ⟨g, 6, none⟩ = some a6 ∧ x.cell? ⟨g, 7, none⟩ = some a7 ∧ x.cell? ⟨g, 8, none⟩ = some a8 ∧ x.cell? ⟨g, 9, none⟩ = some a9 ∧ x.cell? ⟨g, 10, none⟩ = some a10 ∧ x.cell? ⟨g, 11, none⟩ = some a11 ∧ x.cell? ⟨g, 12, none⟩ = some a12 :=
  ⟨lt_of_heap h, by rw [cell_at h]; rfl, by rw [cell_at h]; rfl, by rw [cell_at h]; rfl, by rw [cell_at h]; rfl, by rw [cell_at h]; rfl, by rw [cell_at h]; rfl, by rw [cell_at h]; rfl, by rw [cell_at h]; rfl, by rw [cell_at h]; rfl, by rw [cell_at h]; rfl, by rw [cell_at h]; rfl, by rw [cell_at h]; rfl, by rw [cell_at h]; rfl⟩
/-- A read's event is changed; the other blocks stay. -/
theorem blk_put {x : World} {g : Nat} {cs : Array Value} {T : TypeId} (h : x.heap[g]? = some (.cells cs T (0, 0))) (i : Nat) (v : Value) : (x.setCell ⟨g, i, none⟩ v).heap[g]? = some (.cells (cs.setIfInBounds i v) T (0, 0)) ∧ Turned [g] x (x.setCell ⟨g, i, none⟩ v) := ⟨blk_set h i v, (Turned.refl [g] x).set (by simp) i v⟩
theorem blk_newS {x x' : World} (h : x'.heap.size = x.heap.size) (o : Obj) : (x'.alloc o).heap[x.heap.size]? = some o := by rw [← h]; exact blk_new x' o
theorem size_set (x : World) (a : Addr) (v : Value) : (x.setCell a v).heap.size = x.heap.size := by simp [World.setCell]
theorem bw_block {x : World} {g c : Nat} {a b d : Int} {T : TypeId} (h : x.heap[g]? = some (.cells #[.int .i64 a, .int .i64 b, .int .i64 d] T (0, 0))) : BW x (.slice (some ⟨g, 0, none⟩) 1 c) [(a, b, d)] := ⟨_, c, rfl, fun i hi => by
  have : i = 0 := by simpa using hi
  subst this
  exact ⟨g, 0, rfl, by rw [cell_at h]; rfl, by rw [cell_at h]; rfl, by rw [cell_at h]; rfl⟩⟩
theorem BR.one {B : Nat} {w : World} {v : Value} {x : Bm} (h : BR B w v [x]) : ∃ g c, v = .slice (some ⟨g, 0, none⟩) 1 c := by
  rcases h.form with ⟨_, e⟩ | ⟨g, c, e⟩
  · cases e
  · exact ⟨g, c, e⟩
theorem BR.apart {B : Nat} {w w' : World} {v : Value} {R : List Bm} {rb : Nat} {cs : Array Value} (h : BR B w v R) (hr : w.heap[rb]? = some (.cells cs 52 (0, 0))) (ht : Turned [rb] w w') : BR B w' v R := h.keep ht fun g hg => by
  obtain ⟨c2, h2⟩ := h.type hg
  simpa using tyne h2 hr (by decide)
set_option maxRecDepth 100000 in
set_option maxHeartbeats 12800000 in
theorem known2 {a : Act} {x5 : World} (hs : a.tmps.size = 147) (hd : a.defers = []) {Q : Exit → Act → World → Prop} (hQ : ∀ a' w', a'.defers = [] → a'.eval (.tmp 0) = .bool true → Turned [] x5 w' → Q .ret a' w') : (atc Tryd.f9.body [1, 1, 1, 1, 1, 1]).wp Tryd.prog Q a x5 := by
  obtain ⟨cc, hcc, hce⟩ := expand147 hs hd
  clear hce hs hd
  subst hcc
  have HQ : Hid (∀ a' w', a'.defers = [] → a'.eval (.tmp 0) = .bool true → Turned [] x5 w' → Q .ret a' w') := hQ
  clear hQ
  conv => arg 2; whnf
  unfold lit147
  go_wp2_with (fail)
  have hp0 := fun A B C D => blk_old (blk_old (blk_old (blk_old (blk_new x5 (.cells #[.int .i64 5, .int .i64 50] 67 (0, 0))) A) B) C) D
  have hp1 := fun B C D => blk_old (blk_old (blk_old (blk_new2 x5 (.cells #[.int .i64 5, .int .i64 50] 67 (0, 0)) (.cells #[.slice (some ⟨x5.heap.size, 0, none⟩) 1 1] 41 (0, 0))) B) C) D
  refine (kVers (y := kR 2 3 1) (hp1 _ _ _) (hp0 _ _ _ _) (blk_newE x5 _ _ _ _ _) ⟨rfl, rfl⟩ kv1 (by decide)).mono ?_
  rintro r x6 ⟨t6, v6, rfl, b6⟩
  have HP6 : Hid _ := t6.heap (hp0 _ _ _ _) (by simp)
  have HS6 : Hid _ := t6.heap (hp1 _ _ _) (by simp)
  have HW6 : Hid _ := t6.heap (blk_old (blk_old (blk_newC x5 _ _ kObjW) (kObjR 2 3 1)) _) (by simp)
  have HR6 : Hid _ := t6.heap (blk_old (blk_newD x5 _ _ kObjW (kObjR 2 3 1)) _) (by simp)
  have HT6 : Hid (Turned [] x5 x6) := ((((((Turned.refl [] x5).alloc _).alloc _).alloc _).alloc _).alloc _).trans t6
  have e6 : ∃ a c, v6 = .slice a 0 c := by
    rcases b6.form with ⟨e, _⟩ | ⟨g, c, e⟩
    · exact ⟨_, _, e⟩
    · exact ⟨_, _, e⟩
  obtain ⟨a6, c6, rfl⟩ := e6
  clear t6 b6 hp0 hp1
  have HO : Hid (x5.heap.size ≠ x5.heap.size + 1 + 1 + 1 ∧ x5.heap.size + 1 ≠ x5.heap.size + 1 + 1 + 1 ∧ x5.heap.size + 1 + 1 ≠ x5.heap.size + 1 + 1 + 1 ∧ x5.heap.size ≤ x5.heap.size + 1 + 1 + 1) := ⟨by omega, by omega, by omega, by omega⟩
  generalize hz : x5.heap.size + 1 + 1 + 1 = rb at HR6 HO ⊢
  generalize hy : x5.heap.size + 1 + 1 = wb at HW6 HO ⊢
  generalize hx : x5.heap.size + 1 = g at HS6 HO ⊢
  have HP : Hid (x6.heap[x5.heap.size]? = some (.cells #[.int .i64 5, .int .i64 50] 67 (0, 0))) := HP6.out
  have HS : Hid (x6.heap[g]? = some (.cells #[.slice (some ⟨x5.heap.size, 0, none⟩) 1 1] 41 (0, 0))) := HS6.out
  clear hz hy hx HP6 HS6
  obtain ⟨n1, n2, n3, n4⟩ := HO.out
  obtain ⟨wl, w0, w1, w2, w3, w4, w5, w6, w7, w8, w9, w10, w11, w12⟩ := cells13 HW6.out
  obtain ⟨rl, r0, r1, r2, r3, r4, r5, r6, r7, r8, r9, r10, r11, r12⟩ := cells13 HR6.out
  have f1 := froz_at HR6.out 1
  have f2 := froz_at HR6.out 2
  have n5 := Ne.symm n3
  go_wp2_with (fail)
  clear wl w0 w1 w2 w3 w4 w5 w6 w7 w8 w9 w10 w11 w12 rl r0 r1 r2 r3 r4 r5 r6 r7 r8 r9 r10 r11 r12 f1 f2
  have tX : Turned [rb] x6 ((x6.setCell ⟨rb, 1, none⟩ (.int .i64 5)).setCell ⟨rb, 2, none⟩ (.int .i64 6)) := (((Turned.refl [rb] x6).set (by simp) 1 (.int .i64 5)).set (by simp) 2 (.int .i64 6))
  have sX : ((x6.setCell ⟨rb, 1, none⟩ (.int .i64 5)).setCell ⟨rb, 2, none⟩ (.int .i64 6)).heap.size = x6.heap.size := by simp [World.setCell]
  have hP := tX.heap HP.out (by simpa using n1)
  have hS := tX.heap HS.out (by simpa using n2)
  have hW := tX.heap HW6.out (by simpa using n3)
  have hR : ((x6.setCell ⟨rb, 1, none⟩ (.int .i64 5)).setCell ⟨rb, 2, none⟩ (.int .i64 6)).heap[rb]? = some (kObjR 5 6 1) := (blk_set (blk_set HR6.out 1 (.int .i64 5)) 2 (.int .i64 6))
  refine (kVers (y := kR 5 6 1) (blk_old hS _) (blk_old hP _) (blk_newS sX _) ⟨rfl, rfl⟩ kv2 (by decide)).mono ?_
  rintro r x7 ⟨t7, v7, rfl, b7⟩
  have hP2 := t7.heap (blk_old hP _) (by simp)
  have hS2 := t7.heap (blk_old hS _) (by simp)
  have HW7 : Hid (x7.heap[wb]? = some kObjW) := t7.heap (blk_old hW _) (by simp)
  have HR7 : Hid (x7.heap[rb]? = some (kObjR 5 6 1)) := t7.heap (blk_old hR _) (by simp)
  have HT7 : Hid (Turned [] x5 x7) := ((HT6.out.inner tX (by simp; exact n4)).alloc _).trans t7
  clear HP HS
  have HP : Hid _ := hP2
  have HS : Hid _ := hS2
  obtain ⟨g7, c7, rfl⟩ := b7.one
  have HB7 : Hid _ := b7
  clear tX sX hP hS hW hR hP2 hS2 t7 b7 HW6 HR6 HT6
  obtain ⟨wl, w0, w1, w2, w3, w4, w5, w6, w7, w8, w9, w10, w11, w12⟩ := cells13 HW7.out
  obtain ⟨rl, r0, r1, r2, r3, r4, r5, r6, r7, r8, r9, r10, r11, r12⟩ := cells13 HR7.out
  have f6 := froz_at HR7.out 6
  go_wp2_with (fail)
  clear wl w0 w1 w2 w3 w4 w5 w6 w7 w8 w9 w10 w11 w12 rl r0 r1 r2 r3 r4 r5 r6 r7 r8 r9 r10 r11 r12 f6
  have tX : Turned [rb] x7 (x7.setCell ⟨rb, 6, none⟩ (.int .i64 2)) := ((Turned.refl [rb] x7).set (by simp) 6 (.int .i64 2))
  have sX : (x7.setCell ⟨rb, 6, none⟩ (.int .i64 2)).heap.size = x7.heap.size := by simp [World.setCell]
  have hP := tX.heap HP.out (by simpa using n1)
  have hS := tX.heap HS.out (by simpa using n2)
  have hW := tX.heap HW7.out (by simpa using n3)
  have hR : (x7.setCell ⟨rb, 6, none⟩ (.int .i64 2)).heap[rb]? = some (kObjR 5 6 2) := (blk_set HR7.out 6 (.int .i64 2))
  refine (kVers (y := kR 5 6 2) (blk_old hS _) (blk_old hP _) (blk_newS sX _) ⟨rfl, rfl⟩ kv3 (by decide)).mono ?_
  rintro r x8 ⟨t8, v8, rfl, b8⟩
  have hP2 := t8.heap (blk_old hP _) (by simp)
  have hS2 := t8.heap (blk_old hS _) (by simp)
  have HW8 : Hid (x8.heap[wb]? = some kObjW) := t8.heap (blk_old hW _) (by simp)
  have HR8 : Hid (x8.heap[rb]? = some (kObjR 5 6 2)) := t8.heap (blk_old hR _) (by simp)
  have HT8 : Hid (Turned [] x5 x8) := ((HT7.out.inner tX (by simp; exact n4)).alloc _).trans t8
  have hb7 := ((HB7.out.apart HR7.out tX).still ((Turned.refl [] _).alloc _)).still t8
  clear HB7
  have HB7 : Hid _ := hb7
  clear hb7
  clear HP HS
  have HP : Hid _ := hP2
  have HS : Hid _ := hS2
  obtain ⟨g8, c8, rfl⟩ := b8.one
  have HB8 : Hid _ := b8
  clear tX sX hP hS hW hR hP2 hS2 t8 b8 HW7 HR7 HT7
  obtain ⟨wl, w0, w1, w2, w3, w4, w5, w6, w7, w8, w9, w10, w11, w12⟩ := cells13 HW8.out
  obtain ⟨rl, r0, r1, r2, r3, r4, r5, r6, r7, r8, r9, r10, r11, r12⟩ := cells13 HR8.out
  have f6 := froz_at HR8.out 6
  go_wp2_with (fail)
  clear wl w0 w1 w2 w3 w4 w5 w6 w7 w8 w9 w10 w11 w12 rl r0 r1 r2 r3 r4 r5 r6 r7 r8 r9 r10 r11 r12 f6
  have tX : Turned [rb] x8 (x8.setCell ⟨rb, 6, none⟩ (.int .i64 3)) := ((Turned.refl [rb] x8).set (by simp) 6 (.int .i64 3))
  have sX : (x8.setCell ⟨rb, 6, none⟩ (.int .i64 3)).heap.size = x8.heap.size := by simp [World.setCell]
  have hP := tX.heap HP.out (by simpa using n1)
  have hS := tX.heap HS.out (by simpa using n2)
  have hW := tX.heap HW8.out (by simpa using n3)
  have hR : (x8.setCell ⟨rb, 6, none⟩ (.int .i64 3)).heap[rb]? = some (kObjR 5 6 3) := (blk_set HR8.out 6 (.int .i64 3))
  refine (kVers (y := kR 5 6 3) (blk_old hS _) (blk_old hP _) (blk_newS sX _) ⟨rfl, rfl⟩ kv4 (by decide)).mono ?_
  rintro r x9 ⟨t9, v9, rfl, b9⟩
  have hP2 := t9.heap (blk_old hP _) (by simp)
  have hS2 := t9.heap (blk_old hS _) (by simp)
  have HW9 : Hid (x9.heap[wb]? = some kObjW) := t9.heap (blk_old hW _) (by simp)
  have HR9 : Hid (x9.heap[rb]? = some (kObjR 5 6 3)) := t9.heap (blk_old hR _) (by simp)
  have HT9 : Hid (Turned [] x5 x9) := ((HT8.out.inner tX (by simp; exact n4)).alloc _).trans t9
  have hb7 := ((HB7.out.apart HR8.out tX).still ((Turned.refl [] _).alloc _)).still t9
  clear HB7
  have HB7 : Hid _ := hb7
  clear hb7
  have hb8 := ((HB8.out.apart HR8.out tX).still ((Turned.refl [] _).alloc _)).still t9
  clear HB8
  have HB8 : Hid _ := hb8
  clear hb8
  clear HP HS
  have HP : Hid _ := hP2
  have HS : Hid _ := hS2
  obtain ⟨g9, c9, rfl⟩ := b9.one
  have HB9 : Hid _ := b9
  clear tX sX hP hS hW hR hP2 hS2 t9 b9 HW8 HR8 HT8
  go_wp2_with (fail)
  refine (cSameB (HB7.out.view.still ((Turned.refl [] x9).alloc _)) (bw_block (blk_new x9 _)) (by simp)).mono ?_
  rintro r y1 ⟨rfl, q1, e1⟩
  have HU1 : Hid (Turned [] x9 y1) := by rw [e1]; exact ((Turned.refl [] x9).alloc _).drewN q1
  clear e1
  go_wp2_with (fail)
  refine (cSameB ((HB8.out.view.still HU1.out).still ((Turned.refl [] y1).alloc _)) (bw_block (blk_new y1 _)) (by simp)).mono ?_
  rintro r y2 ⟨rfl, q2, e2⟩
  have HU2 : Hid (Turned [] x9 y2) := by rw [e2]; exact (HU1.out.alloc _).drewN q2
  clear e2
  go_wp2_with (fail)
  refine (cSameB ((HB9.out.view.still HU2.out).still ((Turned.refl [] y2).alloc _)) (bw_block (blk_new y2 _)) (by simp)).mono ?_
  rintro r y3 ⟨rfl, q3, e3⟩
  have HU3 : Hid (Turned [] x5 y3) := by rw [e3]; exact ((HT9.out.trans HU2.out).alloc _).drewN q3
  clear e3
  go_wp2
  exact HQ.out _ _ rfl rfl HU3.out
end Go.Proofs.YtbielnehggcaoaaDoor
/-
  known by contract. (By the verifier; no statement.)
-/
namespace Go.Proofs.YtbielnehggcaoaaDoor
open Go.RowKit
set_option maxRecDepth 100000 in
set_option maxHeartbeats 6400000 in
theorem cKnown {w : World} (hT : Tab w) : Calls Tryd.prog 9 #[] w fun r w' => r = .returned (.bool true) ∧ Turned [] w w' := by
  have HTab : Hid (Tab w) := hT
  clear hT
  go_enter Tryd.func9, Tryd.ntmps9
  refine wp_seq_k fun K0 hK0 => ?_
  have HK0 : Hid _ := hK0
  clear hK0
  go_wp2
  refine HK0.out _ _ ?_
  clear HK0 K0
  refine wp_seq_k fun K1 hK1 => ?_
  have HK1 : Hid _ := hK1
  clear hK1
  go_wp2
  refine HK1.out _ _ ?_
  clear HK1 K1
  refine wp_seq_k fun K2 hK2 => ?_
  have HK2 : Hid _ := hK2
  clear hK2
  go_wp2_with (fail)
  refine (kOrdS (D := kD1) (blk_old (blk_new2 w _ _) _) (blk_newC w _ _ _) (HTab.out.keep ((((Turned.refl [] w).alloc _).alloc _).alloc _) (by simp)) rfl (by decide) kc1 kd1).mono ?_
  rintro r x1 ⟨t1, v1, rfl, i1⟩
  have HT1 : Hid (Turned [] w x1) := ((((Turned.refl [] w).alloc _).alloc _).alloc _).trans t1
  have HA1 : Hid (x1.heap[w.heap.size]? = some kA) := t1.heap (blk_old (blk_old (blk_new w _) _) _) (by simp)
  obtain ⟨g1, c1, rfl⟩ := i1.at_ (by simp)
  have HI1 : Hid (IV x1 (.slice (some ⟨g1, 0, none⟩) 2 c1) [1, 0]) := i1.view
  clear t1 i1
  generalize w.heap.size = sa at HA1 ⊢
  obtain ⟨al, a0, a1, a2, a3, a4, a5, a6, a7⟩ := cells8 HA1.out
  go_wp2_with (fail)
  refine HK2.out _ _ ?_
  clear HK2 K2
  refine wp_seq_k fun K3 hK3 => ?_
  have HK3 : Hid _ := hK3
  clear hK3
  go_wp2_with (fail)
  clear al a0 a1 a2 a3 a4 a5 a6 a7
  refine (kOrdN (D := kD2) (blk_old (blk_new x1 _) _) (blk_new2 x1 _ _) (HTab.out.keep ((HT1.out.alloc _).alloc _) (by simp)) rfl (by decide) kc2 kd2).mono ?_
  rintro r x2 ⟨t2, rfl⟩
  have HT2 : Hid (Turned [] x1 x2) := (((Turned.refl [] x1).alloc _).alloc _).trans t2
  clear t2
  go_wp2_with (fail)
  refine HK3.out _ _ ?_
  clear HK3 K3
  refine wp_seq_k fun K4 hK4 => ?_
  have HK4 : Hid _ := hK4
  clear hK4
  go_wp2_with (fail)
  refine (kOrdS (D := kD3) (blk_old (blk_new x2 _) _) (blk_new2 x2 _ _) (HTab.out.keep (((HT1.out.trans HT2.out).alloc _).alloc _) (by simp)) rfl (by decide) kc3 kd3).mono ?_
  rintro r x3 ⟨t3, v3, rfl, i3⟩
  have HT3 : Hid (Turned [] x1 x3) := (HT2.out.alloc _).alloc _ |>.trans t3
  obtain ⟨g3, c3, rfl⟩ := i3.at_ (by simp)
  have HI3 : Hid (IV x3 (.slice (some ⟨g3, 0, none⟩) 2 c3) [0, 2]) := i3.view
  have HJ1 : Hid (IV x3 (.slice (some ⟨g1, 0, none⟩) 2 c1) [1, 0]) := HI1.out.still HT3.out
  have HU3 : Hid (Turned [] w x3) := HT1.out.trans HT3.out
  clear t3 i3 HI1 HT2 HT3 HT1 HA1
  go_wp2_with (fail)
  refine HK4.out _ _ ?_
  clear HK4 K4
  refine wp_seq_k fun K5 hK5 => ?_
  have HK5 : Hid _ := hK5
  clear hK5
  go_wp2_with (fail)
  refine (cSameI (HJ1.out.still ((Turned.refl [] x3).alloc _)) (iv_block (l := [1, 0]) (blk_new x3 _) 2) (by simp)).mono ?_
  rintro r x4 ⟨rfl, n4, e4⟩
  have HT4 : Hid (Turned [] x3 x4) := by rw [e4]; exact ((Turned.refl [] x3).alloc _).drewN n4
  clear e4
  go_wp2_with (fail)
  refine (cSameI ((HI3.out.still HT4.out).still ((Turned.refl [] x4).alloc _)) (iv_block (l := [0, 2]) (blk_new x4 _) 2) (by simp)).mono ?_
  rintro r x5 ⟨rfl, n5, e5⟩
  have HU5 : Hid (Turned [] w x5) := by rw [e5]; exact ((HU3.out.trans HT4.out).alloc _).drewN n5
  clear e5 HT4 HU3 HI3 HJ1
  go_wp2_with (fail)
  refine HK5.out _ _ ?_
  clear HK5 K5
  refine known2 rfl rfl ?_
  intro a' w' hd h0 ht
  exact bodyPost_ret (results_tmp rfl _ _ _) hd ⟨congrArg Ending.returned h0, HU5.out.trans ht⟩
end Go.Proofs.YtbielnehggcaoaaDoor
/-
  Two rows of blames in their order are one; histories stay. (By the verifier; no statement.)
-/
namespace Go.Proofs.YtbielnehggcaoaaDoor
open Go.RowKit
theorem ltBm_tri {x y : Bm} (h1 : ¬ ltBm y x) (h2 : ¬ ltBm x y) : x = y := by
  obtain ⟨a, b, c⟩ := x
  obtain ⟨d, e, f⟩ := y
  unfold ltBm at h1 h2
  simp only [Prod.mk.injEq] at *
  omega
theorem sorted_one : ∀ {l1 l2 : List Bm}, l1.Perm l2 → l1.Pairwise (fun x y => ¬ ltBm y x) → l2.Pairwise (fun x y => ¬ ltBm y x) → l1 = l2
  | [], l2, h, _, _ => (List.nil_perm.1 h).symm
  | a :: l1, [], h, _, _ => absurd (List.perm_nil.1 h) (by simp)
  | a :: l1, b :: l2, h, h1, h2 => by
    have hab : a = b := by
      have ha : a ∈ b :: l2 := h.mem_iff.1 List.mem_cons_self
      have hb : b ∈ a :: l1 := h.mem_iff.2 List.mem_cons_self
      rcases List.mem_cons.1 ha with e | ha
      · exact e
      rcases List.mem_cons.1 hb with e | hb
      · exact e.symm
      exact ltBm_tri ((List.pairwise_cons.1 h1).1 b hb) ((List.pairwise_cons.1 h2).1 a ha)
    subst hab
    rw [sorted_one (List.perm_cons a |>.1 h) (List.pairwise_cons.1 h1).2 (List.pairwise_cons.1 h2).2]
theorem EsAt.still {w w' : World} {ev : Value} {D : List Ev} (h : EsAt w ev D) (ht : Turned [] w w') : EsAt w' ev D := by
  obtain ⟨a, c, e, hc⟩ := h.ex
  have hb : Below w.heap.size w w' := ht.below (Below.refl _ _) (by simp) (Nat.le_refl _)
  refine ⟨h.len, a, c, e, fun i d hd => ?_⟩
  obtain ⟨b, o, ea, hE⟩ := hc i d hd
  exact ⟨b, o, ea, hE.below hb rfl⟩
theorem PW.still {w w' : World} {v : Value} {l : List (Int × Int)} (h : PW w v l) (ht : Turned [] w w') : PW w' v l := by
  obtain ⟨a, c, e, hc⟩ := h.ex
  refine ⟨h.len, a, c, e, fun hne => ?_⟩
  obtain ⟨b, o, ea, hk⟩ := hc hne
  exact ⟨b, o, ea, fun i hi => ⟨ht.cell (hk i hi).1 (by simp), ht.cell (hk i hi).2 (by simp)⟩⟩
theorem SsAt.still {w w' : World} {sv : Value} {S : List (List (Int × Int))} (h : SsAt w sv S) (ht : Turned [] w w') : SsAt w' sv S := by
  obtain ⟨a, c, e, hc⟩ := h.ex
  refine ⟨a, c, e, fun i l hl => ?_⟩
  obtain ⟨b, o, v, ea, h1, h2⟩ := hc i l hl
  exact ⟨b, o, v, ea, ht.cell h1 (by simp), h2.still ht⟩
theorem EsAt.take {w : World} {a : Option Addr} {c : Nat} {D : List Ev} (h : EsAt w (.slice a D.length c) D) {n : Nat} (hn : n ≤ D.length) : EsAt w (.slice a n c) (D.take n) := by
  obtain ⟨a', c', e, hc⟩ := h.ex
  cases e
  have hl : (D.take n).length = n := by rw [List.length_take]; omega
  refine ⟨by rw [hl]; have := h.len; omega, a, c, by rw [hl], fun i d hd => hc i d ?_⟩
  have hi : i < n := by have := (List.getElem?_eq_some_iff.1 hd).1; omega
  rw [List.getElem?_take_of_lt hi] at hd
  exact hd
set_option maxRecDepth 100000 in
set_option maxHeartbeats 1600000 in
/-- A history that is too great, or without parts. -/
theorem cVersMany {w : World} {sa ea : Option Addr} {sl sc el ec : Nat} (h : manyB sl el = true) : Calls Tryd.prog 22 #[.slice sa sl sc, .slice ea el ec] w fun r w' => r = .returned (.tuple #[.slice none 0 0, .int .i64 201]) ∧ w' = w := by
  unfold manyB at h
  simp only [Bool.or_eq_true, decide_eq_true_eq] at h
  by_cases g1 : 1024 < el
  · have d1 : decide ((1024 : Int) < (el : Int)) = true := decide_eq_true (by omega)
    clear h g1
    go_enter Tryd.func22, Tryd.ntmps22
    go_wp2
    go_ret2
    exact ⟨rfl, rfl⟩
  have d1 : decide ((1024 : Int) < (el : Int)) = false := decide_eq_false (by omega)
  by_cases g2 : sl = 0
  · subst g2
    clear h g1
    go_enter Tryd.func22, Tryd.ntmps22
    go_wp2
    go_ret2
    exact ⟨rfl, rfl⟩
  · have d2 : ((sl : Int) == 0) = false := by simpa using g2
    have d3 : decide ((64 : Int) < (sl : Int)) = true := decide_eq_true (by omega)
    clear h g1 g2
    go_enter Tryd.func22, Tryd.ntmps22
    go_wp2
    go_ret2
    exact ⟨rfl, rfl⟩
end Go.Proofs.YtbielnehggcaoaaDoor
/-
  An insertion sort by With and Why. (By the verifier; no statement, no memory.)
-/
namespace Go.Proofs.YtbielnehggcaoaaDoor
open Go.RowKit
/-- By With and Why. -/
def ltWy (x y : Bm) : Prop := x.2.1 < y.2.1 ∨ (x.2.1 = y.2.1 ∧ x.2.2 < y.2.2)
theorem ltWy_trans' {x y z : Bm} (h1 : ¬ ltWy y x) (h2 : ¬ ltWy z y) : ¬ ltWy z x := by
  unfold ltWy at *
  omega
theorem ltWy_asymm {x y : Bm} (h : ltWy x y) : ¬ ltWy y x := by
  unfold ltWy at *
  omega
abbrev leWy (x y : Bm) : Prop := ¬ ltWy y x
/-- In the midst of the insertion: what stands, what is laid, what has given way. -/
structure Ins (O0 : List Bm) (f i k : Nat) (O : List Bm) : Prop where
  len : O.length = O0.length
  ik : f ≤ k ∧ k ≤ i ∧ i < O0.length
  ex : ∃ (A : List Bm) (z : Bm) (C R : List Bm), O = O0.take f ++ (A ++ (z :: C) ++ R) ∧ A.length = k - f ∧ C.length = i - k ∧ R = O0.drop (i + 1) ∧ (A ++ C).Pairwise leWy ∧ (∀ c, c ∈ C → ltWy z c) ∧ (A ++ (z :: C) ++ R).Perm (O0.drop f)
/-- Behind i rounds. -/
structure Srt (O0 : List Bm) (f i : Nat) (O : List Bm) : Prop where
  len : O.length = O0.length
  ex : ∃ A : List Bm, O = O0.take f ++ (A ++ O0.drop i) ∧ A.Pairwise leWy ∧ A.length = i - f ∧ (A ++ O0.drop i).Perm (O0.drop f)
theorem Srt.start {O0 : List Bm} {f i : Nat} (hf : f ≤ O0.length) (hi : i = f ∨ i = f + 1) : Srt O0 f (min i O0.length) O0 := by
  rcases Nat.lt_or_ge f O0.length with h | h
  · rcases hi with rfl | rfl
    · rw [Nat.min_eq_left (by omega)]
      exact ⟨rfl, [], by simp, List.Pairwise.nil, by simp, by simp⟩
    · rw [Nat.min_eq_left (by omega)]
      refine ⟨rfl, [O0[f]], ?_, List.pairwise_singleton _ _, by simp, ?_⟩
      · rw [List.singleton_append, ← List.drop_eq_getElem_cons h, List.take_append_drop]
      · rw [List.singleton_append, ← List.drop_eq_getElem_cons h]
  · rw [Nat.min_eq_right (by omega)]
    have e : f = O0.length := by omega
    subst e
    exact ⟨rfl, [], by simp, List.Pairwise.nil, by simp, by simp⟩
theorem Srt.ins {O0 O : List Bm} {f i : Nat} (h : Srt O0 f i O) (hf : f ≤ i) (hi : i < O0.length) : Ins O0 f i i O := by
  obtain ⟨A, h1, h2, h3, h4⟩ := h.ex
  refine ⟨h.len, ⟨hf, Nat.le_refl _, hi⟩, A, O0[i], [], O0.drop (i + 1), ?_, h3, by simp, rfl, by simpa using h2, by simp, ?_⟩
  · rw [h1, List.drop_eq_getElem_cons hi, List.append_assoc, List.singleton_append]
  · rw [List.drop_eq_getElem_cons hi] at h4
    rw [List.append_assoc, List.singleton_append]
    exact h4
theorem Ins.done {O0 O : List Bm} {f i k : Nat} (h : Ins O0 f i k O) (hk : k = f ∨ leWy (O.getD (k - 1) (0, 0, 0)) (O.getD k (0, 0, 0))) : Srt O0 f (i + 1) O := by
  obtain ⟨A, z, C, R, h1, h2, h3, h4, h5, h6, h7⟩ := h.ex
  have hik := h.ik
  have hl := h.len
  subst h4
  refine ⟨h.len, A ++ z :: C, h1, ?_, by simp; omega, h7⟩
  rw [List.pairwise_append] at h5 ⊢
  obtain ⟨p1, p2, p3⟩ := h5
  have hAz : ∀ a, a ∈ A → leWy a z := by
    rcases hk with hk | hk
    · have : A = [] := List.length_eq_zero_iff.1 (by omega)
      subst this
      intro a ha; cases ha
    · rcases A.eq_nil_or_concat with rfl | ⟨A', y, rfl⟩
      · intro a ha; cases ha
      · have hc : A'.length + 1 = k - f := by simpa using h2
        have hf' : (O0.take f).length = f := by rw [List.length_take]; omega
        have e2 : O.getD (k - 1) (0, 0, 0) = y := by
          rw [h1, List.getD_eq_getElem?_getD, List.getElem?_append_right (by omega)]
          simp only [List.append_assoc, List.length_append, List.length_singleton, List.length_take, List.concat_eq_append, List.singleton_append] at h2 ⊢
          rw [List.getElem?_append_right (by omega), show k - 1 - min f O0.length - A'.length = 0 by omega]
          rfl
        have e3 : O.getD k (0, 0, 0) = z := by
          rw [h1, List.getD_eq_getElem?_getD, List.getElem?_append_right (by omega)]
          simp only [List.append_assoc, List.length_append, List.length_singleton, List.length_take, List.concat_eq_append, List.cons_append] at h2 ⊢
          rw [List.getElem?_append_right (by omega), show k - min f O0.length - A'.length = 1 by omega]
          rfl
        rw [e2, e3] at hk
        intro a ha
        rcases List.mem_append.1 (by simpa using ha : a ∈ A' ++ [y]) with ha | ha
        · simp only [List.concat_eq_append, List.pairwise_append] at p1
          exact ltWy_trans' (p1.2.2 a ha y (by simp)) hk
        · rw [List.mem_singleton.1 ha]; exact hk
  refine ⟨p1, ?_, ?_⟩
  · rw [List.pairwise_cons]
    exact ⟨fun c hc => ltWy_asymm (h6 c hc), p2⟩
  · intro a ha b hb
    rcases List.mem_cons.1 hb with rfl | hb
    · exact hAz a ha
    · exact p3 a ha b hb
theorem Ins.swap {O0 O : List Bm} {f i k : Nat} (h : Ins O0 f i k O) (hk : f < k) (hg : ltWy (O.getD k (0, 0, 0)) (O.getD (k - 1) (0, 0, 0))) : Ins O0 f i (k - 1) ((O.set (k - 1) (O.getD k (0, 0, 0))).set k (O.getD (k - 1) (0, 0, 0))) := by
  obtain ⟨A, z, C, R, h1, h2, h3, h4, h5, h6, h7⟩ := h.ex
  have hik := h.ik
  have hl := h.len
  rcases A.eq_nil_or_concat with rfl | ⟨A', y, rfl⟩
  · simp at h2; omega
  simp only [List.concat_eq_append] at h1 h2 h5 h7
  have hA' : A'.length = k - 1 - f := by simp at h2; omega
  have hP : (O0.take f ++ A').length = k - 1 := by rw [List.length_append, List.length_take, hA']; omega
  have hO : O = (O0.take f ++ A') ++ y :: z :: (C ++ R) := by rw [h1]; simp
  have e2 : O.getD (k - 1) (0, 0, 0) = y := by
    rw [hO, List.getD_eq_getElem?_getD, List.getElem?_append_right (by omega), hP, Nat.sub_self]; rfl
  have e3 : O.getD k (0, 0, 0) = z := by
    rw [hO, List.getD_eq_getElem?_getD, List.getElem?_append_right (by omega), hP, show k - (k - 1) = 1 by omega]; rfl
  rw [e2, e3] at hg ⊢
  have e4 : (O.set (k - 1) z).set k y = (O0.take f ++ A') ++ z :: y :: (C ++ R) := by
    rw [hO, List.set_append_right _ _ (by omega), hP, Nat.sub_self, List.set_cons_zero, List.set_append_right _ _ (by omega), hP, show k - (k - 1) = 1 by omega, List.set_cons_succ, List.set_cons_zero]
  refine ⟨by simp [hl], ⟨by omega, by omega, hik.2.2⟩, A', z, y :: C, R, by rw [e4]; simp, hA', by simp; omega, h4, by simpa using h5, ?_, ?_⟩
  · intro c hc
    rcases List.mem_cons.1 hc with rfl | hc
    · exact hg
    · exact h6 c hc
  · refine List.Perm.trans ?_ h7
    simp only [List.append_assoc, List.cons_append]
    exact (List.Perm.swap _ _ _).append_left _
theorem Srt.fin {O0 O : List Bm} {f i : Nat} (h : Srt O0 f i O) (hi : O0.length ≤ i) : O.take f = O0.take f ∧ (O.drop f).Perm (O0.drop f) ∧ (O.drop f).Pairwise leWy := by
  obtain ⟨A, h1, h2, h3, h4⟩ := h.ex
  rw [List.drop_eq_nil_of_le (by omega : O0.length ≤ i), List.append_nil] at h1 h4
  rcases Nat.lt_or_ge O0.length f with hf | hf
  · rw [List.take_of_length_le (by omega)] at h1
    rw [List.drop_eq_nil_of_le (by omega)] at h4
    have hA : A = [] := List.perm_nil.1 h4
    subst hA
    rw [List.append_nil] at h1
    subst h1
    rw [List.drop_eq_nil_of_le (by omega)]
    exact ⟨rfl, .refl _, .nil⟩
  · have hl : (O0.take f).length = f := by rw [List.length_take]; omega
    have e1 : O.drop f = A := by rw [h1, List.drop_append, List.drop_eq_nil_of_le (by omega), hl, Nat.sub_self]; rfl
    have e2 : O.take f = O0.take f := by rw [h1, List.take_append, List.take_of_length_le (by omega), hl, Nat.sub_self]; simp
    rw [e1, e2]
    exact ⟨rfl, h4, h2⟩
end Go.Proofs.YtbielnehggcaoaaDoor
/-
  The document's own order of blames: the same blames as those that the program finds. (By the verifier; no statement, no memory.)
-/
namespace Go.Proofs.YtbielnehggcaoaaDoor
open Go.RowKit
theorem flat_perm_app {α β : Type} (F G : α → List β) : ∀ l : List α, (l.flatMap fun a => F a ++ G a).Perm (l.flatMap F ++ l.flatMap G)
  | [] => .refl _
  | a :: l => by
    simp only [List.flatMap_cons]
    refine ((flat_perm_app F G l).append_left (F a ++ G a)).trans ?_
    simp only [List.append_assoc]
    refine List.Perm.append_left _ ?_
    rw [← List.append_assoc, ← List.append_assoc]
    exact List.perm_append_comm.append_right _
theorem flat_perm {α β : Type} {F G : α → List β} : ∀ l : List α, (∀ a, a ∈ l → (F a).Perm (G a)) → (l.flatMap F).Perm (l.flatMap G)
  | [], _ => .refl _
  | a :: l, h => by
    simp only [List.flatMap_cons]
    exact (h a List.mem_cons_self).append (flat_perm l fun b hb => h b (List.mem_cons_of_mem _ hb))
theorem flat_nil {α β : Type} : ∀ l : List α, (l.flatMap fun _ => ([] : List β)) = []
  | [] => rfl
  | a :: l => by rw [List.flatMap_cons, flat_nil l]; rfl
theorem flat_swap {α β γ : Type} (F : α → β → List γ) : ∀ (l : List α) (l' : List β), (l.flatMap fun a => l'.flatMap (F a)).Perm (l'.flatMap fun b => l.flatMap fun a => F a b)
  | [], l' => by simp only [List.flatMap_nil, flat_nil]; exact .refl _
  | a :: l, l' => by
    simp only [List.flatMap_cons]
    exact ((flat_swap F l l').append_left _).trans (flat_perm_app _ _ l').symm
theorem flat_if {α β : Type} (p : α → Bool) (F : α → List β) : ∀ l : List α, (l.filter p).flatMap F = l.flatMap fun a => if p a then F a else []
  | [] => rfl
  | a :: l => by
    rw [List.flatMap_cons, ← flat_if p F l]
    cases h : p a with
    | true => rw [List.filter_cons_of_pos h, List.flatMap_cons]; rfl
    | false => rw [List.filter_cons_of_neg (by simp [h])]; rfl
theorem filter_map_flat {α β : Type} (p : α → Bool) (f : α → β) (l : List α) : (l.filter p).map f = l.flatMap fun a => if p a then [f a] else [] := by
  rw [← flat_if p (fun a => [f a]) l]
  induction l.filter p with
  | nil => rfl
  | cons a l ih => rw [List.map_cons, ih]; rfl
/-- One place alone matters. -/
theorem flat_one {β : Type} (F : Nat → List β) (k : Nat) (hF : ∀ j, j ≠ k → F j = []) : ∀ n, (List.range n).flatMap F = if k < n then F k else []
  | 0 => rfl
  | n + 1 => by
    rw [List.range_succ, List.flatMap_append, flat_one F k hF n, List.flatMap_cons, List.flatMap_nil, List.append_nil]
    rcases Nat.lt_trichotomy k n with h | h | h
    · rw [if_pos h, if_pos (by omega), hF n (by omega), List.append_nil]
    · subst h
      rw [if_neg (by omega), if_pos (by omega)]; rfl
    · rw [if_neg (by omega), if_neg (by omega), hF n (by omega)]; rfl
section
variable (m : Int) (D : List Ev)
/-- A part's versions, from u on, each as what it holds. -/
def tblL (p : Int) : Nat → Nat → Hold → List Hold
  | 0, _, f => [f]
  | g + 1, u, f => f :: (if timesN m D D.length p (u + 1) = 1 then tblL p g (u + 1) (f.chg (eAt D (placeN m D D.length p (u + 1)))) else [])
end
variable {m : Int} {D : List Ev}
theorem tbl_pos (p : Int) (g u : Nat) (f : Hold) : 1 ≤ (tblL m D p g u f).length := by
  cases g with
  | zero => exact Nat.le_refl 1
  | succ g => unfold tblL; rw [List.length_cons]; omega
theorem tell_tbl (p : Int) : ∀ (g u : Nat) (f : Hold), (tellL m D p g u f).1 = (List.range (tblL m D p g u f).length).flatMap (fun j => heldL D (endL m D D.length) p ((u + j : Nat) : Int) ((tblL m D p g u f).getD j Hold.none)) ∧ (tellL m D p g u f).2 + 1 = u + (tblL m D p g u f).length
  | 0, u, f => by
    unfold tblL tellL
    refine ⟨?_, rfl⟩
    simp [List.range_succ]
  | g + 1, u, f => by
    unfold tblL tellL
    by_cases ht : timesN m D D.length p (u + 1) = 1
    · obtain ⟨i1, i2⟩ := tell_tbl p g (u + 1) (f.chg (eAt D (placeN m D D.length p (u + 1))))
      rw [if_pos ht, if_pos ht]
      dsimp only
      refine ⟨?_, by rw [i2, List.length_cons]; omega⟩
      rw [List.length_cons, List.range_succ_eq_map, List.flatMap_cons, i1, List.flatMap_map]
      congr 1
      refine flat_congr _ fun j _ => ?_
      simp only [List.getD_cons_succ, Nat.succ_eq_add_one]
      rw [show u + 1 + j = u + (j + 1) by omega]
    · rw [if_neg ht, if_neg ht]
      refine ⟨?_, rfl⟩
      simp [List.range_succ]
/-- What a part's versions hold, from the first on. -/
def vsOf (S : List (List (Int × Int))) (D : List Ev) (p : Nat) : List Hold := tblL S.length D p D.length 1 (Hold.none.lay (S.getD p []))
theorem lastF_vs (S : List (List (Int × Int))) (D : List Ev) (p : Int) : lastF S D p = ((vsOf S D p.toNat).length : Nat) := by
  unfold lastF partT vsOf
  have := (tell_tbl (m := S.length) (D := D) (p.toNat : Int) D.length 1 (Hold.none.lay (S.getD p.toNat []))).2
  omega
/-- Why 4, of one event. -/
def fourL (S : List (List (Int × Int))) (D : List Ev) (i : Nat) : List Bm :=
  if decide (1 ≤ (eAt D i).told) && decide ((eAt D i).told ≤ (vsOf S D (eAt D i).p.toNat).length) && otherB ((vsOf S D (eAt D i).p.toNat).getD ((eAt D i).told.toNat - 1) Hold.none) (eAt D i) then [((i : Int), -1, 4)] else []
theorem held_part (S : List (List (Int × Int))) (D : List Ev) (p : Nat) : (partT S D p).1 = (List.range (vsOf S D p).length).flatMap fun j => (endL S.length D D.length).flatMap fun i => if heldB D p ((1 + j : Nat) : Int) ((vsOf S D p).getD j Hold.none) i then [((i : Int), (-1 : Int), (4 : Int))] else [] := by
  unfold partT
  rw [(tell_tbl (m := S.length) (D := D) (p : Int) D.length 1 (Hold.none.lay (S.getD p []))).1]
  refine flat_congr _ fun j _ => ?_
  unfold heldL
  rw [filter_map_flat]
  rfl
theorem held_one (S : List (List (Int × Int))) (D : List Ev) (i : Nat) (h0 : (eAt D i).snap = true ∨ (0 ≤ (eAt D i).p ∧ (eAt D i).p < S.length)) (h4 : (eAt D i).snap = true → (eAt D i).told = 0) : ((List.range S.length).flatMap fun p => (List.range (vsOf S D p).length).flatMap fun j => if heldB D p ((1 + j : Nat) : Int) ((vsOf S D p).getD j Hold.none) i then [((i : Int), (-1 : Int), (4 : Int))] else []) = fourL S D i := by
  rcases h0 with h0 | ⟨hp0, hp1⟩
  · have ht := h4 h0
    have e1 : fourL S D i = [] := by
      unfold fourL
      rw [ht, decide_eq_false (by omega)]
      rfl
    rw [e1]
    have e2 : ∀ p, ((List.range (vsOf S D p).length).flatMap fun j => if heldB D p ((1 + j : Nat) : Int) ((vsOf S D p).getD j Hold.none) i then [((i : Int), (-1 : Int), (4 : Int))] else []) = [] := fun p => by
      rw [flat_congr (G := fun _ => []) _ fun j _ => by
        unfold heldB
        rw [ht, decide_eq_false (show ¬ (0 : Int) = ((1 + j : Nat) : Int) by omega)]
        simp]
      exact flat_nil _
    rw [flat_congr (G := fun _ => []) _ fun p _ => e2 p]
    exact flat_nil _
  · rw [flat_one _ (eAt D i).p.toNat (fun p hp => by
      rw [flat_congr (G := fun _ => []) _ fun j _ => by
        unfold heldB
        rw [decide_eq_false (show ¬ (eAt D i).p = (p : Int) by omega)]
        simp]
      exact flat_nil _), if_pos (by omega)]
    by_cases h1 : 1 ≤ (eAt D i).told
    · rw [flat_one _ ((eAt D i).told.toNat - 1) (fun j hj => by
        unfold heldB
        rw [decide_eq_false (show ¬ (eAt D i).told = ((1 + j : Nat) : Int) by omega)]
        simp)]
      unfold fourL heldB
      rw [decide_eq_true h1, decide_eq_true (show (eAt D i).p = ((eAt D i).p.toNat : Int) by omega), decide_eq_true (show (eAt D i).told = ((1 + ((eAt D i).told.toNat - 1) : Nat) : Int) by omega)]
      by_cases h2 : (eAt D i).told ≤ (vsOf S D (eAt D i).p.toNat).length
      · rw [if_pos (by omega), decide_eq_true h2]
      · rw [if_neg (by omega), decide_eq_false h2]
        simp
    · have e1 : fourL S D i = [] := by
        unfold fourL
        rw [decide_eq_false h1]
        rfl
      rw [e1, flat_congr (G := fun _ => []) _ fun j _ => by
        unfold heldB
        rw [decide_eq_false (show ¬ (eAt D i).told = ((1 + j : Nat) : Int) by omega)]
        simp]
      exact flat_nil _
/-- What is blamed of one event, in the document's order ahead of its sort. -/
def refL (S : List (List (Int × Int))) (D : List Ev) (i : Nat) : List Bm :=
  (if (eAt D i).good S.length then [] else [((i : Int), -1, 1)]) ++ ((if endB S.length (eAt D i) then fourL S D i else []) ++ (if endB S.length (eAt D i) then eachL S.length D (lastF S D) i else []))
theorem good_told {m : Int} {e : Ev} (h : e.good m = true) : (e.snap = true ∨ (0 ≤ e.p ∧ e.p < m)) ∧ (e.snap = true → e.told = 0) := by
  unfold Ev.good at h
  simp only [Bool.and_eq_true] at h
  obtain ⟨⟨⟨⟨_, _⟩, _⟩, h4⟩, _⟩ := h
  unfold Ev.inPart at h4
  unfold Ev.snap Ev.told
  by_cases hk : e.k = 4
  · refine ⟨.inl (by simp [hk]), fun _ => ?_⟩
    rw [if_neg (by omega), if_neg (by omega)]
  · rw [if_neg hk] at h4
    refine ⟨.inr (by simpa using h4), fun h => ?_⟩
    exact absurd (by simpa using h) hk
/-- The program's blames and the document's are the same. -/
theorem ref_perm (S : List (List (Int × Int))) (D : List Ev) : ((List.range D.length).flatMap (refL S D)).Perm (allBm S D) := by
  unfold refL allBm
  refine (flat_perm_app _ _ _).trans (List.Perm.append ?_ ((flat_perm_app _ _ _).trans (List.Perm.append ?_ ?_)))
  · unfold wrongL
    rw [filter_map_flat]
    refine .of_eq (flat_congr _ fun i _ => ?_)
    cases (eAt D i).good S.length <;> rfl
  · rw [← flat_if (fun i => endB S.length (eAt D i)) (fourL S D)]
    have e1 : ((List.range D.length).filter fun i => endB S.length (eAt D i)) = endL S.length D D.length := rfl
    rw [e1]
    have e2 : ((List.range S.length).flatMap fun p => (partT S D p).1).Perm ((endL S.length D D.length).flatMap fun i => (List.range S.length).flatMap fun p => (List.range (vsOf S D p).length).flatMap fun j => if heldB D p ((1 + j : Nat) : Int) ((vsOf S D p).getD j Hold.none) i then [((i : Int), (-1 : Int), (4 : Int))] else []) := by
      refine .trans ?_ (flat_swap (fun p i => (List.range (vsOf S D p).length).flatMap fun j => if heldB D p ((1 + j : Nat) : Int) ((vsOf S D p).getD j Hold.none) i then [((i : Int), (-1 : Int), (4 : Int))] else []) (List.range S.length) (endL S.length D D.length))
      refine flat_perm _ fun p _ => ?_
      rw [held_part]
      exact flat_swap (fun j i => if heldB D p ((1 + j : Nat) : Int) ((vsOf S D p).getD j Hold.none) i then [((i : Int), (-1 : Int), (4 : Int))] else []) _ _
    refine .trans (.of_eq ?_) e2.symm
    refine flat_congr _ fun i hi => ?_
    have hg : (eAt D i).good S.length = true := by
      have := (mem_endL.1 hi).2
      unfold endB at this
      rw [Bool.and_eq_true] at this
      exact this.1
    obtain ⟨g1, g2⟩ := good_told hg
    rw [held_one S D i g1 g2]
  · rw [← flat_if (fun i => endB S.length (eAt D i)) (eachL S.length D (lastF S D))]
    exact .refl _
end Go.Proofs.YtbielnehggcaoaaDoor
/-
  JudgeLess by contract, over light's. (By the verifier; no statement.)
-/
namespace Go.Proofs.YtbielnehggcaoaaDoor
open Go.RowKit
/-- What a light history gives. -/
structure LsOk (w : World) (sv : Value) (ea : Option Addr) (el ec : Nat) (S : List (List (Int × Int))) (D : List Ev) : Prop where
  dl : D.length = el
  cap : el ≤ ec
  small : el ≤ 3000
  ss : S.length ≤ 64 → SsAt w sv S
  kinds : ∀ i, i < el → ∃ b o : Nat, ea = some ⟨b, o, none⟩ ∧ b < w.heap.size ∧ w.cell? ⟨b, o + i * 13 + 3, none⟩ = some (.int .i64 (eAt D i).k)
  es : ∀ n, n ≤ 1024 → n ≤ el → EsAt w (.slice ea n ec) (D.take n)
theorem pub_no {e : Ev} (h2 : e.k ≠ 2) (h5 : e.k ≠ 5) : e.pub = false := by
  unfold Ev.pub
  rw [decide_eq_false h2, decide_eq_false h5]
  rfl
structure LX (y : World) (n : Nat) (R : List Bm) (lv i : Value) (x : World) : Prop where
  ex : ∃ k : Nat, k ≤ R.length ∧ i = .int .i64 (k : Int) ∧ BR y.heap.size x lv ((R.take k).filter (keepB n)) ∧ Turned [] y x
theorem take_keep {n k : Nat} {R : List Bm} (h : k < R.length) : (R.take (k + 1)).filter (keepB n) = (R.take k).filter (keepB n) ++ (if keepB n R[k] then [R[k]] else []) := by
  rw [List.take_add_one, List.getElem?_eq_getElem h, Option.toList_some, List.filter_append]
  congr 1
  cases hk : keepB n R[k] <;> simp [hk]
theorem filter_len {n k : Nat} {R : List Bm} : ((R.take k).filter (keepB n)).length ≤ R.length :=
  Nat.le_trans (List.length_filter_le _ _) (by rw [List.length_take]; exact Nat.min_le_right _ _)
theorem less_same {n : Nat} {S : List (List (Int × Int))} {D : List Ev} {R R2 : List Bm} (h : n ≤ D.length) (hP : ∀ i, n ≤ i → i < D.length → (eAt D i).pub = false) (h1 : R.Perm (allBm S D) ∧ R.Pairwise (fun x y => ¬ ltBm y x)) (h2 : R2.Perm (allBm S (D.take n)) ∧ R2.Pairwise (fun x y => ¬ ltBm y x)) : R2 = R.filter (keepB n) := by
  refine sorted_one ?_ h2.2 (h1.2.sublist List.filter_sublist)
  rw [← allBm_keep S h hP] at h2
  exact h2.1.trans (h1.1.filter (keepB n)).symm
theorem cell_lt {w : World} {b o : Nat} {v : Value} (h : w.cell? ⟨b, o, none⟩ = some v) : b < w.heap.size := by
  apply Classical.byContradiction
  intro hn
  rw [World.cell?] at h
  have : w.heap[b]? = none := Array.getElem?_eq_none (by omega)
  simp [this] at h
theorem allBm_len {S : List (List (Int × Int))} {D : List Ev} (hD : D.length ≤ 1024) (h64 : S.length ≤ 64) : (allBm S D).length ≤ 1000000000 := by
  have h := sE_len (S := S) hD h64 (endL S.length D D.length).length
  have e : (sE S D (endL S.length D D.length).length).bl = (wrongL S.length D D.length ++ (List.range S.length).flatMap (fun q => (partT S D q).1)) ++ ((endL S.length D D.length).take (endL S.length D D.length).length).flatMap (eachL S.length D (lastF S D)) := rfl
  rw [e, List.take_length, List.append_assoc] at h
  unfold allBm
  omega
theorem many_no {m n : Nat} (h : manyB m n = false) : n ≤ 1024 ∧ m ≤ 64 := by
  unfold manyB at h
  simp only [Bool.or_eq_false_iff, decide_eq_false_iff_not] at h
  omega
theorem keep_no1 {n : Nat} {x : Bm} (h : ¬ x.1 < (n : Int)) : keepB n x = false := by
  unfold keepB
  rw [decide_eq_false h]
  rfl
theorem keep_no2 {n : Nat} {x : Bm} (h : ¬ x.2.1 < (n : Int)) : keepB n x = false := by
  unfold keepB
  rw [decide_eq_false h, Bool.and_false]
theorem keep_yes {n : Nat} {x : Bm} (h : x.1 < (n : Int)) (h2 : x.2.1 < (n : Int)) : keepB n x = true := by
  unfold keepB
  rw [decide_eq_true h, decide_eq_true h2]
  rfl
theorem many_less {m k n : Nat} (h : manyB m k = false) (hn : n ≤ k) : manyB m n = false := by
  unfold manyB at *
  simp only [Bool.or_eq_false_iff, decide_eq_false_iff_not] at *
  omega
set_option maxRecDepth 100000 in
set_option maxHeartbeats 12800000 in
theorem cJudgeLess {w : World} {sv : Value} {ea : Option Addr} {el ec : Nat} {nv : Int} {S : List (List (Int × Int))} {D : List Ev} (hsv : ∃ sa sc, sv = .slice sa S.length sc) (hl : ∀ x, Turned [] w x → Calls Tryd.prog 18 #[sv, .slice ea el ec] x fun r y => ∃ q, r = .returned (.bool q) ∧ (q = true → LsOk w sv ea el ec S D) ∧ Turned [] x y) (hT : Tab w) :
    Calls Tryd.prog 6 #[sv, .slice ea el ec, .int .i64 nv] w fun r w' => r = .returned (.bool true) ∧ Turned [] w w' := by
  have HT : Hid (Tab w) := hT
  have HL : Hid _ := hl
  obtain ⟨sa, sc, rfl⟩ := hsv
  clear hT hl
  go_enter Tryd.func6, Tryd.ntmps6
  go_wp2_with (fail)
  refine (cKnown HT.out).mono ?_
  rintro r x1 ⟨rfl, t1⟩
  have H1 : Hid (Turned [] w x1) := t1
  clear t1
  go_wp2_with (fail)
  refine (HL.out x1 H1.out).mono ?_
  rintro r x2 ⟨q, rfl, hq, t2⟩
  have H2 : Hid (Turned [] w x2) := H1.out.trans t2
  clear t2 H1 HL
  cases q with
  | false =>
    go_wp2
    go_ret
    exact ⟨rfl, H2.out⟩
  | true =>
    have HO : Hid (LsOk w (.slice sa S.length sc) ea el ec S D) := hq rfl
    clear hq
    by_cases g1 : nv < 0
    · have d1 : decide (nv < 0) = true := decide_eq_true g1
      go_wp2
      go_ret
      exact ⟨rfl, H2.out⟩
    have d1 : decide (nv < 0) = false := decide_eq_false g1
    by_cases g2 : (el : Int) < nv
    · have d2 : decide ((el : Int) < nv) = true := decide_eq_true g2
      go_wp2
      go_ret
      exact ⟨rfl, H2.out⟩
    have d2 : decide ((el : Int) < nv) = false := decide_eq_false g2
    obtain ⟨n, rfl⟩ : ∃ n : Nat, nv = n := ⟨nv.toNat, by omega⟩
    have hn : n ≤ el := by omega
    have hsm : el ≤ 3000 := HO.out.small
    have hcap : n ≤ ec := Nat.le_trans hn HO.out.cap
    clear g1 g2
    go_wp2
    go_loopw [7] (fun i wx => ∃ j : Nat, n ≤ j ∧ j ≤ el ∧ i = .int .i64 j ∧ Hid (∀ i, n ≤ i → i < j → (eAt D i).pub = false) ∧ Hid (Turned [] w wx)) (fun i _ => el - (intOf i).toNat)
    case atStart => exact ⟨n, Nat.le_refl _, hn, rfl, fun i h1 h2 => by omega, H2⟩
    case round =>
      obtain ⟨j, hnj, hj, rfl, HP, HU⟩ := hrel
      by_cases hlt : j < el
      · obtain ⟨b, o, rfl, hb, hc⟩ := HO.out.kinds j hlt
        have kl := Nat.lt_of_lt_of_le hb HU.out.size
        have kc := HU.out.cell hc (by simp)
        clear hb hc
        generalize hk : (eAt D j).k = kk at kc
        have HK : Hid ((eAt D j).k = kk) := hk
        clear hk
        by_cases e2 : kk = 2
        · subst e2
          go_wp2
          go_ret
          exact ⟨rfl, HU.out⟩
        · have d3 : (kk == 2) = false := by simpa using e2
          by_cases e5 : kk = 5
          · subst e5
            go_wp2
            go_ret
            exact ⟨rfl, HU.out⟩
          · have d4 : (kk == 5) = false := by simpa using e5
            have HP2 : Hid (∀ i, n ≤ i → i < j + 1 → (eAt D i).pub = false) := fun i h1 h2 => by
              by_cases e : i < j
              · exact HP.out i h1 e
              · rw [show i = j by omega]
                exact pub_no (by rw [HK.out]; exact e2) (by rw [HK.out]; exact e5)
            clear e2 e5
            go_wp2
            go_roundw
            case rel => exact ⟨j + 1, by omega, by omega, by go_num, HP2, HU⟩
            case measure => simp [intOf]; omega
      · obtain rfl : j = el := by omega
        clear hlt
        by_cases g : manyB S.length j = true
        · go_wp2_with (fail)
          refine (cVersMany g).mono ?_
          rintro r y1 ⟨rfl, hy⟩
          rw [hy]
          clear hy y1
          by_cases g' : manyB S.length n = true
          · go_wp2_with (fail)
            refine (cVersMany g').mono ?_
            rintro r y1 ⟨rfl, hy⟩
            rw [hy]
            clear hy y1
            go_wp2
            go_ret
            exact ⟨rfl, HU.out⟩
          · have g64 : n ≤ 1024 ∧ S.length ≤ 64 := many_no (by simpa using g')
            go_wp2_with (fail)
            refine (cVersions ((HO.out.es n g64.1 hn).still HU.out) ((HO.out.ss g64.2).still HU.out) (by omega)).mono ?_
            intro r y2 hv
            have HU2 : Hid (Turned [] w y2) := HU.out.trans hv.tu
            obtain ⟨va, vb, rfl⟩ : ∃ va vb, r = .returned (.tuple #[va, .int .i64 vb]) := by
              rcases hv.ans with ⟨_, h⟩ | ⟨_, v, _, h, _⟩
              · exact ⟨_, _, h⟩
              · exact ⟨_, _, h⟩
            clear hv
            go_wp2
            go_ret
            exact ⟨rfl, HU2.out⟩
        · have gm : manyB S.length j = false := by simpa using g
          have g64 : j ≤ 1024 ∧ S.length ≤ 64 := many_no gm
          have HSs : Hid (SsAt w (.slice sa S.length sc) S) := HO.out.ss g64.2
          clear g
          have hDe : D.take j = D := List.take_of_length_le (by rw [HO.out.dl]; exact Nat.le_refl _)
          have HE : Hid (EsAt w (.slice ea j ec) D) := by
            have h := HO.out.es j (by omega) (Nat.le_refl _)
            rw [hDe] at h
            exact h
          have HDl : Hid (D.length = j) := HO.out.dl
          clear hDe
          go_wp2_with (fail)
          refine (cVersions (HE.out.still HU.out) (HSs.out.still HU.out) (by omega)).mono ?_
          intro r y1 hv1
          have HU1 : Hid (Turned [] w y1) := HU.out.trans hv1.tu
          rcases hv1.ans with ⟨m1, rfl⟩ | ⟨m1, v1, R, rfl, pR, sR, bR⟩
          · clear hv1 m1
            go_wp2_with (fail)
            refine (cVersions ((HO.out.es n (by omega) hn).still HU1.out) (HSs.out.still HU1.out) (by omega)).mono ?_
            intro r y2 hv
            have HU2 : Hid (Turned [] w y2) := HU1.out.trans hv.tu
            obtain ⟨va, vb, rfl⟩ : ∃ va vb, r = .returned (.tuple #[va, .int .i64 vb]) := by
              rcases hv.ans with ⟨_, h⟩ | ⟨_, v, _, h, _⟩
              · exact ⟨_, _, h⟩
              · exact ⟨_, _, h⟩
            clear hv
            go_wp2
            go_ret
            exact ⟨rfl, HU2.out⟩
          · have HR : Hid (R.Perm (allBm S D) ∧ R.Pairwise (fun x y => ¬ ltBm y x)) := ⟨pR, sR⟩
            have HB1 : Hid (BW y1 v1 R) := bR.view
            have HMn : Hid (D.length ≤ 1024 ∧ S.length ≤ 64) := many_no m1
            have HM : Hid (manyB S.length (D.take n).length = false) := by
              refine many_less m1 ?_
              rw [List.length_take]
              omega
            clear hv1 m1 pR sR bR
            go_wp2_with (fail)
            refine (cVersions ((HO.out.es n (by omega) hn).still HU1.out) (HSs.out.still HU1.out) (by omega)).mono ?_
            intro r y2 hv
            have HU2 : Hid (Turned [] w y2) := HU1.out.trans hv.tu
            rcases hv.ans with ⟨m2, -⟩ | ⟨-, v2, R2, rfl, p2, s2, b2⟩
            · rw [HM.out] at m2
              cases m2
            have HEq : Hid (R2 = R.filter (keepB n)) := less_same (by rw [HDl.out]; exact hn) (fun i h1 h2 => HP.out i h1 (by rw [HDl.out] at h2; exact h2)) HR.out ⟨p2, s2⟩
            have hRl : R.length ≤ 1000000000 := by
              rw [HR.out.1.length_eq]
              exact allBm_len HMn.out.1 HMn.out.2
            have HB2 : Hid (BW y2 v1 R) := HB1.out.still hv.tu
            have HB3 : Hid (BW y2 v2 R2) := b2.view
            clear hv p2 s2 b2 HB1 HR HM HP HE HO HU HU1 H2
            obtain ⟨a1, c1, rfl, hc1⟩ := HB2.out.ex
            have HC : Hid _ := hc1
            obtain ⟨a2, c2, rfl, -⟩ := HB3.out.ex
            clear hc1 HB2
            go_wp2
            go_loopw [12, 13] (fun lv i wx => LX y2 n R lv i wx) (fun _ i _ => R.length - (intOf i).toNat)
            case atStart => exact ⟨0, Nat.zero_le _, rfl, BR.nil _ _, Turned.refl _ _⟩
            case round =>
              obtain ⟨k, hk, rfl, hB, hU⟩ := hrel.ex
              have HL : Hid _ := hB
              have HV : Hid _ := hU
              clear hrel hB hU
              by_cases hkl : k < R.length
              · obtain ⟨b, o, rfl, q0, q1, q2⟩ := HC.out k hkl
                have k0 := HV.out.cell q0 (by simp)
                have k1 := HV.out.cell q1 (by simp)
                have k2 := HV.out.cell q2 (by simp)
                have kl := cell_lt k0
                clear q0 q1 q2
                generalize hx : R[k] = x at k0 k1 k2
                obtain ⟨z1, z2, z3⟩ := x
                have HX : Hid (R[k] = (z1, z2, z3)) := hx
                clear hx
                by_cases e1 : z1 < (n : Int)
                · have d3 : decide (z1 < (n : Int)) = true := decide_eq_true e1
                  by_cases e2 : z2 < (n : Int)
                  · have d4 : decide (z2 < (n : Int)) = true := decide_eq_true e2
                    have HKp : Hid ((R.take (k + 1)).filter (keepB n) = (R.take k).filter (keepB n) ++ [(z1, z2, z3)]) := by rw [Hid, take_keep hkl, HX.out, keep_yes e1 e2]; rfl
                    clear e1 e2
                    go_wp2_with (at_builtin; refine wpList_apBm (B := y2.heap.size) (v := u12) (R := (R.take k).filter (keepB n)) (r := (z1, z2, z3)) (g := wr.heap.size) rfl _ _ rfl rfl (HL.out.still ((Turned.refl [] _).alloc _)) rfl (blk_new _ _) (Nat.le_trans filter_len hRl) (by have := HV.out.size; simp; omega) ?_; intro v3 w3 hr3 ht3 ho3; have HR3 : Hid _ := hr3; have HT3 : Hid (Turned [] y2 w3) := (HV.out.alloc _).inner ht3 (fun z hz => .inr (HL.out.fresh (by simpa using hz)).1); clear hr3 ht3 ho3)
                    go_roundw
                    case rel => exact ⟨k + 1, by omega, by go_num, by rw [HKp.out]; exact HR3.out, HT3.out⟩
                    case measure => simp [intOf]; omega
                  · have d4 : decide (z2 < (n : Int)) = false := decide_eq_false e2
                    have HKp : Hid ((R.take (k + 1)).filter (keepB n) = (R.take k).filter (keepB n)) := by rw [Hid, take_keep hkl, HX.out, keep_no2 e2]; exact List.append_nil _
                    clear e1 e2
                    go_wp2
                    go_roundw
                    case rel => exact ⟨k + 1, by omega, by go_num, by rw [HKp.out]; exact HL.out, HV.out⟩
                    case measure => simp [intOf]; omega
                · have d3 : decide (z1 < (n : Int)) = false := decide_eq_false e1
                  have HKp : Hid ((R.take (k + 1)).filter (keepB n) = (R.take k).filter (keepB n)) := by rw [Hid, take_keep hkl, HX.out, keep_no1 e1]; exact List.append_nil _
                  clear e1
                  go_wp2
                  go_roundw
                  case rel => exact ⟨k + 1, by omega, by go_num, by rw [HKp.out]; exact HL.out, HV.out⟩
                  case measure => simp [intOf]; omega
              · obtain rfl : k = R.length := by omega
                have HLw : Hid (BW wr u12 (R.filter (keepB n))) := by
                  have h := HL.out.view
                  rw [List.take_length] at h
                  exact h
                have HB4 : Hid (BW wr _ R2) := HB3.out.still HV.out
                have hR2 : R2.length ≤ 1000000000 := by
                  rw [HEq.out]
                  exact Nat.le_trans (List.length_filter_le _ _) hRl
                go_wp2_with (fail)
                refine (cSameB HB4.out HLw.out hR2).mono ?_
                rintro r z ⟨rfl, nq, rfl⟩
                rw [decide_eq_true HEq.out]
                go_wp2
                go_ret
                exact ⟨rfl, (HU2.out.trans HV.out).drewN _⟩
end Go.Proofs.YtbielnehggcaoaaDoor

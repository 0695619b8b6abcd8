/- The chapter's examples, and the sizes that a table may have. -/
import Derived.Test.YtogcjdbggihbpaaLook
namespace Go.Proofs.Ytogcjdbggihbpaa
open Go.RowKit Go.Conc Go.MuLone

abbrev intBox (c : Int) : Obj := .cells #[.int .i64 c] 3 (0, 0)
set_option maxHeartbeats 400000 in
theorem cK1 {w : World} {x : Nat} (hx : w.heap[x]? = some (intBox 0)) : Calls Try.prog 29 #[.pointer (some ⟨x, 0, none⟩)] w fun e w' => Ends (some (some 7)) e ∧ Turned [x] w w' ∧ w'.heap[x]? = some (intBox 1) := by
  have c0 := cell_at hx 0
  have z0 := froz_at hx 0
  simp at c0
  go_enter Try.func29, Try.ntmps29
  go_wp2
  go_ret2
  exact ⟨rfl, (Turned.refl _ _).set (.inl (by simp)) 0 _, (blk_set hx 0 _).trans (by simp)⟩
theorem cK2 (w : World) (x : Nat) {X : Obj} (hx : w.heap[x]? = some X) : Calls Try.prog 30 #[] w fun e w' => Ends none e ∧ Turned [x] w w' ∧ w'.heap[x]? = some X := by
  go_enter Try.func30, Try.ntmps30
  go_wp2
  exact ⟨rfl, ⟨_, rfl⟩, Turned.refl _ _, hx⟩
set_option maxHeartbeats 400000 in
theorem cK3a {w : World} {x : Nat} (hx : w.heap[x]? = some (intBox 0)) : Calls Try.prog 31 #[.pointer (some ⟨x, 0, none⟩)] w fun e w' => Ends (some none) e ∧ Turned [x] w w' ∧ w'.heap[x]? = some (intBox 1) := by
  have c0 := cell_at hx 0
  have z0 := froz_at hx 0
  simp at c0
  go_enter Try.func31, Try.ntmps31
  go_wp2
  go_region
  all_goals
    go_wp2
    go_ret2
    exact ⟨⟨_, rfl⟩, ((Turned.refl _ _).set (.inl (by simp)) 0 _).drew, (blk_set hx 0 _).trans (by simp)⟩
set_option maxHeartbeats 400000 in
theorem cK3b {w : World} {x : Nat} (hx : w.heap[x]? = some (intBox 1)) : Calls Try.prog 31 #[.pointer (some ⟨x, 0, none⟩)] w fun e w' => Ends (some (some 7)) e ∧ Turned [x] w w' ∧ w'.heap[x]? = some (intBox 2) := by
  have c0 := cell_at hx 0
  have z0 := froz_at hx 0
  simp at c0
  go_enter Try.func31, Try.ntmps31
  go_wp2
  go_region
  all_goals
    go_wp2
    go_ret2
    exact ⟨rfl, ((Turned.refl _ _).set (.inl (by simp)) 0 _).drew, (blk_set hx 0 _).trans (by simp)⟩

/-- The examples' five blocks. -/
structure Kn (w wx : World) (a o p k r : Obj) : Prop where
  below : Below w.heap.size w wx
  size : w.heap.size + 1 + 1 + 1 + 1 < wx.heap.size
  a : wx.heap[w.heap.size]? = some a
  o : wx.heap[w.heap.size + 1]? = some o
  p : wx.heap[w.heap.size + 1 + 1]? = some p
  k : wx.heap[w.heap.size + 1 + 1 + 1]? = some k
  r : wx.heap[w.heap.size + 1 + 1 + 1 + 1]? = some r
theorem kn_start (w : World) (a o p k r : Obj) : Kn w (((((w.alloc a).alloc o).alloc p).alloc k).alloc r) a o p k r := by
  have e1 : (w.alloc a).heap.size = w.heap.size + 1 := by simp
  have e2 : ((w.alloc a).alloc o).heap.size = w.heap.size + 1 + 1 := by simp
  have e3 : (((w.alloc a).alloc o).alloc p).heap.size = w.heap.size + 1 + 1 + 1 := by simp
  have e4 : ((((w.alloc a).alloc o).alloc p).alloc k).heap.size = w.heap.size + 1 + 1 + 1 + 1 := by simp
  refine ⟨(((((Below.refl _ _).alloc (Nat.le_refl _) _).alloc (by omega) _).alloc (by omega) _).alloc (by omega) _).alloc (by omega) _, by simp, blk_old (blk_old (blk_old (blk_old (blk_new _ _) _) _) _) _, ?_, ?_, ?_, ?_⟩
  · rw [← e1]; exact blk_old (blk_old (blk_old (blk_new _ _) _) _) _
  · rw [← e2]; exact blk_old (blk_old (blk_new _ _) _) _
  · rw [← e3]; exact blk_old (blk_new _ _) _
  · rw [← e4]; exact blk_new _ _
theorem Kn.drew {w wx : World} {a o p k r : Obj} (h : Kn w wx a o p k r) : Kn w wx.drew a o p k r := ⟨h.below.drew, h.size, h.a, h.o, h.p, h.k, h.r⟩
theorem Kn.atO {w wx wy : World} {a o p k r a' o' : Obj} (h : Kn w wx a o p k r) (ht : Turned [w.heap.size + 1, w.heap.size] wx wy) (ho : wy.heap[w.heap.size + 1]? = some o') (ha : wy.heap[w.heap.size]? = some a') : Kn w wy a' o' p k r :=
  ⟨ht.below h.below (by simp <;> omega) (by have := h.size; omega), Nat.lt_of_lt_of_le h.size ht.size, ha, ho, ht.heap h.p (by simp <;> omega), ht.heap h.k (by simp <;> omega), ht.heap h.r (by simp <;> omega)⟩
theorem Kn.atP {w wx wy : World} {a o p k r a' p' : Obj} (h : Kn w wx a o p k r) (ht : Turned [w.heap.size + 1 + 1, w.heap.size] wx wy) (hp : wy.heap[w.heap.size + 1 + 1]? = some p') (ha : wy.heap[w.heap.size]? = some a') : Kn w wy a' o p' k r :=
  ⟨ht.below h.below (by simp <;> omega) (by have := h.size; omega), Nat.lt_of_lt_of_le h.size ht.size, ha, ht.heap h.o (by simp <;> omega), hp, ht.heap h.k (by simp <;> omega), ht.heap h.r (by simp <;> omega)⟩
theorem Kn.atR {w wx wy : World} {a o p k r k' r' : Obj} (h : Kn w wx a o p k r) (ht : Turned [w.heap.size + 1 + 1 + 1 + 1, w.heap.size + 1 + 1 + 1] wx wy) (hr : wy.heap[w.heap.size + 1 + 1 + 1 + 1]? = some r') (hk : wy.heap[w.heap.size + 1 + 1 + 1]? = some k') : Kn w wy a o p k' r' :=
  ⟨ht.below h.below (by simp <;> omega) (by have := h.size; omega), Nat.lt_of_lt_of_le h.size ht.size, ht.heap h.a (by simp <;> omega), ht.heap h.o (by simp <;> omega), ht.heap h.p (by simp <;> omega), hk, hr⟩
set_option maxRecDepth 100000 in
set_option maxHeartbeats 3200000 in
theorem cKnown (w : World) : Calls Try.prog 5 #[] w fun e w' => e = .returned (.bool true) ∧ Below w.heap.size w w' := by
  have hmf : ∀ (fn : Fn) (first cap : Array Value) (w : World), (Instr.makeFunc fn first cap).run Try.prog w = .ok (.func fn first cap) w := fun _ _ _ _ => rfl
  have hnot : ∀ (x : Bool) (w : World), (Op.unary .not (.bool x)).run Try.prog w = .ok (.bool (!x)) w := fun _ _ => rfl
  have q1 : oV (some (some 7)) = 7 := rfl
  have q2 : oE (some (some 7)) = 0 := rfl
  have q3 : oM (some (some 7)) = 1 := rfl
  have q4 : oE none = 73 := rfl
  have q5 : oM none = 0 := rfl
  have q6 : oE (some none) = 72 := rfl
  go_enter Try.func5, Try.ntmps5
  go_wp2_with (fail)
  refine (cNewOnce _ _ _).mono ?_
  rintro e w1 ⟨rfl, rfl⟩
  go_wp2_with (fail)
  refine (cNewOnce _ _ _).mono ?_
  rintro e w1 ⟨rfl, rfl⟩
  go_wp2_with (fail)
  refine (cNewRetry _ _ _).mono ?_
  rintro e w1 ⟨rfl, rfl⟩
  go_wp2_with (fail)
  have h0 : Hid _ := kn_start w (.cells #[.int .i64 0] 3) (onceObj 0 0 (.func (.func 29) #[] #[.pointer (some ⟨w.heap.size, 0, none⟩)]) 0 0 0) (onceObj 0 0 (.func (.func 30) #[] #[]) 0 0 0) (.cells #[.int .i64 0] 3) (retryObj 0 (.func (.func 31) #[] #[.pointer (some ⟨w.heap.size + 1 + 1 + 1, 0, none⟩)]) none)
  refine (cDone h0.out.o).mono ?_
  rintro e w1 ⟨rfl, rfl⟩
  go_wp2_with (fail)
  refine (cRDoneNot h0.out.r).mono ?_
  rintro e w1 ⟨rfl, rfl⟩
  go_wp2_with (fail)
  -- o.Get, twice
  refine (cOnceNew (x := w.heap.size) (some (some 7)) h0.out.o (lt_of_heap h0.out.a) (by omega) (hg29 _) (fun w1 t1 => cK1 (t1.heap h0.out.a (by simp <;> omega)))).mono ?_
  rintro e w1 ⟨rfl, hT1, ho1, ha1⟩
  have h1 : Hid _ := h0.out.atO hT1 ho1 ha1
  clear h0 hT1 ho1 ha1
  go_wp2_with (fail)
  refine (cOnceOld h1.out.o).mono ?_
  rintro e w2 ⟨rfl, rfl⟩
  have h2 : Hid _ := h1.out.drew
  clear h1
  go_wp2_with (fail)
  -- p.Get, twice
  refine (cOnceNew (x := w.heap.size) none h2.out.p (lt_of_heap h2.out.a) (by omega) (hg30 _) (fun w1 t1 => cK2 w1 w.heap.size (t1.heap h2.out.a (by simp <;> omega)))).mono ?_
  rintro e w3 ⟨rfl, hT3, hp3, ha3⟩
  have h3 : Hid _ := h2.out.atP hT3 hp3 ha3
  clear h2 hT3 hp3 ha3
  go_wp2_with (fail)
  refine (cOnceOld h3.out.p).mono ?_
  rintro e w4 ⟨rfl, rfl⟩
  have h4 : Hid _ := h3.out.drew
  clear h3
  go_wp2_with (fail)
  -- r.Get, three times
  refine (cRetryNew (x := w.heap.size + 1 + 1 + 1) (some none) h4.out.r (lt_of_heap h4.out.k) (by omega) (hg31 _) (fun w1 t1 => cK3a (t1.heap h4.out.k (by simp <;> omega)))).mono ?_
  rintro e w5 ⟨rfl, hT5, -, hr5, hk5⟩
  have h5 : Hid _ := h4.out.atR hT5 hr5 hk5
  clear h4 hT5 hr5 hk5
  go_wp2_with (fail)
  refine (cRetryNew (x := w.heap.size + 1 + 1 + 1) (some (some 7)) h5.out.r (lt_of_heap h5.out.k) (by omega) (hg31 _) (fun w1 t1 => cK3b (t1.heap h5.out.k (by simp <;> omega)))).mono ?_
  rintro e w6 ⟨rfl, hT6, hb6, hr6, hk6⟩
  have h6 : Hid _ := h5.out.atR hT6 hr6 hk6
  have HB6 : Hid _ := hb6
  clear h5 hT6 hr6 hk6 hb6
  go_wp2_with (fail)
  refine (cRetryOld h6.out.r HB6.out).mono ?_
  rintro e w7 ⟨rfl, rfl⟩
  have h7 : Hid _ := h6.out.drew
  have ca := cell_at h7.out.a 0
  have ck := cell_at h7.out.k 0
  simp at ca ck
  clear h6 HB6
  go_wp2_with (fail)
  refine (cDone h7.out.o).mono ?_
  rintro e w8 ⟨rfl, rfl⟩
  go_wp2_with (fail)
  refine (cDone h7.out.p).mono ?_
  rintro e w8 ⟨rfl, rfl⟩
  go_wp2
  go_ret
  exact ⟨rfl, h7.out.below⟩
theorem cBad0 (w : World) (fn : Fn) (fi cap : Array Value) (n : Int) (hn : n < 1 ∨ 256 < n) : Calls Try.prog 9 #[.int .i64 n, .func fn fi cap] w fun e w' => e = .returned (.tuple #[.pointer none, .int .i64 71]) ∧ w' = w.alloc (.cells #[.func fn fi cap] 48) := by
  rcases (by omega : n < 1 ∨ (¬ n < 1 ∧ 256 < n)) with h | ⟨h, h2⟩
  · go_enter Try.func9, Try.ntmps9
    go_wp2
    go_ret2
    exact ⟨rfl, rfl⟩
  · go_enter Try.func9, Try.ntmps9
    go_wp2
    go_ret2
    exact ⟨rfl, rfl⟩
theorem cSizes (w : World) : Calls Try.prog 18 #[] w fun e w' => e = .returned (.bool true) ∧ Below w.heap.size w w' := by
  go_enter Try.func18, Try.ntmps18
  go_wp2_with (fail)
  refine (cBad0 _ _ _ _ 0 (by omega)).mono ?_
  rintro e w1 ⟨rfl, rfl⟩
  go_wp2_with (fail)
  refine (cBad0 _ _ _ _ 257 (by omega)).mono ?_
  rintro e w1 ⟨rfl, rfl⟩
  go_wp2_with (fail)
  refine (cNewTable _ 256 _ _ _ (by omega) (by omega)).mono ?_
  rintro e w1 ⟨rfl, hT⟩
  have HT : Hid _ := hT.below
  clear hT
  go_wp2
  go_ret
  exact ⟨rfl, (((Below.refl _ _).alloc (Nat.le_refl _) _).alloc (by simp) _).trans (HT.out.mono (by simp; omega))⟩
end Go.Proofs.Ytogcjdbggihbpaa

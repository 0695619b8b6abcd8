/- ClockAlone's memory: two clocks, the stamps that are held. -/
import Derived.Test.YtibpgoiiohmeiaaClkK
namespace Go.Proofs.Ytibpgoiiohmeiaa
open Go.RowKit
/-- A lease's word out of the stamp that is held (0: none). -/
def fOf (h : Nat → Int) (k : Nat) : Int := if h k = 0 then 0 else h k + 1
theorem fOf_put (h : Nat → Int) (k : Nat) (v : Int) (hv : ¬ v = 0) : fOf (upd h k v) = upd (fOf h) k (v + 1) := by
  funext j; unfold fOf upd; by_cases e : j = k
  · simp [e, hv]
  · simp [e]
theorem fOf_put0 (h : Nat → Int) (k : Nat) : fOf (upd h k 0) = upd (fOf h) k 0 := by
  funext j; unfold fOf upd; by_cases e : j = k
  · simp [e]
  · simp [e]
theorem fOf_zero : fOf (fun _ => 0) = fun _ => 0 := by funext j; simp [fOf]
/-- What lies beside the first clock. -/
structure CR (W x : World) (n b : Nat) (E : Nat → Nat) (b2 lb2 cap2 : Nat) (E2 : Nat → Nat) (hb : Nat) (h : Nat → Int) : Prop where
  d : ClockAt x b2 lb2 n cap2 E2 1 (fun _ => 0)
  held : x.heap[hb]? = some (intsObj h n)
  turned : Turned [] W x
  b_ : W.heap.size ≤ b
  e_ : ∀ k, k < n → W.heap.size ≤ E k
  hb_ : W.heap.size ≤ hb
  bb : b ≠ b2
  ee : ∀ j k, j < n → k < n → E j ≠ E2 k
structure CS (W x : World) (n b lb cap : Nat) (E : Nat → Nat) (b2 lb2 cap2 : Nat) (E2 : Nat → Nat) (hb : Nat) (now : Int) (h : Nat → Int) : Prop where
  c : ClockAt x b lb n cap E now (fOf h)
  r : CR W x n b E b2 lb2 cap2 E2 hb h
  hn : ∀ k, k < n → 0 ≤ h k ∧ h k < now
section
variable {W x y : World} {n b lb cap : Nat} {E : Nat → Nat} {b2 lb2 cap2 : Nat} {E2 : Nat → Nat} {hb : Nat} {now : Int} {h : Nat → Int}
theorem ClockAt.not_lb {f : Nat → Int} (c : ClockAt x b lb n cap E now f) {g : Nat} {v : Array Value} {T : TypeId} (hg : x.heap[g]? = some (.cells v T (0, 0))) (hT : T ≠ 46) : g ≠ lb := by
  obtain ⟨cur, hc, _⟩ := c.row
  exact other_type hg hc hT
/-- The first clock's own blocks turn. -/
theorem CR.keep {f : Nat → Int} (r : CR W x n b E b2 lb2 cap2 E2 hb h) (c : ClockAt x b lb n cap E now f) {k : Nat} (hk : k < n) (ht : Turned [b, E k] x y) : CR W y n b E b2 lb2 cap2 E2 hb h := by
  refine ⟨r.d.keep ht ?_ ?_ (fun j hj => ?_), ht.heap r.held ?_, r.turned.inner ht (fun z hz => ?_), r.b_, r.e_, r.hb_, r.bb, r.ee⟩
  · have h1 := other_type r.d.obj (c.lease k hk) (by decide)
    simp; exact ⟨fun e => r.bb e.symm, h1⟩
  · have h1 := r.d.not_lb c.obj (by decide)
    have h2 := r.d.not_lb (c.lease k hk) (by decide)
    simp; exact ⟨fun e => h1 e.symm, fun e => h2 e.symm⟩
  · have h1 := other_type (r.d.lease j hj) c.obj (by decide)
    simp; exact ⟨h1, fun e => r.ee k j hk hj e.symm⟩
  · have h1 := other_type r.held c.obj (by decide)
    have h2 := other_type r.held (c.lease k hk) (by decide)
    simp; exact ⟨h1, h2⟩
  · simp at hz
    rcases hz with rfl | rfl
    · exact .inr r.b_
    · exact .inr (r.e_ k hk)
theorem CR.still (r : CR W x n b E b2 lb2 cap2 E2 hb h) (ht : Turned [] x y) : CR W y n b E b2 lb2 cap2 E2 hb h :=
  ⟨r.d.still ht, ht.heap r.held (by simp), r.turned.trans ht, r.b_, r.e_, r.hb_, r.bb, r.ee⟩
theorem CS.still (s : CS W x n b lb cap E b2 lb2 cap2 E2 hb now h) (ht : Turned [] x y) : CS W y n b lb cap E b2 lb2 cap2 E2 hb now h := ⟨s.c.still ht, s.r.still ht, s.hn⟩
/-- held[k] is stored. -/
theorem CR.put {f : Nat → Int} {now' : Int} (r : CR W x n b E b2 lb2 cap2 E2 hb h) (c : ClockAt x b lb n cap E now' f) (k : Nat) (v : Int) : CR W (x.setCell ⟨hb, k, none⟩ (.int .i64 v)) n b E b2 lb2 cap2 E2 hb (upd h k v) ∧ ClockAt (x.setCell ⟨hb, k, none⟩ (.int .i64 v)) b lb n cap E now' f := by
  have ht : Turned [hb] x (x.setCell ⟨hb, k, none⟩ (.int .i64 v)) := (Turned.refl _ _).set (.inl (by simp)) _ _
  have kp : ∀ {b lb n cap : Nat} {E : Nat → Nat} {now : Int} {f : Nat → Int}, ClockAt x b lb n cap E now f → ClockAt (x.setCell ⟨hb, k, none⟩ (.int .i64 v)) b lb n cap E now f := fun c => by
    refine c.keep ht ?_ ?_ (fun j hj => ?_)
    · have := other_type c.obj r.held (by decide)
      simpa using this
    · have := c.not_lb r.held (by decide)
      simp; exact fun e => this e.symm
    · have := other_type (c.lease j hj) r.held (by decide)
      simpa using this
  exact ⟨⟨kp r.d, ints_put r.held k v, r.turned.inner ht (fun z hz => by simp at hz; subst hz; exact .inr r.hb_), r.b_, r.e_, r.hb_, r.bb, r.ee⟩, kp c⟩
/-- Behind a Take: the box of its answer is made, held[k] stored. -/
theorem CS.took (s : CS W x n b lb cap E b2 lb2 cap2 E2 hb now h) (hp : 1 ≤ now) {k : Nat} (hk : k < n) (ht : Turned [b, E k] x y) (ha : ClockAt y b lb n cap E (now + 1) (upd (fOf h) k (now + 1))) {z : World} (hz : Turned [] y z) :
    CS W (z.setCell ⟨hb, k, none⟩ (.int .i64 now)) n b lb cap E b2 lb2 cap2 E2 hb (now + 1) (upd h k now) := by
  obtain ⟨r, c⟩ := ((s.r.keep s.c hk ht).still hz).put (ha.still hz) k now
  refine ⟨?_, r, fun j hj => ?_⟩
  · rw [fOf_put _ _ _ (by omega)]; exact c
  · have := s.hn j hj
    by_cases e : j = k
    · subst e; rw [upd_same]; omega
    · rw [upd_other _ _ e]; omega
theorem CS.freed (s : CS W x n b lb cap E b2 lb2 cap2 E2 hb now h) {k : Nat} (hk : k < n) (ht : Turned [E k] x y) (ha : ClockAt y b lb n cap E now (upd (fOf h) k 0)) :
    CS W (y.setCell ⟨hb, k, none⟩ (.int .i64 0)) n b lb cap E b2 lb2 cap2 E2 hb now (upd h k 0) := by
  obtain ⟨r, c⟩ := (s.r.keep s.c hk (ht.mono (by simp))).put ha k 0
  refine ⟨?_, r, fun j hj => ?_⟩
  · rw [fOf_put0]; exact c
  · have := s.hn j hj
    by_cases e : j = k
    · subst e; rw [upd_same]; omega
    · rw [upd_other _ _ e]; omega
theorem CS.same (s : CS W x n b lb cap E b2 lb2 cap2 E2 hb now h) {k : Nat} (hk : k < n) (ht : Turned [E k] x y) (ha : ClockAt y b lb n cap E now (fOf h)) : CS W y n b lb cap E b2 lb2 cap2 E2 hb now h :=
  ⟨ha, s.r.keep s.c hk (ht.mono (by simp)), s.hn⟩
/-- A block of the law's own, none of these, turns. -/
theorem CS.other (s : CS W x n b lb cap E b2 lb2 cap2 E2 hb now h) {g : Nat} {gs : Nat → Int} {m : Nat} (hg : x.heap[g]? = some (intsObj gs m)) (hgb : g ≠ hb) (hW : W.heap.size ≤ g) (ht : Turned [g] x y) : CS W y n b lb cap E b2 lb2 cap2 E2 hb now h := by
  have kp : ∀ {b lb n cap : Nat} {E : Nat → Nat} {now : Int} {f : Nat → Int}, ClockAt x b lb n cap E now f → ClockAt y b lb n cap E now f := fun c => by
    refine c.keep ht ?_ ?_ (fun j hj => ?_)
    · have := other_type c.obj hg (by decide)
      simpa using this
    · have := c.not_lb hg (by decide)
      simp; exact fun e => this e.symm
    · have := other_type (c.lease j hj) hg (by decide)
      simpa using this
  exact ⟨kp s.c, ⟨kp s.r.d, ht.heap s.r.held (by simpa using fun e => hgb e.symm), s.r.turned.inner ht (fun z hz => by simp at hz; subst hz; exact .inr hW), s.r.b_, s.r.e_, s.r.hb_, s.r.bb, s.r.ee⟩, s.hn⟩
theorem CS.f_bd (s : CS W x n b lb cap E b2 lb2 cap2 E2 hb now h) (hp : now ≤ 1000000) : ∀ j, j < n → 0 ≤ fOf h j ∧ fOf h j ≤ 1000001 := fun j hj => by
  have := s.hn j hj
  unfold fOf; split <;> omega
end
theorem fOf_ne {h : Nat → Int} {k : Nat} (hk : 0 < h k) : ¬ fOf h k = 0 := by unfold fOf; rw [if_neg (by omega)]; omega
theorem fOf_eq {h : Nat → Int} {k : Nat} (hk : h k = 0) : fOf h k = 0 := by unfold fOf; rw [if_pos hk]
theorem fOf_pos {h : Nat → Int} {k : Nat} (hk : 0 < h k) : fOf h k = h k + 1 := by unfold fOf; rw [if_neg (by omega)]
theorem least_next {now : Int} {h : Nat → Int} {k : Nat} (hh : 0 ≤ h k) : leastV now (fOf h) (k + 1) = if 0 < h k ∧ h k < leastV now (fOf h) k then h k else leastV now (fOf h) k := by
  show (if fOf h k = 0 then _ else _) = _
  by_cases e : h k = 0
  · rw [if_pos (fOf_eq e), if_neg (by omega)]
  · have hp : 0 < h k := by omega
    rw [if_neg (fOf_ne hp), fOf_pos hp]
    by_cases c : h k < leastV now (fOf h) k
    · rw [if_pos ⟨hp, c⟩]; omega
    · rw [if_neg (by omega)]; omega
end Go.Proofs.Ytibpgoiiohmeiaa

/- PoolLong's frames. -/
import Derived.Test.YtfebndolnnaiiabPoolRow
import Derived.Test.YtfebndolnnaiiabWord
import Derived.Deep.RegionWith
namespace Go.Proofs.Ytfebndolnnaiiab
open Go.RowKit
theorem wp_last {P : Program} {c : Code} {Q : Exit → Act → World → Prop} {a : Act} {w : World} (h : c.wp P (Exit.then (Q .normal) Q) a w) : c.wp P Q a w :=
  wp_mono h (fun e a w h => by cases e <;> exact h)
theorem ev_of_off {a a' : Act} {D : List Nat} (h : ∀ s, s ∉ D → a'.tmps[s]? = a.tmps[s]?) {s : Nat} (hs : s ∉ D) : a'.eval (.tmp s) = a.eval (.tmp s) := by
  simp only [Act.eval, Array.getD_eq_getD_getElem?, h s hs]
/-- A sub-code by its path: 0 left, 1 right. -/
def sub : List Nat → Code → Code
  | [], c => c
  | 0 :: p, .seq a _ => sub p a
  | _ :: p, .seq _ b => sub p b
  | 0 :: p, .cond _ a _ => sub p a
  | _ :: p, .cond _ _ b => sub p b
  | _ :: p, .block _ c => sub p c
  | _ :: p, .scope c => sub p c
  | _ :: p, .loop c => sub p c
  | _, _ => .skip
def atc (b : Option Code) (p : List Nat) : Code := sub p (b.getD .skip)
def litOf (c : Nat → Value) : Array Value := #[c 0, c 1, c 2, c 3, c 4, c 5, c 6, c 7, c 8, c 9, c 10, c 11, c 12, c 13, c 14, c 15, c 16, c 17, c 18, c 19, c 20, c 21, c 22, c 23, c 24, c 25, c 26, c 27, c 28, c 29, c 30, c 31, c 32, c 33, c 34, c 35, c 36, c 37, c 38, c 39, c 40, c 41, c 42, c 43, c 44, c 45, c 46, c 47, c 48, c 49, c 50, c 51, c 52, c 53, c 54, c 55, c 56, c 57, c 58, c 59, c 60, c 61, c 62, c 63, c 64, c 65, c 66, c 67, c 68, c 69, c 70, c 71, c 72, c 73, c 74, c 75, c 76, c 77, c 78, c 79, c 80, c 81, c 82, c 83, c 84, c 85, c 86, c 87, c 88, c 89, c 90, c 91, c 92, c 93, c 94, c 95, c 96, c 97, c 98, c 99, c 100, c 101, c 102, c 103, c 104, c 105, c 106, c 107, c 108, c 109, c 110, c 111, c 112, c 113, c 114, c 115, c 116, c 117, c 118, c 119, c 120, c 121, c 122, c 123, c 124, c 125, c 126, c 127, c 128, c 129, c 130, c 131, c 132, c 133, c 134, c 135, c 136, c 137, c 138, c 139, c 140, c 141, c 142, c 143, c 144, c 145, c 146, c 147, c 148, c 149, c 150, c 151, c 152, c 153, c 154, c 155, c 156, c 157, c 158, c 159, c 160, c 161, c 162, c 163, c 164, c 165, c 166, c 167, c 168, c 169, c 170, c 171, c 172, c 173, c 174, c 175, c 176, c 177, c 178, c 179, c 180, c 181, c 182, c 183, c 184, c 185, c 186, c 187, c 188, c 189, c 190, c 191, c 192, c 193, c 194, c 195, c 196, c 197, c 198, c 199, c 200, c 201, c 202, c 203, c 204, c 205, c 206, c 207, c 208, c 209, c 210, c 211, c 212, c 213, c 214, c 215, c 216, c 217, c 218, c 219, c 220, c 221, c 222, c 223, c 224, c 225, c 226, c 227, c 228, c 229, c 230, c 231, c 232, c 233, c 234, c 235, c 236, c 237, c 238, c 239, c 240, c 241, c 242, c 243, c 244, c 245, c 246, c 247, c 248, c 249, c 250, c 251, c 252, c 253, c 254, c 255, c 256, c 257, c 258, c 259, c 260, c 261, c 262, c 263, c 264, c 265, c 266, c 267, c 268, c 269, c 270, c 271, c 272, c 273, c 274, c 275, c 276, c 277, c 278, c 279, c 280, c 281, c 282, c 283, c 284, c 285, c 286, c 287, c 288, c 289, c 290, c 291, c 292, c 293, c 294, c 295, c 296, c 297]
set_option maxRecDepth 100000 in
theorem litOf_eq (c : Nat → Value) : litOf c = ((List.range 298).map c).toArray := by rfl
theorem expand {a : Act} (hs : a.tmps.size = 298) (hd : a.defers = []) : ∃ c : Nat → Value, a = ⟨litOf c, []⟩ ∧ ∀ s, s < 298 → c s = a.eval (.tmp s) := by
  refine ⟨fun s => a.tmps.getD s undef, ?_, fun s _ => rfl⟩
  obtain ⟨t, d⟩ := a
  simp only at hs hd
  subst hd
  congr 1
  rw [litOf_eq]
  refine Array.ext (by simp [hs]) fun i h1 h2 => ?_
  simp [Array.getD, h1]
/-- The slots that live from round to round. -/
structure QL where
  n : Nat
  count : Int
  p : Nat
  v : Value
  last : Int
  fa : Int
  x : Int
  k : Nat
structure FP (q : QL) (a : Act) : Prop where
  size : a.tmps.size = 298
  defers : a.defers = []
  s0 : a.eval (.tmp 0) = .int .i64 q.n
  s2 : a.eval (.tmp 2) = .int .i64 q.count
  s7 : a.eval (.tmp 7) = .pointer (some ⟨q.p, 0, none⟩)
  s9 : a.eval (.tmp 9) = q.v
  s10 : a.eval (.tmp 10) = .int .i64 q.last
  s11 : a.eval (.tmp 11) = .int .i64 q.fa
  s12 : a.eval (.tmp 12) = .int .i64 q.x
  s13 : a.eval (.tmp 13) = .int .i64 q.k
theorem FP.lit {q : QL} {a : Act} (h : FP q a) : ∃ c : Nat → Value, a = ⟨litOf c, []⟩ ∧ c 0 = .int .i64 q.n ∧ c 2 = .int .i64 q.count ∧ c 7 = .pointer (some ⟨q.p, 0, none⟩) ∧ c 9 = q.v ∧ c 10 = .int .i64 q.last ∧ c 11 = .int .i64 q.fa ∧ c 12 = .int .i64 q.x ∧ c 13 = .int .i64 q.k := by
  obtain ⟨c, hc, h2⟩ := expand h.size h.defers
  exact ⟨c, hc, (h2 0 (by omega)).trans h.s0, (h2 2 (by omega)).trans h.s2, (h2 7 (by omega)).trans h.s7, (h2 9 (by omega)).trans h.s9, (h2 10 (by omega)).trans h.s10, (h2 11 (by omega)).trans h.s11, (h2 12 (by omega)).trans h.s12, (h2 13 (by omega)).trans h.s13⟩
/-- The loop's body. -/
def pB : List Nat := [1, 1, 1, 1, 1, 1, 1, 1, 0, 1, 0, 0]
def nextX (x : Int) : Int := (x * 1103515245 + 12345) % 2147483648
theorem cNextX (x : Int) (w : World) (h0 : 0 ≤ x) (h1 : x < 2147483648) : Calls Try.prog 7 #[.int .i64 x] w fun e w' => e = .returned (.int .i64 (nextX x)) ∧ w' = w := by
  go_enter Try.func7, Try.ntmps7
  go_wp2
  go_ret
  exact ⟨rfl, rfl⟩
theorem cNum (x : Int) (w : World) : Calls Try.prog 6 #[.int .i64 x] w fun e w' => e = .returned (.int .i64 x) ∧ w' = w := by
  go_enter Try.func6, Try.ntmps6
  go_wp2
  go_ret
  exact ⟨rfl, rfl⟩
theorem le_step {x : Int} {k : Nat} (h : x ≤ k) : x ≤ ((k + 1 : Nat) : Int) := by omega
structure PLW (At : World → Nat → List Nat → PSt → Prop) (W w : World) (p : Nat) (F : List Nat) (s : PSt) (m : Nat) (HL : Nat → Held) (St : List Nat) (last : Int) (it : Nat) (v : Value) : Prop where
  at_ : At w p F s
  pl : PL s m HL St last it
  row : LRow W.heap.size w v m HL
  base : Turned [] W w
  fnew : ∀ x, x ∈ F → W.heap.size ≤ x
  f0 : 0 ≤ s.faults
  f1 : s.faults ≤ it
section
variable {At : World → Nat → List Nat → PSt → Prop} {W w w' : World} {p : Nat} {F : List Nat} {s : PSt} {m : Nat} {HL : Nat → Held} {St : List Nat} {last : Int} {it : Nat} {v : Value}
theorem PLW.sep (L : PoolLaws At) (h : PLW At W w p F s m HL St last it v) : ∀ g, v.ownBlock = some g → g ∉ F := fun g hg hf => by
  obtain ⟨cur, hc⟩ := h.row.obj hg
  exact L.alien h.at_ g hf cur hc
theorem PLW.grew (h : PLW At W w p F s m HL St last it v) {F' : List Nat} {w1 : World} (hw : Turned [] w w1) (hg : Wider F F' w1) : ∀ x, x ∈ F' → W.heap.size ≤ x := fun x hx => by
  have h1 := h.base.size
  have h2 := hw.size
  rcases hg x hx with h3 | h3
  · exact h.fnew x h3
  · omega
/-- Behind a call of the pool's. -/
theorem PLW.called (L : PoolLaws At) (h : PLW At W w p F s m HL St last it v) (ht : Turned F w w') {s' : PSt} (ha : At w' p F s') {St' : List Nat} {last' : Int} {it' : Nat} (hp : PL s' m HL St' last' it') (hf0 : 0 ≤ s'.faults) (hf1 : s'.faults ≤ it') : PLW At W w' p F s' m HL St' last' it' v :=
  ⟨ha, hp, h.row.keep ht (h.sep L), h.base.inner ht (fun x hx => .inr (h.fnew x hx)), h.fnew, hf0, hf1⟩
theorem PLW.grown (L : PoolLaws At) (h : PLW At W w p F s m HL St last it v) (ht : Turned [] w w') : PLW At W w' p F s m HL St last it v :=
  ⟨L.keep h.at_ ht (by simp), h.pl, h.row.keep ht (by simp), h.base.trans ht, h.fnew, h.f0, h.f1⟩
/-- A block of the call's own, none of the pool's, turns. -/
theorem PLW.own (L : PoolLaws At) (h : PLW At W w p F s m HL St last it v) {r : Nat} (ht : Turned [r] w w') (hr : W.heap.size ≤ r) (hf : r ∉ F) (hv : v.ownBlock ≠ some r) : PLW At W w' p F s m HL St last it v :=
  ⟨L.keep h.at_ ht (by simpa using hf), h.pl, h.row.keep ht (fun g hg => by simp; intro e; exact hv (by rw [hg, e])), h.base.inner ht (fun x hx => .inr (by simp at hx; rw [hx]; exact hr)), h.fnew, h.f0, h.f1⟩
theorem sep_of (L : PoolLaws At) {B : Nat} (ha : At w p F s) (hr : LRow B w v m HL) : ∀ g, v.ownBlock = some g → g ∉ F := fun g hg hf => by
  obtain ⟨cur, hc⟩ := hr.obj hg
  exact L.alien ha g hf cur hc
theorem turned_drewN (w : World) (n : Nat) : Turned [] w (w.drewN n) := ⟨rfl, rfl, rfl, Nat.le_refl _, fun _ _ _ => rfl⟩
/-- One held one laid over another, cell by cell. -/
theorem LRow.put7 {B g cap : Nat} (h : LRow B w (.slice (some ⟨g, 0, none⟩) m cap) m HL) {k : Nat} (hk : k < m) (e : Held) :
    LRow B (((((((w.setCell ⟨g, k * 7, none⟩ (.int .i64 e.h)).setCell ⟨g, k * 7 + 1, none⟩ (.int .i64 e.mark)).setCell ⟨g, k * 7 + 2, none⟩ (.int .i64 e.link)).setCell ⟨g, k * 7 + 3, none⟩ (.int .i64 e.a)).setCell ⟨g, k * 7 + 4, none⟩ (.int .i64 e.b)).setCell ⟨g, k * 7 + 5, none⟩ (.int .i64 e.c)).setCell ⟨g, k * 7 + 6, none⟩ (.int .i64 e.d)) (.slice (some ⟨g, 0, none⟩) m cap) m (upd HL k e) := by
  rw [Nat.mul_comm k 7]
  have h0 := h.put hk (j := 0) (by omega) (e := { HL k with h := e.h }) (u := .int .i64 e.h) rfl (fun j hj hn => by match j, hj with | 0, _ => exact absurd rfl hn | 1, _ => rfl | 2, _ => rfl | 3, _ => rfl | 4, _ => rfl | 5, _ => rfl | 6, _ => rfl)
  have h1 := h0.put hk (j := 1) (by omega) (e := { HL k with h := e.h, mark := e.mark }) (u := .int .i64 e.mark) rfl (fun j hj hn => by rw [upd_same]; match j, hj with | 1, _ => exact absurd rfl hn | 0, _ => rfl | 2, _ => rfl | 3, _ => rfl | 4, _ => rfl | 5, _ => rfl | 6, _ => rfl)
  have h2 := h1.put hk (j := 2) (by omega) (e := { HL k with h := e.h, mark := e.mark, link := e.link }) (u := .int .i64 e.link) rfl (fun j hj hn => by rw [upd_same]; match j, hj with | 2, _ => exact absurd rfl hn | 0, _ => rfl | 1, _ => rfl | 3, _ => rfl | 4, _ => rfl | 5, _ => rfl | 6, _ => rfl)
  have h3 := h2.put hk (j := 3) (by omega) (e := { HL k with h := e.h, mark := e.mark, link := e.link, a := e.a }) (u := .int .i64 e.a) rfl (fun j hj hn => by rw [upd_same]; match j, hj with | 3, _ => exact absurd rfl hn | 0, _ => rfl | 1, _ => rfl | 2, _ => rfl | 4, _ => rfl | 5, _ => rfl | 6, _ => rfl)
  have h4 := h3.put hk (j := 4) (by omega) (e := { HL k with h := e.h, mark := e.mark, link := e.link, a := e.a, b := e.b }) (u := .int .i64 e.b) rfl (fun j hj hn => by rw [upd_same]; match j, hj with | 4, _ => exact absurd rfl hn | 0, _ => rfl | 1, _ => rfl | 2, _ => rfl | 3, _ => rfl | 5, _ => rfl | 6, _ => rfl)
  have h5 := h4.put hk (j := 5) (by omega) (e := { HL k with h := e.h, mark := e.mark, link := e.link, a := e.a, b := e.b, c := e.c }) (u := .int .i64 e.c) rfl (fun j hj hn => by rw [upd_same]; match j, hj with | 5, _ => exact absurd rfl hn | 0, _ => rfl | 1, _ => rfl | 2, _ => rfl | 3, _ => rfl | 4, _ => rfl | 6, _ => rfl)
  have h6 := h5.put hk (j := 6) (by omega) (e := e) (u := .int .i64 e.d) rfl (fun j hj hn => by rw [upd_same]; match j, hj with | 6, _ => exact absurd rfl hn | 0, _ => rfl | 1, _ => rfl | 2, _ => rfl | 3, _ => rfl | 4, _ => rfl | 5, _ => rfl)
  have hu : upd (upd (upd (upd (upd (upd (upd HL k { HL k with h := e.h }) k { HL k with h := e.h, mark := e.mark }) k { HL k with h := e.h, mark := e.mark, link := e.link }) k { HL k with h := e.h, mark := e.mark, link := e.link, a := e.a }) k { HL k with h := e.h, mark := e.mark, link := e.link, a := e.a, b := e.b }) k { HL k with h := e.h, mark := e.mark, link := e.link, a := e.a, b := e.b, c := e.c }) k e = upd HL k e := by
    funext j
    unfold upd
    by_cases x : j = k <;> simp [x]
  rw [hu] at h6
  exact h6
/-- Behind a Give: the last one is laid over the one that went, and let go. -/
theorem PLW.gave (L : PoolLaws At) {w6 : World} {s' : PSt} {g cap : Nat} (hb : Turned [] W w6) (hfn : ∀ x, x ∈ F → W.heap.size ≤ x) (ha : At w6 p F s') (hr : LRow W.heap.size w6 (.slice (some ⟨g, 0, none⟩) m cap) m HL) {k : Nat} (hk : k < m) {St' : List Nat} {last' : Int} {it' : Nat} (hp : PL s' (m - 1) (fun p => if p = k then HL (m - 1) else HL p) St' last' it') (hf0 : 0 ≤ s'.faults) (hf1 : s'.faults ≤ it') :
    PLW At W (((((((w6.setCell ⟨g, k * 7, none⟩ (.int .i64 (HL (m - 1)).h)).setCell ⟨g, k * 7 + 1, none⟩ (.int .i64 (HL (m - 1)).mark)).setCell ⟨g, k * 7 + 2, none⟩ (.int .i64 (HL (m - 1)).link)).setCell ⟨g, k * 7 + 3, none⟩ (.int .i64 (HL (m - 1)).a)).setCell ⟨g, k * 7 + 4, none⟩ (.int .i64 (HL (m - 1)).b)).setCell ⟨g, k * 7 + 5, none⟩ (.int .i64 (HL (m - 1)).c)).setCell ⟨g, k * 7 + 6, none⟩ (.int .i64 (HL (m - 1)).d)) p F s' (m - 1) (fun p => if p = k then HL (m - 1) else HL p) St' last' it' (.slice (some ⟨g, 0, none⟩) (m - 1) cap) := by
  have hgF : g ∉ F := sep_of L ha hr g rfl
  have hg1 : W.heap.size ≤ g := by
    obtain ⟨xs, ho, -⟩ := hr
    exact (ho.lt g rfl).1
  have t7 : ∀ (l : List Nat) (a : World), (g ∈ l ∨ a.heap.size ≤ g) → Turned l a w6 → Turned l a (((((((w6.setCell ⟨g, k * 7, none⟩ (.int .i64 (HL (m - 1)).h)).setCell ⟨g, k * 7 + 1, none⟩ (.int .i64 (HL (m - 1)).mark)).setCell ⟨g, k * 7 + 2, none⟩ (.int .i64 (HL (m - 1)).link)).setCell ⟨g, k * 7 + 3, none⟩ (.int .i64 (HL (m - 1)).a)).setCell ⟨g, k * 7 + 4, none⟩ (.int .i64 (HL (m - 1)).b)).setCell ⟨g, k * 7 + 5, none⟩ (.int .i64 (HL (m - 1)).c)).setCell ⟨g, k * 7 + 6, none⟩ (.int .i64 (HL (m - 1)).d)) := fun l a hl ht =>
    ((((((ht.set hl _ _).set hl _ _).set hl _ _).set hl _ _).set hl _ _).set hl _ _).set hl _ _
  have r7 := hr.put7 hk (HL (m - 1))
  refine ⟨L.keep ha (t7 [g] w6 (.inl (by simp)) (Turned.refl _ _)) (by simpa using hgF), hp, ?_, t7 [] W (.inr hg1) hb, hfn, hf0, hf1⟩
  obtain ⟨m1, rfl⟩ : ∃ m1, m = m1 + 1 := ⟨m - 1, by omega⟩
  exact r7.pop
theorem PLW.stored (L : PoolLaws At) {w6 : World} {s' : PSt} {g cap : Nat} (hb : Turned [] W w6) (hfn : ∀ x, x ∈ F → W.heap.size ≤ x) (ha : At w6 p F s') (hr : LRow W.heap.size w6 (.slice (some ⟨g, 0, none⟩) m cap) m HL) {k j : Nat} (hk : k < m) (hj : j < 7) {e : Held} {u : Value} (hu : u = fld e j) (he : ∀ i, i < 7 → i ≠ j → fld e i = fld (HL k) i)
    {St' : List Nat} {last' : Int} {it' : Nat} (hp : PL s' m (upd HL k e) St' last' it') (hf0 : 0 ≤ s'.faults) (hf1 : s'.faults ≤ it') : PLW At W (w6.setCell ⟨g, k * 7 + j, none⟩ u) p F s' m (upd HL k e) St' last' it' (.slice (some ⟨g, 0, none⟩) m cap) := by
  have hgF : g ∉ F := sep_of L ha hr g rfl
  have hg1 : W.heap.size ≤ g := by
    obtain ⟨xs, ho, -⟩ := hr
    exact (ho.lt g rfl).1
  refine ⟨L.keep ha ((Turned.refl [g] w6).set (r := g) (.inl (by simp)) _ _) (by simpa using hgF), hp, ?_, hb.set (.inr hg1) _ _, hfn, hf0, hf1⟩
  rw [Nat.mul_comm k 7]
  exact hr.put hk hj hu he
/-- A Take's own block, and what the append reads. -/
theorem PLW.laid (L : PoolLaws At) (h : PLW At W w p F s m HL St last it v) {O : Obj} {w5 : World} (ht : Turned F (w.alloc O) w5) (hd link a b c d : Int) (u : Value) :
    LRow W.heap.size ((w5.setCell ⟨w.heap.size, 0, none⟩ u).alloc (.cells #[.int .i64 hd, .int .i64 0, .int .i64 link, .int .i64 a, .int .i64 b, .int .i64 c, .int .i64 d] 33)) v m HL ∧
    (∀ j, j < 7 → ((w5.setCell ⟨w.heap.size, 0, none⟩ u).alloc (.cells #[.int .i64 hd, .int .i64 0, .int .i64 link, .int .i64 a, .int .i64 b, .int .i64 c, .int .i64 d] 33)).cell? ⟨w5.heap.size, j, none⟩ = some (fld ⟨hd, 0, link, a, b, c, d⟩ j)) ∧
    W.heap.size ≤ ((w5.setCell ⟨w.heap.size, 0, none⟩ u).alloc (.cells #[.int .i64 hd, .int .i64 0, .int .i64 link, .int .i64 a, .int .i64 b, .int .i64 c, .int .i64 d] 33)).heap.size := by
  have hG := h.grown L ((Turned.refl [] w).alloc O)
  have r5 := hG.row.keep ht (hG.sep L)
  have hvn : ∀ g, v.ownBlock = some g → g ∉ [w.heap.size] := fun g hg => by
    obtain ⟨cur, hc⟩ := h.row.obj hg
    have := lt_of_heap hc
    simp; omega
  have r6 := r5.keep ((Turned.refl [w.heap.size] w5).set (r := w.heap.size) (.inl (by simp)) 0 u) hvn
  have hsz : (w5.setCell ⟨w.heap.size, 0, none⟩ u).heap.size = w5.heap.size := by simp [World.setCell]
  refine ⟨r6.keep ((Turned.refl [] _).alloc _) (by simp), fun j hj => ?_, ?_⟩
  · have hb := blk_new (w5.setCell ⟨w.heap.size, 0, none⟩ u) (.cells #[.int .i64 hd, .int .i64 0, .int .i64 link, .int .i64 a, .int .i64 b, .int .i64 c, .int .i64 d] 33)
    rw [hsz] at hb
    rw [cell_at hb j]
    match j, hj with
    | 0, _ => rfl
    | 1, _ => rfl
    | 2, _ => rfl
    | 3, _ => rfl
    | 4, _ => rfl
    | 5, _ => rfl
    | 6, _ => rfl
  · have h1 := hG.base.size
    have h2 := ht.size
    simp only [World.alloc, Array.size_push, hsz]
    omega
theorem PLW.pushed (L : PoolLaws At) (h : PLW At W w p F s m HL St last it v) {O O2 : Obj} {w5 w8 : World} (ht : Turned F (w.alloc O) w5) (u : Value) {s' : PSt} {F' : List Nat} (ha : At w5 p F' s') (hgr : Wider F F' (w.alloc O)) (hg : ((w5.setCell ⟨w.heap.size, 0, none⟩ u).alloc O2).grownBy w8 v.ownBlock)
    {v' : Value} {m' : Nat} {HL' : Nat → Held} (hr : LRow W.heap.size w8 v' m' HL') {St' : List Nat} {last' : Int} {it' : Nat} (hp : PL s' m' HL' St' last' it') (hf0 : 0 ≤ s'.faults) (hf1 : s'.faults ≤ it') : PLW At W w8 p F' s' m' HL' St' last' it' v' := by
  have hG := h.grown L ((Turned.refl [] w).alloc O)
  have hnF : w.heap.size ∉ F := fun x => Nat.lt_irrefl _ (L.lt h.at_ _ x)
  have hnF' : w.heap.size ∉ F' := fun x => by
    rcases hgr _ x with h1 | h1
    · exact hnF h1
    · have e1 : (w.alloc O).heap.size = w.heap.size + 1 := by simp
      omega
  have hWs := h.base.size
  have t5 : Turned [] W w5 := hG.base.inner ht (fun x hx => .inr (h.fnew x hx))
  have t6 : Turned [] W (w5.setCell ⟨w.heap.size, 0, none⟩ u) := t5.set (.inr hWs) 0 u
  have t7 : Turned [] W ((w5.setCell ⟨w.heap.size, 0, none⟩ u).alloc O2) := t6.alloc O2
  have hv : ∀ x, x ∈ v.ownBlock.toList → x ∉ F' ∧ W.heap.size ≤ x := fun x hx => by
    have hx' : v.ownBlock = some x := by simpa using hx
    obtain ⟨cur, hc⟩ := h.row.obj hx'
    have hlt := lt_of_heap hc
    refine ⟨fun hxF => ?_, ?_⟩
    · rcases hgr _ hxF with h1 | h1
      · exact h.sep L x hx' h1
      · have e1 : (w.alloc O).heap.size = w.heap.size + 1 := by simp
        omega
    obtain ⟨xs, ho, -⟩ := h.row
    exact (ho.lt _ hx').1
  have a6 : At (w5.setCell ⟨w.heap.size, 0, none⟩ u) p F' s' := L.keep ha ((Turned.refl [w.heap.size] w5).set (r := w.heap.size) (.inl (by simp)) 0 u) (by simpa using hnF')
  have a7 : At ((w5.setCell ⟨w.heap.size, 0, none⟩ u).alloc O2) p F' s' := L.keep a6 ((Turned.refl [] _).alloc O2) (by simp)
  have tg : Turned v.ownBlock.toList ((w5.setCell ⟨w.heap.size, 0, none⟩ u).alloc O2) w8 := ⟨hg.os, hg.tape, hg.output, hg.size, fun k hk hn => hg.block k hk (fun e => hn (by rw [← e]; simp))⟩
  exact ⟨L.keep a7 tg (fun x hx => (hv x hx).1), hp, hr, t7.inner tg (fun x hx => .inr (hv x hx).2), h.grew ((Turned.refl [] w).alloc O) hgr, hf0, hf1⟩
end
end Go.Proofs.Ytfebndolnnaiiab

/- A new book; the two pairs and the book, side by side. -/
import Derived.Test.YtjbhnpofdafmbaaGreatDoorJ39
import Derived.Test.YtjbhnpofdafmbaaGreatDoorJ40
import Derived.Test.YtjbhnpofdafmbaaGreatDoorJ13
import Derived.Test.YtjbhnpofdafmbaaGreatDoorJ27
import Derived.Test.YtjbhnpofdafmbaaGreatDoorJ32
import Derived.Test.YtjbhnpofdafmbaaGreatDoorJ33
import Derived.Test.YtjbhnpofdafmbaaGreatDoorJ37
namespace Go.Proofs.YtjbhnpofdafmbaaGreatDoor
open Go.RowKit
section
variable {w w' W : World} {bb turn deep si ss : Nat} {C C' : Own} {a b : Bool}
def bookC : List Value := (List.range 103).map fun i => if i ≤ 1 then .bool false else if i ≤ 3 ∨ (i + 5) % 9 = 8 then .int .i64 0 else .slice none 0 0
theorem book_built : Tryz.prog.built 41 [] = some bookC.toArray := by kernel_rfl
theorem wp_book {o : Oper} {a : Act} {w : World} {K : Act → World → Prop} {Q : Exit → Act → World → Prop} (ho : o.op = .build 41 #[]) (h : K (a.put o.dst (.agg bookC.toArray)) w) : o.wp Tryz.prog a w K Q :=
  wp_build _ _ ho (by simp [book_built]) (by simpa [book_built] using h)
theorem BSt.new (w : World) : BSt true true w.heap.size (fun g => if g = w.heap.size then some (0, .bk) else none) 0 0 0 0 (w.alloc (.cells bookC.toArray 41 (0, 0))) := by
  refine ⟨fun i => if i ≤ 1 then .bool false else if i ≤ 3 ∨ (i + 5) % 9 = 8 then .int .i64 0 else .slice none 0 0, [], [], [], [], [], [], ⟨fun g hg => ?_, if_pos rfl⟩, ⟨_, blk_new w _, by simp [bookC], fun i hi => ?_⟩, ⟨⟨RowAt.nil _ _ _ _ _, RowAt.nil _ _ _ _ _, RowAt.nil _ _ _ _ _, RowAt.nil _ _ _ _ _, RowAt.nil _ _ _ _ _, RowAt.nil _ _ _ _ _, RowAt.nil _ _ _ _ _, RowAt.nil _ _ _ _ _⟩, ⟨by simp, by simp, by simp, by simp, by simp⟩⟩, ⟨⟨RowAt.nil _ _ _ _ _, RowAt.nil _ _ _ _ _, RowAt.nil _ _ _ _ _, RowAt.nil _ _ _ _ _, RowAt.nil _ _ _ _ _, RowAt.nil _ _ _ _ _, RowAt.nil _ _ _ _ _, RowAt.nil _ _ _ _ _⟩, ⟨by simp, by simp, by simp, by simp, by simp⟩⟩, rfl, rfl, rfl, rfl, rfl, rfl, fun i hi hc hm => ?_, rfl, rfl, fun _ => rfl, fun _ => rfl⟩
  · by_cases e : g = w.heap.size
    · subst e; simp
    · exact absurd (if_neg e) hg
  · simp [bookC, hi]
  · show (if i ≤ 1 then Value.bool false else if i ≤ 3 ∨ (i + 5) % 9 = 8 then .int .i64 0 else .slice none 0 0) = _
    rw [if_neg (by omega), if_neg (by omega)]
theorem BSt.away (h : BSt a b bb C turn deep si ss w) {l : List Nat} (ht : Turned l w w') (hl : ∀ g, g ∈ l → C g = none) : BSt a b bb C turn deep si ss w' := by
  obtain ⟨f, oi, wi, fi, os, ws, fs, hF, hB, hI, hS, h0, h1, h2, h3, h12, h39, hN, li, ls, ha, hb⟩ := h.ex
  have kk : ∀ κ, Keeps κ C w C w' := fun κ g t hg => ⟨ht.block g (hF.dom g (by rw [hg]; simp)) (fun hm => by rw [hl g hm] at hg; cases hg), hg⟩
  exact ⟨f, oi, wi, fi, os, ws, fs, ⟨fun g hg => Nat.lt_of_lt_of_le (hF.dom g hg) ht.size, hF.bk⟩, hB.keep ht (fun hm => by have := hl _ hm; rw [hF.bk] at this; cases this), ⟨(kk _).out hI.1 (fun _ _ _ => rfl), (kk _).rows hI.2⟩, ⟨(kk _).out hS.1 (fun _ _ _ => rfl), (kk _).rows hS.2⟩, h0, h1, h2, h3, h12, h39, hN, li, ls, ha, hb⟩
theorem Pair.more {p : PairB} {s : PSt} {hs_ : List Int} {it : Nat} (h : Pair w p s hs_ it) : Pair w p s hs_ (it + 1) := ⟨h.obj, h.pa, h.rp, h.row, h.gl, h.good.more, Nat.le_trans h.few (Nat.le_succ _)⟩
/-- Both pairs behind k calls, and the book, behind at most t. -/
structure LM (W : World) (x1 x2 bb k t : Nat) (w : World) : Prop where
  ex : ∃ (b1 b2 : PairB) (s1 s2 : PSt) (hs1 hs2 : List Int) (C : Own) (turn si ss : Nat), b1.x = x1 ∧ b2.x = x2 ∧ Pair w b1 s1 hs1 k ∧ Pair w b2 s2 hs2 k ∧ BSt true true bb C turn 0 si ss w ∧ turn ≤ t ∧ si ≤ t ∧ ss ≤ t ∧ (∀ y, y ∈ b1.F s1.n → C y = none ∧ W.heap.size ≤ y ∧ y ∉ b2.F s2.n) ∧ (∀ y, y ∈ b2.F s2.n → C y = none ∧ W.heap.size ≤ y) ∧ (∀ y, y < W.heap.size → C y = none) ∧ Below W.heap.size W w
variable {x1 x2 k t : Nat}
theorem LM.swap (h : LM W x1 x2 bb k t w) : LM W x2 x1 bb k t w := by
  obtain ⟨b1, b2, s1, s2, hs1, hs2, C, turn, si, ss, e1, e2, p1, p2, hB, l1, l2, l3, f1, f2, f3, hb⟩ := h.ex
  exact ⟨b2, b1, s2, s1, hs2, hs1, C, turn, si, ss, e2, e1, p2, p1, hB, l1, l2, l3, fun y hy => ⟨(f2 y hy).1, (f2 y hy).2, fun h1 => (f1 y h1).2.2 hy⟩, fun y hy => ⟨(f1 y hy).1, (f1 y hy).2.1⟩, f3, hb⟩
theorem LM.below (h : LM W x1 x2 bb k t w) : Below W.heap.size W w := by
  obtain ⟨b1, b2, s1, s2, hs1, hs2, C, turn, si, ss, e1, e2, p1, p2, hB, l1, l2, l3, f1, f2, f3, hb⟩ := h.ex
  exact hb
theorem LM.does (h : LM W x1 x2 bb k t w) (hk : k ≤ 1000) (o : OpV) : Calls Tryz.prog 6 #[.pointer (some ⟨x1, 0, none⟩), .agg (opC o)] w fun e w' => e = .returned (.bool true) ∧ LM W x1 x2 bb (k + 1) t w' := by
  obtain ⟨b1, b2, s1, s2, hs1, hs2, C, turn, si, ss, rfl, rfl, p1, p2, hB, l1, l2, l3, f1, f2, f3, hb⟩ := h.ex
  refine (cDoes p1 hk o).mono ?_
  rintro e w' ⟨rfl, hD⟩
  obtain ⟨b', s', hs', q1, q2, q3, q4, q5⟩ := hD.ex
  have hlt2 := p2.lt'
  refine ⟨rfl, b', b2, s', s2, hs', hs2, C, turn, si, ss, q1, rfl, q3, (p2.sameF (fun y hy => q4.block y (hlt2 y hy) (fun hm => (f1 y hm).2.2 hy))).more, hB.away q4 (fun g hg => (f1 g hg).1), l1, l2, l3, fun y hy => ?_, f2, f3, q4.below hb (fun x hx => (f1 x hx).2.1) hb.size⟩
  rw [q2] at hy
  rcases q5 y hy with e | e
  · exact f1 y e
  · have := hb.size
    exact ⟨hB.fresh e, by omega, fun h2 => by have := hlt2 y h2; omega⟩
theorem LM.does2 (h : LM W x1 x2 bb k t w) (hk : k ≤ 1000) (o : OpV) : Calls Tryz.prog 6 #[.pointer (some ⟨x2, 0, none⟩), .agg (opC o)] w fun e w' => e = .returned (.bool true) ∧ LM W x1 x2 bb (k + 1) t w' :=
  (h.swap.does hk o).mono fun _ _ g => ⟨g.1, g.2.swap⟩
theorem LM.stands {mark : Int} (h : LM W x1 x2 bb k t w) (hm : -1000000 ≤ mark ∧ mark ≤ 1000000) (ht : t ≤ 30000) : Calls Tryz.prog 7 #[.pointer (some ⟨x1, 0, none⟩), .pointer (some ⟨bb, 0, none⟩), .int .i64 mark] w fun e w' => e = .returned (.bool true) ∧ LM W x1 x2 bb k (t + 4) w' := by
  obtain ⟨b1, b2, s1, s2, hs1, hs2, C, turn, si, ss, rfl, rfl, p1, p2, hB, l1, l2, l3, f1, f2, f3, hb⟩ := h.ex
  refine (cStands p1 hB (fun y hy => (f1 y hy).1) hm (by omega) (by omega) (by omega)).mono ?_
  rintro e w' ⟨rfl, C', hB', hF⟩
  have hlt1 := p1.lt'
  have hlt2 := p2.lt'
  have hsz := hb.size
  refine ⟨rfl, b1, b2, s1, s2, hs1, hs2, C', turn + 4, si + 2, ss + 2, rfl, rfl, p1.sameF (fun y hy => hF.heap (hlt1 y hy) (f1 y hy).1), p2.sameF (fun y hy => hF.heap (hlt2 y hy) (f2 y hy).1), hB', by omega, by omega, by omega, fun y hy => ⟨(hF.blk y (hlt1 y hy) (f1 y hy).1).2, (f1 y hy).2⟩, fun y hy => ⟨(hF.blk y (hlt2 y hy) (f2 y hy).1).2, (f2 y hy).2⟩, fun y hy => (hF.blk y (by omega) (f3 y hy)).2, ⟨hF.os.trans hb.os, hF.tape.trans hb.tape, hF.output.trans hb.output, Nat.le_trans hb.size hF.size, fun g hg => (hF.heap (by omega) (f3 g hg)).trans (hb.block g hg)⟩⟩
theorem LM.stands2 {mark : Int} (h : LM W x1 x2 bb k t w) (hm : -1000000 ≤ mark ∧ mark ≤ 1000000) (ht : t ≤ 30000) : Calls Tryz.prog 7 #[.pointer (some ⟨x2, 0, none⟩), .pointer (some ⟨bb, 0, none⟩), .int .i64 mark] w fun e w' => e = .returned (.bool true) ∧ LM W x1 x2 bb k (t + 4) w' :=
  (h.swap.stands hm ht).mono fun _ _ g => ⟨g.1, g.2.swap⟩
theorem LM.hold (h : LM W x1 x2 bb k t w) (ht : t ≤ 30000) : Calls Tryz.prog 8 #[.pointer (some ⟨bb, 0, none⟩)] w fun e w' => e = .returned (.bool true) ∧ Below W.heap.size W w' := by
  obtain ⟨b1, b2, s1, s2, hs1, hs2, C, turn, si, ss, rfl, rfl, p1, p2, hB, l1, l2, l3, f1, f2, f3, hb⟩ := h.ex
  refine (bHold hB (by omega) (by omega)).mono ?_
  rintro e w' ⟨rfl, -, hT⟩
  exact ⟨rfl, hT.below hb (by simp) hb.size⟩
theorem LM.upto {t' : Nat} (h : LM W x1 x2 bb k t w) (ht : t ≤ t') : LM W x1 x2 bb k t' w := by
  obtain ⟨b1, b2, s1, s2, hs1, hs2, C, turn, si, ss, e1, e2, p1, p2, hB, l1, l2, l3, f1, f2, f3, hb⟩ := h.ex
  exact ⟨b1, b2, s1, s2, hs1, hs2, C, turn, si, ss, e1, e2, p1, p2, hB, by omega, by omega, by omega, f1, f2, f3, hb⟩
theorem LM.start {w1 w2 w3 : World} {n m : Nat} {v1 v2 : Value} (hb : Below W.heap.size W w1) (h1 : Beg w1 n v1 w2) (h2 : Beg w2 m v2 w3) : ∃ x1 x2, v1 = .pointer (some ⟨x1, 0, none⟩) ∧ v2 = .pointer (some ⟨x2, 0, none⟩) ∧ LM W x1 x2 w3.heap.size 0 0 (w3.alloc (.cells bookC.toArray 41 (0, 0))) := by
  obtain ⟨b1, rfl, p1, t1, n1⟩ := h1.ex
  obtain ⟨b2, rfl, p2, t2, n2⟩ := h2.ex
  have s1 := hb.size
  have s2 := t1.size
  have s3 := t2.size
  have l1 := p1.lt'
  have l2 := p2.lt'
  have t3 := (Turned.refl [] w3).alloc (.cells bookC.toArray 41 (0, 0))
  have ta := t2.trans t3
  have np : ∀ y, y < w3.heap.size → (fun g => if g = w3.heap.size then some ((0 : Nat), Tg.bk) else none) y = none := fun y hy => if_neg (by omega)
  refine ⟨_, _, rfl, rfl, b1, b2, _, _, _, _, _, 0, 0, 0, rfl, rfl, p1.sameF (fun y hy => ta.block y (l1 y hy) (by simp)), p2.sameF (fun y hy => t3.block y (l2 y hy) (by simp)), BSt.new w3, Nat.le_refl _, Nat.le_refl _, Nat.le_refl _, fun y hy => ⟨np y ?_, ?_, fun h2 => ?_⟩, fun y hy => ⟨np y (l2 y hy), ?_⟩, fun y hy => np y (by omega), ?_⟩
  · have := l1 y hy; omega
  · have := n1 y hy; omega
  · have := n2 y h2; have := l1 y hy; omega
  · have := n2 y hy; omega
  · exact (t1.trans ta).below hb (by simp) hb.size
end
end Go.Proofs.YtjbhnpofdafmbaaGreatDoor
/- A frame, spelled out. -/
namespace Go.Proofs.YtjbhnpofdafmbaaGreatDoor
open Go.RowKit
def lit103 (c : Nat → Value) : Array Value := #[c 0, c 1, c 2, c 3, c 4, c 5, c 6, c 7, c 8, c 9, c 10, c 11, c 12, c 13, c 14, c 15, c 16, c 17, c 18, c 19, c 20, c 21, c 22, c 23, c 24, c 25, c 26, c 27, c 28, c 29, c 30, c 31, c 32, c 33, c 34, c 35, c 36, c 37, c 38, c 39, c 40, c 41, c 42, c 43, c 44, c 45, c 46, c 47, c 48, c 49, c 50, c 51, c 52, c 53, c 54, c 55, c 56, c 57, c 58, c 59, c 60, c 61, c 62, c 63, c 64, c 65, c 66, c 67, c 68, c 69, c 70, c 71, c 72, c 73, c 74, c 75, c 76, c 77, c 78, c 79, c 80, c 81, c 82, c 83, c 84, c 85, c 86, c 87, c 88, c 89, c 90, c 91, c 92, c 93, c 94, c 95, c 96, c 97, c 98, c 99, c 100, c 101, c 102]
set_option maxRecDepth 100000 in
theorem lit103_eq (c : Nat → Value) : lit103 c = ((List.range 103).map c).toArray := by rfl
theorem expand103 {a : Act} (hs : a.tmps.size = 103) (hd : a.defers = []) : ∃ c : Nat → Value, a = ⟨lit103 c, []⟩ ∧ ∀ s, c s = a.eval (.tmp s) := by
  refine ⟨fun s => a.tmps.getD s undef, ?_, fun s => rfl⟩
  obtain ⟨t, d⟩ := a
  simp only at hs hd
  subst hd
  congr 1
  rw [lit103_eq]
  refine Array.ext (by simp [hs]) fun i h1 h2 => ?_
  simp [Array.getD, h1]
end Go.Proofs.YtjbhnpofdafmbaaGreatDoor
/- Package pool keeps its laws. -/
namespace Go.Proofs.YtjbhnpofdafmbaaGreatDoor
open Go.RowKit
/-- The program's pool. -/
def PoolAt (w : World) (p : Nat) (F : List Nat) (s : PSt) : Prop := ∃ sb pb nb L, PA w p sb pb nb L s ∧ F = blocks p sb pb nb L s.n
theorem PoolAt.same {w w' : World} {p sb pb nb : Nat} {L : Nat → Nat} {s : PSt} (h : PA w p sb pb nb L s) (ht : Turned [] w w') : Turned (blocks p sb pb nb L s.n) w w' ∧ PoolAt w' p (blocks p sb pb nb L s.n) s :=
  ⟨ht.mono (by simp), sb, pb, nb, L, h.keep ht (by simp), rfl⟩
theorem poolLaws : PoolLaws PoolAt where
  keep := by
    rintro w w' p F l s ⟨sb, pb, nb, L, h, rfl⟩ ht hl
    exact ⟨sb, pb, nb, L, h.keep ht hl, rfl⟩
  lt := by
    rintro w p F s ⟨sb, pb, nb, L, h, rfl⟩
    exact h.lt
  new := by
    intro w n h1 h2
    refine (cPNew w n h1 h2).mono ?_
    rintro e w' ⟨rfl, ht, h⟩
    refine ⟨_, _, rfl, ht, ⟨_, _, _, _, h, rfl⟩, fun x hx => ?_⟩
    rcases mem_blocks hx with rfl | rfl | rfl | rfl | ⟨k, hk, rfl⟩ <;> omega
  take := by
    rintro w p F s i ⟨sb, pb, nb, L, h, rfl⟩ ho hi h0 g0 g1 a b c d link
    refine (cPTake h ho hi h0 g0 g1 a b c d link).mono ?_
    rintro e w' ⟨rfl, ht, b', hb, h'⟩
    exact ⟨rfl, ht, _, ⟨sb, pb, nb, _, h', rfl⟩, wider_lead hb⟩
  takeFull := by
    rintro w p F s ⟨sb, pb, nb, L, h, rfl⟩ ho hi a b c d link
    refine (cPTakeFull h hi a b c d link).mono ?_
    rintro e w' ⟨rfl, ht, h'⟩
    exact ⟨rfl, PoolAt.same h ht⟩
  give := by
    rintro w p F s i g ⟨sb, pb, nb, L, h, rfl⟩ ho h1 h2 g0 g1 g2 hg
    refine (cPGive h h1 h2 ho.n2 g0 g1 g2 hg ho).mono ?_
    rintro e w' ⟨rfl, ht, b', hb, h'⟩
    exact ⟨rfl, ht, _, ⟨sb, pb, nb, _, h', rfl⟩, wider_lead hb⟩
  giveGone := by
    rintro w p F s i g ⟨sb, pb, nb, L, h, rfl⟩ ho h1 h2 g0 g1 g2 hg
    refine (cPGiveGone h h1 h2 ho.n2 g0 g1 g2 hg).mono ?_
    rintro e w' ⟨rfl, rfl⟩
    exact ⟨rfl, PoolAt.same h (Turned.refl _ _).drew⟩
  read := by
    rintro w p F s i g ⟨sb, pb, nb, L, h, rfl⟩ ho h1 h2 g0 g1 g2 hg
    refine (cPRead h h1 h2 ho.n2 g0 g1 g2 hg).mono ?_
    rintro e w' ⟨rfl, ht, h'⟩
    exact ⟨rfl, PoolAt.same h ht⟩
  readGone := by
    rintro w p F s i g ⟨sb, pb, nb, L, h, rfl⟩ ho h1 h2 g0 g1 g2 hg f0 f1
    refine (cPReadGone h h1 h2 ho.n2 g0 g1 g2 hg f0 f1).mono ?_
    rintro e w' ⟨rfl, ht, h'⟩
    exact ⟨rfl, ht.mono (by simp [blocks]), sb, pb, nb, L, h', rfl⟩
  readBad := by
    rintro w p F s x ⟨sb, pb, nb, L, h, rfl⟩ ho hb
    refine (cPReadBad h hb).mono ?_
    rintro e w' ⟨rfl, ht, h'⟩
    exact ⟨rfl, PoolAt.same h ht⟩
  slots := by
    rintro w p F s ⟨sb, pb, nb, L, h, rfl⟩ ho
    refine (cPSlots h ho.n2).mono ?_
    rintro e w' ⟨rfl, ht, hg⟩
    refine ⟨(PoolAt.same h ht).1, (PoolAt.same h ht).2, _, _, _, rfl, Nat.le_refl _, hg, fun j k hj hk => ?_⟩
    have := rec_cell hg hj hk
    rw [cell_at hg, Nat.mul_comm j 7] at this
    rw [this]
    simp [sTab, hj]
  mark := by
    rintro w p F s i g ⟨sb, pb, nb, L, h, rfl⟩ ho h1 h2 g0 g1 g2 hg
    refine (cPMark h h1 h2 ho.n2 g0 g1 g2 hg).mono ?_
    rintro e w' ⟨rfl, rfl⟩
    exact ⟨rfl, PoolAt.same h (Turned.refl _ _)⟩
  casMark := by
    rintro w p F s i g ⟨sb, pb, nb, L, h, rfl⟩ ho h1 h2 g0 g1 g2 hg old v
    by_cases hm : (s.slot i).mark = old
    · refine (cPCasMark h h1 h2 ho.n2 g0 g1 g2 hg old v hm).mono ?_
      rintro e w' ⟨rfl, rfl⟩
      refine ⟨by simp [hm], (Turned.refl _ _).set (.inl (mem_life h2)) _ _, ?_⟩
      rw [if_pos hm]
      exact ⟨sb, pb, nb, L, h.putMark h2 (by omega) v, rfl⟩
    · refine (cPCasNot h h1 h2 ho.n2 g0 g1 g2 hg old v hm).mono ?_
      rintro e w' ⟨rfl, rfl⟩
      rw [if_neg hm]
      exact ⟨by simp [hm], PoolAt.same h (Turned.refl _ _)⟩
  swapLink := by
    rintro w p F s i g ⟨sb, pb, nb, L, h, rfl⟩ ho h1 h2 g0 g1 g2 hg v
    refine (cPSwap h h1 h2 ho.n2 g0 g1 g2 hg v).mono ?_
    rintro e w' ⟨rfl, rfl⟩
    exact ⟨rfl, (Turned.refl _ _).set (.inl (mem_life h2)) _ _, sb, pb, nb, L, h.putLink h2 (by omega) v, rfl⟩
  faults := by
    rintro w p F s ⟨sb, pb, nb, L, h, rfl⟩
    refine (cPFaults h).mono ?_
    rintro e w' ⟨rfl, rfl⟩
    exact ⟨rfl, PoolAt.same h (Turned.refl _ _)⟩
  free := by
    rintro w p F s St ⟨sb, pb, nb, L, h, rfl⟩ ho hL hN hS
    refine (cPFree h ho hL hN hS).mono ?_
    rintro e w' ⟨he, ht⟩
    exact ⟨he, PoolAt.same h ht⟩
end Go.Proofs.YtjbhnpofdafmbaaGreatDoor

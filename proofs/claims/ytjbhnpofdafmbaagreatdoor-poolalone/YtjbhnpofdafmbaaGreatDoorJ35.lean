/- The law's pair: the program's pool and the document's, in memory side by side. -/
import Derived.Test.YtjbhnpofdafmbaaGreatDoorJ34
namespace Go.Proofs.YtjbhnpofdafmbaaGreatDoor
open Go.RowKit
structure PairB where
  x : Nat
  p : Nat
  sb : Nat
  pb : Nat
  nb : Nat
  L : Nat → Nat
  r : RB
  lv : Value
def PairB.own (b : PairB) : List Nat := b.x :: (b.r.all ++ b.lv.ownBlock.toList)
def PairB.F (b : PairB) (n : Nat) : List Nat := b.own ++ blocks b.p b.sb b.pb b.nb b.L n
abbrev pairObj (b : PairB) : Obj := .cells #[.pointer (some ⟨b.p, 0, none⟩), .pointer (some ⟨b.r.q, 0, none⟩), .pointer (some ⟨b.r.m, 0, none⟩), b.lv] 70 (0, 0)
/-- The pair behind 'it' calls: both pools are s, the handles hs. -/
structure Pair (w : World) (b : PairB) (s : PSt) (hs : List Int) (it : Nat) : Prop where
  obj : w.heap[b.x]? = some (pairObj b)
  pa : PA w b.p b.sb b.pb b.nb b.L s
  rp : RP w b.r s
  row : w.ownsRow 0 3 1 b.lv hs.length (hs.map (.int .i64 ·))
  gl : b.lv.ownBlock ≠ some b.r.g
  good : Good s it
  few : hs.length ≤ it
section
variable {w x x' : World} {b : PairB} {s s' sP sR : PSt} {hs : List Int} {it p sb pb nb n : Nat} {L : Nat → Nat} {l : List Nat}
/-- The types of the program's pool. -/
def poolTypes : List Nat := [104, 111, 107, 166, 102]
theorem PA.ty (h : PA x p sb pb nb L s) {y : Nat} {cs : Array Value} {t : TypeId} (hy : x.heap[y]? = some (.cells cs t (0, 0))) (ht : t ∉ poolTypes) : y ∉ blocks p sb pb nb L s.n := fun hm => by
  simp only [poolTypes, List.mem_cons, List.not_mem_nil, or_false, not_or] at ht
  obtain ⟨t1, t2, t3, t4, t5⟩ := ht
  rcases mem_blocks hm with e | e | e | e | ⟨k, hk, e⟩
  · exact other_type hy h.pool t1 e
  · exact other_type hy h.slots t2 e
  · exact other_type hy h.pile.head t4 e
  · exact other_type hy h.pile.next t5 e
  · exact other_type hy (h.life k hk) t3 e
theorem PA.offRow (h : PA x p sb pb nb L s) {v : Value} {n : Nat} {xs : List Value} (hr : x.ownsRow 0 3 1 v n xs) {g : Nat} (hg : v.ownBlock = some g) : g ∉ blocks p sb pb nb L s.n := by
  obtain ⟨cur, hc⟩ := Row.obj hr hg
  exact h.ty hc (by decide)
theorem PA.offR {r : RB} (h : PA x p sb pb nb L sP) (hR : RP x r sR) : ∀ y, y ∈ r.all → y ∉ blocks p sb pb nb L sP.n := fun y hy => by
  obtain ⟨cap, e1⟩ := hR.mObj
  obtain ⟨cur, e2⟩ := hR.gObj
  simp only [RB.all, List.mem_cons, List.not_mem_nil, or_false] at hy
  rcases hy with rfl | rfl | rfl | rfl | rfl
  · exact h.ty hR.pool (by decide)
  · exact h.ty hR.pile (by decide)
  · exact h.ty e1 (by decide)
  · exact h.ty e2 (by decide)
  · exact h.ty hR.slots (by decide)
theorem PA.offT {T : List Nat} {tb mb c : Nat} (h : PA x p sb pb nb L s) (hT : Th T x tb mb c) : ∀ y, y ∈ T → y ∉ blocks p sb pb nb L s.n := fun y hy => by
  obtain ⟨own, left, k, lv, n, xs, hb, hr, -, -, -, -, -, rfl⟩ := hT.ex
  rcases List.mem_cons.1 hy with e | e
  · subst e
    exact h.ty hb (by decide)
  · exact h.offRow hr (by simpa using e)
theorem RP.offT {r : RB} (hR : RP x r s) {y : Nat} {cs : Array Value} {t : TypeId} (hy : x.heap[y]? = some (.cells cs t (0, 0))) (ht : t ≠ 3 ∧ t ≠ 132 ∧ t ≠ 181 ∧ t ≠ 128 ∧ t ≠ 64) : y ∉ r.all := fun hm => by
  obtain ⟨t1, t3, t4, t5, t6⟩ := ht
  obtain ⟨cap, e1⟩ := hR.mObj
  obtain ⟨cur, e2⟩ := hR.gObj
  simp only [RB.all, List.mem_cons, List.not_mem_nil, or_false] at hm
  rcases hm with e | e | e | e | e
  · exact other_type hy hR.pool t3 e
  · exact other_type hy hR.pile t4 e
  · exact other_type hy e1 t5 e
  · exact other_type hy e2 t1 e
  · exact other_type hy hR.slots t6 e
theorem RP.offRow {r : RB} (hR : RP x r s) {v : Value} {n : Nat} {xs : List Value} (hr : x.ownsRow 0 3 1 v n xs) (hgl : v.ownBlock ≠ some r.g) {g : Nat} (hg : v.ownBlock = some g) : g ∉ r.all := fun hm => by
  obtain ⟨cur, hc⟩ := Row.obj hr hg
  obtain ⟨cap, e1⟩ := hR.mObj
  simp only [RB.all, List.mem_cons, List.not_mem_nil, or_false] at hm
  rcases hm with e | e | e | e | e
  · exact other_type hc hR.pool (by decide) e
  · exact other_type hc hR.pile (by decide) e
  · exact other_type hc e1 (by decide) e
  · subst e; exact hgl hg
  · exact other_type hc hR.slots (by decide) e
structure OpV where
  kind : Int
  h : Int
  a : Int
  v : Int
  x0 : Int
  x1 : Int
  x2 : Int
  x3 : Int
  second : Bool
abbrev opC (o : OpV) : Array Value := #[.int .i64 o.kind, .int .i64 o.h, .int .i64 o.a, .int .i64 o.v, .int .i64 o.x0, .int .i64 o.x1, .int .i64 o.x2, .int .i64 o.x3, .bool o.second]
/-- In the midst of a call: the program's pool is sP, the document's sR. -/
structure DS (w : World) (b : PairB) (hs : List Int) (sP sR : PSt) (ob tb : Nat) (o : OpV) (T : List Nat) (c : Nat) (x : World) : Prop where
  obj : x.heap[b.x]? = some (pairObj b)
  op : x.heap[ob]? = some (.cells (opC o) 45 (0, 0))
  pa : ∃ L, PA x b.p b.sb b.pb b.nb L sP ∧ Wider (blocks b.p b.sb b.pb b.nb b.L sP.n) (blocks b.p b.sb b.pb b.nb L sP.n) w
  rp : RP x b.r sR
  th : Th T x tb b.r.m c
  out : b.r.g ∉ T
  new : ∀ y, y ∈ T → w.heap.size ≤ y
  row : x.ownsRow 0 3 1 b.lv hs.length (hs.map (.int .i64 ·))
  gl : b.lv.ownBlock ≠ some b.r.g
  old : ∀ g, b.lv.ownBlock = some g → g < w.heap.size
  turned : Turned (b.F sP.n) w x
variable {ob tb c c' : Nat} {o : OpV} {T T' : List Nat}
theorem DS.drew (h : DS w b hs sP sR ob tb o T c x) : DS w b hs sP sR ob tb o T c x.drew := by
  obtain ⟨L, h1, h2⟩ := h.pa
  exact ⟨h.obj, h.op, ⟨L, h1.keep ((Turned.refl [] x).drew) (by simp), h2⟩, h.rp.drew, h.th.drew, h.out, h.new, Row.keep h.row ((Turned.refl [] x).drew) (by simp), h.gl, h.old, h.turned.drew⟩
theorem DS.alloc (h : DS w b hs sP sR ob tb o T c x) (q : Obj) : DS w b hs sP sR ob tb o T c (x.alloc q) := by
  obtain ⟨L, h1, h2⟩ := h.pa
  have ht := (Turned.refl [] x).alloc q
  exact ⟨blk_old h.obj _, blk_old h.op _, ⟨L, h1.keep ht (by simp), h2⟩, h.rp.turned ht (by simp), h.th.turned ht (by simp), h.out, h.new, Row.keep h.row ht (by simp), h.gl, h.old, h.turned.alloc q⟩
theorem DS.prog (h : DS w b hs sP sR ob tb o T c x) (hp : PA x b.p b.sb b.pb b.nb L sP) (hw : Wider (blocks b.p b.sb b.pb b.nb b.L sP.n) (blocks b.p b.sb b.pb b.nb L sP.n) w) (hd : PDone x b.p b.sb b.pb b.nb L sP s' x') (hn : s'.n = sP.n) : DS w b hs s' sR ob tb o T c x' := by
  obtain ⟨ht, L', h1, h2⟩ := hd
  have hsz := h.turned.size
  refine ⟨ht.heap h.obj (hp.ty h.obj (by decide)), ht.heap h.op (hp.ty h.op (by decide)), ⟨L', h1, ?_⟩, h.rp.turned ht (fun y hy hm => hp.offR h.rp y hm hy), h.th.turned ht (fun y hy hm => hp.offT h.th y hm hy), h.out, h.new, Row.keep h.row ht (fun g hg => hp.offRow h.row hg), h.gl, h.old, ?_⟩
  · rw [hn]
    intro y hy
    rcases h2 y hy with e | e
    · exact hw y e
    · exact .inr (by omega)
  · rw [hn]
    refine h.turned.inner ht (fun y hy => ?_)
    rcases hw y hy with e | e
    · exact .inl (List.mem_append_right _ e)
    · exact .inr e
theorem DS.ref (h : DS w b hs sP sR ob tb o T c x) (hd : RGo b.r T x tb c' s' T' x') : DS w b hs sP s' ob tb o T' c' x' := by
  obtain ⟨L, h1, h2⟩ := h.pa
  have ht := hd.did.turned
  have hsz := h.turned.size
  have hoff : ∀ y, y ∈ b.r.all ++ T → y ∉ blocks b.p b.sb b.pb b.nb L sP.n := fun y hy => by
    rcases List.mem_append.1 hy with e | e
    · exact h1.offR h.rp y e
    · exact h1.offT h.th y e
  refine ⟨hd.other h.th h.rp h.obj (by decide), hd.other h.th h.rp h.op (by decide), ⟨L, h1.keep ht hoff, h2⟩, hd.rp, hd.did.th, hd.out, fun y hy => ?_, Row.keep h.row ht (fun g hg hm => ?_), h.gl, h.old, h.turned.inner ht (fun y hy => ?_)⟩
  · rcases hd.did.wide y hy with e | e
    · exact h.new y e
    · omega
  · rcases List.mem_append.1 hm with e | e
    · exact h.rp.offRow h.row h.gl hg e
    · have := h.new g e
      have := h.old g hg
      omega
  · rcases List.mem_append.1 hy with e | e
    · exact .inl (List.mem_append_left _ (List.mem_cons_of_mem _ (List.mem_append_left _ e)))
    · exact .inr (h.new y e)
theorem DS.c0 (h : DS w b hs sP sR ob tb o T c x) : x.cell? ⟨b.x, 0, none⟩ = some (.pointer (some ⟨b.p, 0, none⟩)) := (cell_at h.obj 0).trans (by simp)
theorem DS.c1 (h : DS w b hs sP sR ob tb o T c x) : x.cell? ⟨b.x, 1, none⟩ = some (.pointer (some ⟨b.r.q, 0, none⟩)) := (cell_at h.obj 1).trans (by simp)
theorem DS.c2 (h : DS w b hs sP sR ob tb o T c x) : x.cell? ⟨b.x, 2, none⟩ = some (.pointer (some ⟨b.r.m, 0, none⟩)) := (cell_at h.obj 2).trans (by simp)
theorem DS.c3 (h : DS w b hs sP sR ob tb o T c x) : x.cell? ⟨b.x, 3, none⟩ = some b.lv := (cell_at h.obj 3).trans (by simp)
theorem DS.oA (h : DS w b hs sP sR ob tb o T c x) : x.cell? ⟨ob, 2, none⟩ = some (.int .i64 o.a) := (cell_at h.op 2).trans (by simp)
theorem DS.oV (h : DS w b hs sP sR ob tb o T c x) : x.cell? ⟨ob, 3, none⟩ = some (.int .i64 o.v) := (cell_at h.op 3).trans (by simp)
theorem DS.oX (h : DS w b hs sP sR ob tb o T c x) : (Instr.loadAt 43 (pv ob 4)).run Tryz.prog x = .ok (nodeV4 o.x0 o.x1 o.x2 o.x3) x := by
  have n4 := cell_at h.op 4
  have n5 := cell_at h.op 5
  have n6 := cell_at h.op 6
  have n7 := cell_at h.op 7
  simp at n4 n5 n6 n7
  clear h
  unfold pv
  go_simp
/-- The program's call, by what it leaves. -/
theorem DS.callP {f : FuncId} {xs : Array Value} {V : Value} (h : DS w b hs sP sR ob tb o T c x) (hn : s'.n = sP.n) (HC : ∀ {L : Nat → Nat}, PA x b.p b.sb b.pb b.nb L sP → Calls Tryz.prog f xs x fun e w' => e = .returned V ∧ PDone x b.p b.sb b.pb b.nb L sP s' w') : Calls Tryz.prog f xs x fun e w' => e = .returned V ∧ DS w b hs s' sR ob tb o T c w' := by
  obtain ⟨L, h1, h2⟩ := h.pa
  exact (HC h1).mono fun e w' k => ⟨k.1, h.prog h1 h2 k.2 hn⟩
/-- The document's. -/
theorem DS.callR {f : FuncId} {xs : Array Value} {V : Value} (h : DS w b hs sP sR ob tb o T c x) (HC : Calls Tryz.prog f xs x fun e w' => e = .returned V ∧ ∃ T', RGo b.r T x tb c' s' T' w') : Calls Tryz.prog f xs x fun e w' => e = .returned V ∧ ∃ T', DS w b hs sP s' ob tb o T' c' w' :=
  HC.mono fun _ _ k => ⟨k.1, k.2.imp fun _ g => h.ref g⟩
theorem ld_pool {w : World} {bb i c : Nat} (h : w.cell? ⟨bb, i, none⟩ = some (.pointer (some ⟨c, 0, none⟩))) : (Instr.loadAt 49 (pv bb i)).run Tryz.prog w = .ok (pv c 0) w := by
  unfold pv
  go_simp
theorem ld_rpool {w : World} {bb i c : Nat} (h : w.cell? ⟨bb, i, none⟩ = some (.pointer (some ⟨c, 0, none⟩))) : (Instr.loadAt 67 (pv bb i)).run Tryz.prog w = .ok (pv c 0) w := by
  unfold pv
  go_simp
/-- Behind the call. -/
theorem DS.pair {s2 : PSt} (h : DS w b hs s2 s2 ob tb o T c x) (hG : Good s2 (it + 1)) (hf : hs.length ≤ it) : ∃ b' : PairB, b'.x = b.x ∧ Pair x b' s2 hs (it + 1) ∧ Wider (b.F s2.n) (b'.F s2.n) w := by
  obtain ⟨L, h1, h2⟩ := h.pa
  refine ⟨{ b with L := L }, rfl, ⟨h.obj, h1, h.rp, h.row, h.gl, hG, by omega⟩, fun y hy => ?_⟩
  rcases List.mem_append.1 hy with e | e
  · exact .inl (List.mem_append_left _ e)
  · rcases h2 y e with e | e
    · exact .inl (List.mem_append_right _ e)
    · exact .inr e
end
end Go.Proofs.YtjbhnpofdafmbaaGreatDoor

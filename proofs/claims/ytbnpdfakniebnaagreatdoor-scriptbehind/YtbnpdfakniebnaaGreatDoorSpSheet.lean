/-
  A sheet of lines in memory; its lay by contract. (By the verifier; no statement.)
-/
import Derived.Test.YtbnpdfakniebnaaGreatDoorSpRow
import Derived.Test.YtbnpdfakniebnaaGreatDoorSpNew
import Derived.Test.YtbnpdfakniebnaaGreatDoorSpLine3
import Derived.Lib.AppendStr
import Derived.Test.YtbnpdfakniebnaaGreatDoorSpShelf
import Derived.RegionTactic
namespace Go.Proofs.YtbnpdfakniebnaaGreatDoor
open Go.RowKit
/-- A sheet. -/
structure Sh where
  text : Bs
  start : Nat
  most : Nat
  full : Bool
namespace Sh
def lay (s : Sh) (p : Bs) : Sh := if s.full then s else if s.most < s.text.length + p.length then { s with text := s.text.take s.start, full := true } else { s with text := s.text ++ p }
def word (s : Sh) (p : Bs) : Sh := (if s.start < s.text.length then s.lay [32] else s).lay p
def num (s : Sh) (n : Int) : Sh := s.word (Lib.itoa n)
def named (s : Sh) (p : Bs) (n : Int) : Sh := (s.word p).num n
def nums (s : Sh) (l : List Int) : Sh := l.foldl num s
def prs (s : Sh) (l : List (Int × Int)) : Sh := l.foldl (fun s p => (s.num p.1).num p.2) s
def fin (s : Sh) : Sh := { s.lay [10] with start := (s.lay [10]).text.length }
end Sh
abbrev encB : UInt8 → List Value := fun b => [.int .u8 b.toNat]
theorem enB : En 1 encB := ⟨fun _ => rfl, fun r u hu => by rw [List.mem_singleton.1 hu]; rfl⟩
def NotS (o : Obj) : Prop := ∀ (cs : Array Value) (fr : Nat × Nat), o ≠ .cells cs 242 fr ∧ o ≠ .cells cs 5 fr
/-- Nothing turns but sheets and their rows. -/
structure KeepS (w w' : World) : Prop where
  os : w'.os = w.os
  tape : w'.tape = w.tape
  output : w'.output = w.output
  size : w.heap.size ≤ w'.heap.size
  blk : ∀ (b : Nat) (o : Obj), w.heap[b]? = some o → NotS o → w'.heap[b]? = some o
theorem KeepS.refl (w : World) : KeepS w w := ⟨rfl, rfl, rfl, Nat.le_refl _, fun _ _ h _ => h⟩
theorem KeepS.trans {a b c : World} (h : KeepS a b) (k : KeepS b c) : KeepS a c := ⟨k.os.trans h.os, k.tape.trans h.tape, k.output.trans h.output, Nat.le_trans h.size k.size, fun x o ho hn => k.blk x o (h.blk x o ho hn) hn⟩
theorem KeepS.of {w w' : World} {F : List Nat} (ht : Turned F w w') (hF : ∀ b ∈ F, ∃ cs U, w.heap[b]? = some (.cells cs U (0, 0)) ∧ (U = 242 ∨ U = 5)) : KeepS w w' :=
  ⟨ht.os, ht.tape, ht.output, ht.size, fun b o ho hn => ht.heap ho fun hm => by
    obtain ⟨cs, U, h1, h2⟩ := hF b hm
    rw [ho] at h1
    cases h1
    rcases h2 with rfl | rfl
    · exact (hn cs (0, 0)).1 rfl
    · exact (hn cs (0, 0)).2 rfl⟩
theorem KeepS.still {w w' : World} (ht : Turned [] w w') : KeepS w w' := .of ht (by simp)
theorem notS {cs : Array Value} {T : TypeId} {fr : Nat × Nat} (h : T ≠ 242 ∧ T ≠ 5) : NotS (.cells cs T fr) := fun ds fr => ⟨fun e => by cases e; exact h.1 rfl, fun e => by cases e; exact h.2 rfl⟩
theorem KeepS.cells {w w' : World} (h : KeepS w w') {b : Nat} {cs : Array Value} {T : TypeId} {fr : Nat × Nat} (hb : w.heap[b]? = some (.cells cs T fr)) (hT : T ≠ 242 ∧ T ≠ 5) : w'.heap[b]? = some (.cells cs T fr) := h.blk b _ hb (notS hT)
theorem OW.ks {α : Type} {T : TypeId} {k : Nat} {enc : α → List Value} {B : Nat} {w w' : World} {v : Value} {R : List α} (h : OW T k enc B w v R) (hk : KeepS w w') (hT : T ≠ 242 ∧ T ≠ 5) : OW T k enc B w' v R := by
  refine ⟨h.own.1, ?_⟩
  rcases h.own.2 with h0 | ⟨g, c, cs, rfl, hb, hg, h3⟩
  · exact .inl h0
  · exact .inr ⟨g, c, cs, rfl, hb, hk.cells hg hT, h3⟩
theorem OW.trunc {α : Type} {T : TypeId} {k : Nat} {enc : α → List Value} {B : Nat} {w : World} {g n c : Nat} {R : List α} (N : En k enc) (h : OW T k enc B w (.slice (some ⟨g, 0, none⟩) n c) R) {i : Nat} (hi : i ≤ R.length) : OW T k enc B w (.slice (some ⟨g, 0, none⟩) i c) (R.take i) := by
  rcases h.own.2 with ⟨e, _⟩ | ⟨g', c', cs, e, hb, hg, h3, h4, h5, h6⟩
  · cases e
  simp only [Value.slice.injEq, Option.some.injEq, Addr.mk.injEq] at e
  obtain ⟨⟨rfl, -, -⟩, -, rfl⟩ := e
  have hl : (R.take i).length = i := by rw [List.length_take]; omega
  refine ⟨rowO_len N _, .inr ⟨g, c, cs, by rw [hl], hb, hg, by omega, h4, h5, ?_⟩⟩
  rw [hl]
  have e1 : (R.take i).flatMap enc = (R.flatMap enc).take (i * k) := by
    have e2 : R.flatMap enc = (R.take i).flatMap enc ++ (R.drop i).flatMap enc := by rw [← List.flatMap_append, List.take_append_drop]
    rw [e2, List.take_left']
    rw [rowO_len N, hl]
  rw [e1, ← h6, List.take_take]
  congr 1
  have : i * k ≤ R.length * k := Nat.mul_le_mul_right k hi
  omega
theorem OW.cap {α : Type} {T : TypeId} {k : Nat} {enc : α → List Value} {B : Nat} {w : World} {a : Option Addr} {c : Nat} {R : List α} (h : OW T k enc B w (.slice a R.length c) R) : R.length ≤ c := by
  rcases h.own.2 with ⟨e, h0⟩ | ⟨g', c', cs, e, hb, hg, h3, h4, h5, h6⟩
  · simp only [Value.slice.injEq] at e; omega
  · simp only [Value.slice.injEq] at e
    rw [e.2.2]; exact h3
/-- A sheet in memory. -/
structure SX (W0 w : World) (sb : Nat) (v : Value) (s : Sh) : Prop where
  tu : Turned [] W0 w
  blk : w.heap[sb]? = some (.cells #[v, .int .i64 s.start, .int .i64 s.most, .bool s.full] 242 (0, 0))
  row : OW 5 1 encB W0.heap.size w v s.text
  ge : W0.heap.size ≤ sb
  st : s.start ≤ s.text.length
  mo : s.text.length ≤ s.most
  mx : s.most ≤ 1000000000
theorem strCells_enc (p : Bs) : Lib.strCells ⟨p.toArray⟩ = p.flatMap encB := by
  unfold Lib.strCells
  induction p with
  | nil => rfl
  | cons b p ih =>
    simp at ih
    simp [encB, ih]
section
variable {W0 w w1 : World} {sb : Nat} {v u : Value} {s : Sh} {p : Bs}
theorem SX.at (h : SX W0 w sb v s) (i : Nat) (x : Value) (hx : (#[v, .int .i64 s.start, .int .i64 s.most, .bool s.full] : Array Value)[i]? = some x) : sb < w.heap.size ∧ w.cell? ⟨sb, i, none⟩ = some x ∧ w.frozen? ⟨sb, i, none⟩ = false :=
  ⟨lt_of_heap h.blk, (cell_at h.blk i).trans hx, froz_at h.blk i⟩
theorem SX.still (h : SX W0 w sb v s) (h1 : Turned [] w w1) : SX W0 w1 sb v s := ⟨h.tu.trans h1, h1.heap h.blk (by simp), h.row.still h1, h.ge, h.st, h.mo, h.mx⟩
/-- The sheet's post. -/
def SP (W0 w : World) (sb : Nat) (s : Sh) (q : Ending) (w' : World) : Prop := q = .returned (.tuple #[]) ∧ KeepS w w' ∧ ∃ v, SX W0 w' sb v s
theorem SX.set (h : SX W0 w sb v s) (i : Nat) (x : Value) {v2 : Value} {s2 : Sh} (hc : (#[v, .int .i64 s.start, .int .i64 s.most, .bool s.full] : Array Value).setIfInBounds i x = #[v2, .int .i64 s2.start, .int .i64 s2.most, .bool s2.full]) (hr : OW 5 1 encB W0.heap.size w v2 s2.text) (h1 : s2.start ≤ s2.text.length) (h2 : s2.text.length ≤ s2.most) (h3 : s2.most ≤ 1000000000) : SX W0 (w.setCell ⟨sb, i, none⟩ x) sb v2 s2 ∧ KeepS w (w.setCell ⟨sb, i, none⟩ x) := by
  have ht : Turned [sb] w (w.setCell ⟨sb, i, none⟩ x) := (Turned.refl _ _).set (by simp) _ _
  have hF : ∀ b ∈ [sb], ∃ cs U, w.heap[b]? = some (.cells cs U (0, 0)) ∧ (U = 242 ∨ U = 5) := fun b hb => by rw [List.mem_singleton.1 hb]; exact ⟨_, _, h.blk, .inl rfl⟩
  refine ⟨⟨h.tu.set (.inr h.ge) _ _, ?_, hr.off ht fun b hb => ?_, h.ge, h1, h2, h3⟩, KeepS.of ht hF⟩
  · rw [blk_set h.blk, hc]
  · rw [List.mem_singleton.1 hb]; exact ⟨_, _, h.blk, by decide⟩
/-- The row grew. -/
theorem SX.grown (h : SX W0 w sb v s) (ho : w1.ownsRow W0.heap.size 5 1 u (s.text.length + (⟨p.toArray⟩ : ByteArray).size) (s.text.flatMap encB ++ Lib.strCells ⟨p.toArray⟩)) (hg : w.grownBy w1 v.ownBlock) : OW 5 1 encB W0.heap.size w1 u (s.text ++ p) ∧ KeepS w w1 ∧ w1.heap[sb]? = some (.cells #[v, .int .i64 s.start, .int .i64 s.most, .bool s.full] 242 (0, 0)) ∧ Turned [] W0 w1 := by
  have ht : Turned v.ownBlock.toList w w1 := ⟨hg.os, hg.tape, hg.output, hg.size, fun k hk hn => hg.block k hk fun e => hn (by rw [← e]; simp)⟩
  refine ⟨⟨?_⟩, KeepS.of ht fun b hb => ?_, ht.heap h.blk fun hm => ?_, h.tu.inner ht fun x hx => .inr (h.row.fresh (by simpa using hx)).1⟩
  · rw [List.length_append, List.flatMap_append, ← strCells_enc p]
    have : (⟨p.toArray⟩ : ByteArray).size = p.length := size_of p
    rw [this] at ho
    exact ho
  · obtain ⟨cs, h1⟩ := h.row.typed b hb
    exact ⟨cs, _, h1, .inr rfl⟩
  · obtain ⟨cs, h1⟩ := h.row.typed sb hm
    exact tyne h1 h.blk (by decide) rfl
theorem SX.after (h : SX W0 w sb v s) (hr : OW 5 1 encB W0.heap.size w1 u (s.text ++ p)) (hk : KeepS w w1) (hb : w1.heap[sb]? = some (.cells #[v, .int .i64 s.start, .int .i64 s.most, .bool s.full] 242 (0, 0))) (ht : Turned [] W0 w1) (hm : s.text.length + p.length ≤ s.most) : SX W0 (w1.setCell ⟨sb, 0, none⟩ u) sb u { s with text := s.text ++ p } ∧ KeepS w (w1.setCell ⟨sb, 0, none⟩ u) := by
  have ht2 : Turned [sb] w1 (w1.setCell ⟨sb, 0, none⟩ u) := (Turned.refl _ _).set (by simp) _ _
  refine ⟨⟨ht.set (.inr h.ge) _ _, ?_, hr.off ht2 fun b hbb => ?_, h.ge, ?_, ?_, h.mx⟩, hk.trans (KeepS.of ht2 fun b hbb => ?_)⟩
  · rw [blk_set hb]; rfl
  · rw [List.mem_singleton.1 hbb]; exact ⟨_, _, hb, by decide⟩
  · have := h.st; simp; omega
  · simpa using hm
  · rw [List.mem_singleton.1 hbb]; exact ⟨_, _, hb, .inl rfl⟩
set_option maxRecDepth 100000 in
set_option maxHeartbeats 3200000 in
theorem cLay (h : SX W0 w sb v s) (hp : p.length ≤ 1000000000) : Calls Tryz.prog 140 #[LP sb, sV p] w (SP W0 w sb (s.lay p)) := by
  have HX : Hid _ := h
  obtain ⟨p0, p1, p2⟩ := h.at 3 (.bool s.full) rfl
  unfold SP
  cases hf : s.full with
  | true =>
    have HE : Hid (s.lay p = s) := by rw [Hid, Sh.lay, hf]; rfl
    rw [hf] at p1
    clear h
    rw [HE.out]
    go_enter Tryz.func140, Tryz.ntmps140
    go_wp2
    refine bodyPost_ret (results_none rfl _ _ _) rfl ?_
    exact ⟨rfl, KeepS.refl _, v, HX.out⟩
  | false =>
    rw [hf] at p1
    obtain ⟨-, q1, q2⟩ := h.at 0 v rfl
    obtain ⟨-, r1, r2⟩ := h.at 1 (.int .i64 s.start) rfl
    obtain ⟨-, s1, s2⟩ := h.at 2 (.int .i64 s.most) rfl
    obtain ⟨va, vc, hv⟩ := h.row.slice
    have HV : Hid _ := hv
    rw [hv] at q1
    have hcap : s.text.length ≤ vc := by have := h.row; rw [hv] at this; exact this.cap
    have h1 := h.st
    have h2 := h.mo
    have h3 := h.mx
    have ew : IntKind.i64.wrap ((s.text.length : Int) + (p.length : Int)) = (s.text.length : Int) + (p.length : Int) := by rw [IntKind.wrap_i64]; omega
    by_cases hroom : s.most < s.text.length + p.length
    · have HE : Hid (s.lay p = { s with text := s.text.take s.start, full := true }) := by rw [Hid, Sh.lay, hf, if_pos hroom]; rfl
      have hroom' : (s.most : Int) < (s.text.length : Int) + (p.length : Int) := by omega
      rw [HE.out]
      have hst : s.start ≤ vc := by omega
      have hrow : OW 5 1 encB W0.heap.size w (.slice va s.start vc) (s.text.take s.start) := by
        rcases h.row.form with ⟨h4, h5⟩ | ⟨g, c, h4⟩
        · rw [h4] at hv
          simp only [Value.slice.injEq] at hv
          have h6 : s.start = 0 := by omega
          rw [h6, ← hv.1, ← hv.2.2, h5]
          exact OW.nil _ _ _ _ _
        · have h6 := h.row
          rw [h4] at hv h6
          simp only [Value.slice.injEq] at hv
          rw [← hv.1, ← hv.2.2]
          exact OW.trunc enB h6 h1
      have HFin : Hid (SX W0 ((w.setCell ⟨sb, 0, none⟩ (.slice va s.start vc)).setCell ⟨sb, 3, none⟩ (.bool true)) sb (.slice va s.start vc) { s with text := s.text.take s.start, full := true } ∧ KeepS w ((w.setCell ⟨sb, 0, none⟩ (.slice va s.start vc)).setCell ⟨sb, 3, none⟩ (.bool true))) := by
        have hA := h.set 0 (.slice va s.start vc) (v2 := .slice va s.start vc) (s2 := { s with text := s.text.take s.start }) rfl hrow (by simp; omega) (by simp; omega) h3
        have hB := hA.1.set 3 (.bool true) (v2 := .slice va s.start vc) (s2 := { s with text := s.text.take s.start, full := true }) rfl hA.1.row (by simp; omega) (by simp; omega) h3
        exact ⟨hB.1, hA.2.trans hB.2⟩
      clear hrow
      clear h HE hf hv
      go_enter Tryz.func140, Tryz.ntmps140
      go_wp2
      go_region
      all_goals
        go_wp2
        go_region
      all_goals
        go_wp2
        refine bodyPost_ret (results_none rfl _ _ _) rfl ?_
        exact ⟨rfl, HFin.out.2.trans (KeepS.still (Turned.refl _ _).drew.drew), _, HFin.out.1.still (Turned.refl _ _).drew.drew⟩
    · have HE : Hid (s.lay p = { s with text := s.text ++ p }) := by rw [Hid, Sh.lay, hf, if_neg hroom]; rfl
      have hroom' : ¬ ((s.most : Int) < (s.text.length : Int) + (p.length : Int)) := by omega
      have hR : Hid (s.text.length + p.length ≤ s.most) := by rw [Hid]; omega
      obtain ⟨ui, hui, hux⟩ := Option.map_eq_some_iff.1 (show (Tryz.prog.info? 5).map (fun i => (i.zero, i.size, i.bytes)) = some (some (.int .u8 0), 1, 1) by kernel_rfl)
      simp only [Prod.mk.injEq] at hux
      obtain ⟨huz, hus, huy⟩ := hux
      have HRow : Hid (w.drew.ownsRow W0.heap.size 5 1 (.slice va s.text.length vc) s.text.length (s.text.flatMap encB)) := by
        have h4 := h.row.own
        rw [hv] at h4
        exact h4.drew
      rw [HE.out]
      clear h HE hf hv
      go_enter Tryz.func140, Tryz.ntmps140
      go_wp2
      go_region
      all_goals
        go_wp2_with (at_builtin; refine Lib.wpList_append_own_string _ rfl _ _ 72 9 rfl W0.heap.size 5 ui (by kernel_rfl) (by kernel_rfl) hui huz hus huy (.slice va s.text.length vc) s.text.length (s.text.flatMap encB) rfl HRow.out ⟨p.toArray⟩ rfl (by have h5 := size_of p; rw [h5]; unfold maxLen; omega) (by have h5 := size_of p; rw [h5]; omega) HX.out.tu.size ?_; intro v2 w2 ho hg _; have hgr := (HX.out.still (Turned.refl _ _).drew).grown (u := v2) (p := p) ho (HV.out ▸ hg); obtain ⟨a2, c2, rfl⟩ := hgr.1.slice; have HG : Hid _ := hgr; have z0 := lt_of_heap hgr.2.2.1; have z1 := (cell_at hgr.2.2.1 0).trans (show _ = some v from rfl); have z2 := froz_at hgr.2.2.1 0; clear ho hg hgr)
        refine bodyPost_end (results_none rfl _ _ _) rfl ?_
        have hq := (HX.out.still (Turned.refl _ _).drew).after HG.out.1 HG.out.2.1 HG.out.2.2.1 HG.out.2.2.2 hR.out
        rw [List.length_append] at hq
        exact ⟨rfl, (KeepS.still (Turned.refl _ _).drew).trans hq.2, _, hq.1⟩
end
end Go.Proofs.YtbnpdfakniebnaaGreatDoor

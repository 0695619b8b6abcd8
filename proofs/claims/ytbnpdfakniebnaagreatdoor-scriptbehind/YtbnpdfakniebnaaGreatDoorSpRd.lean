/-
  What was read so far, in memory: the reader's rows; what changes keep of them. (By the verifier; no statement.)
-/
import Derived.Test.YtbnpdfakniebnaaGreatDoorSpMap
import Derived.Test.YtbnpdfakniebnaaGreatDoorSpCall
namespace Go.Proofs.YtbnpdfakniebnaaGreatDoor
open Go.RowKit
structure SlV where
  a : Option Addr
  n : Nat
  c : Nat
abbrev SlV.v (s : SlV) : Value := .slice s.a s.n s.c
abbrev ownL (v : Value) : List Nat := v.ownBlock.toList
def nilS : SlV := ⟨none, 0, 0⟩
abbrev encC : Cl × SlV → List Value := fun p => [.int .i64 p.1.k, .int .i64 p.1.a, .int .i64 p.1.b, .int .i64 p.1.c, p.2.v]
theorem enC : En 5 encC := ⟨fun _ => rfl, fun r u hu => by
  simp only [encC, List.mem_cons, List.not_mem_nil, or_false] at hu
  rcases hu with rfl | rfl | rfl | rfl | rfl <;> rfl⟩
theorem elC : El 79 77 5 56 (.agg #[.int .i64 0, .int .i64 0, .int .i64 0, .int .i64 0, .slice none 0 0]) := ⟨by kernel_rfl, by kernel_rfl, rfl, by decide, by decide⟩
abbrev encS : SlV → List Value := fun p => [p.v]
theorem enS : En 1 encS := ⟨fun _ => rfl, fun r u hu => by rw [List.mem_singleton.1 hu]; rfl⟩
theorem elS : El 77 26 1 24 (.slice none 0 0) := ⟨by kernel_rfl, by kernel_rfl, rfl, by decide, by decide⟩
/-- Where the reader's rows lie. -/
structure RM where
  vs : Value
  vt : Value
  vh : Value
  vw : Value
  vb : Value
  rows : List (SlV × List (Cl × SlV))
  bd : List (Cl × SlV)
def RM.calls (m : RM) : List (Cl × SlV) := m.bd ++ m.rows.flatMap (·.2)
/-- The reader's rows: source, turns, halts, work, body. -/
structure RP (B : Nat) (w : World) (m : RM) (S : List (Int × Int)) (T H : List Int) (W : List (List Cl)) (D : List Cl) : Prop where
  src : OW 157 2 encP B w m.vs S
  trn : OW 3 1 encI B w m.vt T
  hlt : OW 3 1 encI B w m.vh H
  wrk : OW 77 1 encS B w m.vw (m.rows.map (·.1))
  rws : ∀ p ∈ m.rows, OW 79 5 encC B w p.1.v p.2
  bdy : OW 79 5 encC B w m.vb m.bd
  prs : ∀ q ∈ m.calls, OW 157 2 encP B w q.2.v q.1.ps ∧ (q.1.ps = [] → q.2.v = .slice none 0 0)
  eqw : W = m.rows.map (fun p => p.2.map (·.1))
  eqb : D = m.bd.map (·.1)
  nI : (ownL m.vt ++ ownL m.vh).Nodup
  nC : (ownL m.vb ++ m.rows.flatMap fun p => ownL p.1.v).Nodup
  nP : (ownL m.vs ++ m.calls.flatMap fun q => ownL q.2.v).Nodup
theorem nd_new {a a' : Option Nat} {l : List Nat} {N : Nat} (h : (a.toList ++ l).Nodup) (hl : ∀ x ∈ l, x < N) (ha : a' = a ∨ a' = some N) : (a'.toList ++ l).Nodup := by
  rcases ha with rfl | rfl
  · exact h
  · rw [List.nodup_append] at h
    show (N :: l).Nodup
    rw [List.nodup_cons]
    exact ⟨fun hm => by have := hl N hm; omega, h.2.1⟩
theorem nd_off {a : List Nat} {l : List Nat} (h : (a ++ l).Nodup) {x : Nat} (hx : x ∈ l) : x ∉ a := fun ha => (List.nodup_append.1 h).2.2 x ha x hx rfl
theorem nd_off' {a : List Nat} {l : List Nat} (h : (a ++ l).Nodup) {x : Nat} (hx : x ∈ a) : x ∉ l := fun ha => (List.nodup_append.1 h).2.2 x hx x ha rfl
section
variable {α : Type} {T : TypeId} {k : Nat} {enc : α → List Value} {B : Nat} {w w' : World} {v : Value} {R : List α}
theorem OW.own_lt (h : OW T k enc B w v R) : ∀ x ∈ ownL v, x < w.heap.size := fun x hx => (h.fresh (by simpa using hx)).2
theorem OW.own_ge (h : OW T k enc B w v R) : ∀ x ∈ ownL v, B ≤ x := fun x hx => (h.fresh (by simpa using hx)).1
theorem OW.away {F : List Nat} (h : OW T k enc B w v R) (ht : Turned F w w') (hF : ∀ x ∈ ownL v, x ∉ F) : OW T k enc B w' v R := h.keep ht fun g hg => hF g (by simp [ownL, hg])
end
section
variable {B : Nat} {w w' : World} {m : RM} {S M : List (Int × Int)} {T H N : List Int} {W : List (List Cl)} {D : List Cl} {v : Value}
theorem RP.calls_lt (h : RP B w m S T H W D) : ∀ x ∈ (m.calls.flatMap fun q => ownL q.2.v), x < w.heap.size := fun x hx => by
  obtain ⟨q, hq, hx⟩ := List.mem_flatMap.1 hx
  exact (h.prs q hq).1.own_lt x hx
theorem RP.rows_lt (h : RP B w m S T H W D) : ∀ x ∈ (m.rows.flatMap fun p => ownL p.1.v), x < w.heap.size := fun x hx => by
  obtain ⟨q, hq, hx⟩ := List.mem_flatMap.1 hx
  exact (h.rws q hq).own_lt x hx
/-- Blocks of other types turn. -/
theorem RP.off (h : RP B w m S T H W D) {F : List Nat} (ht : Turned F w w') (hF : ∀ b ∈ F, ∃ cs U, w.heap[b]? = some (.cells cs U (0, 0)) ∧ U ≠ 157 ∧ U ≠ 3 ∧ U ≠ 77 ∧ U ≠ 79) : RP B w' m S T H W D := by
  refine ⟨h.src.off ht fun b hb => ?_, h.trn.off ht fun b hb => ?_, h.hlt.off ht fun b hb => ?_, h.wrk.off ht fun b hb => ?_, fun p hp => (h.rws p hp).off ht fun b hb => ?_, h.bdy.off ht fun b hb => ?_, fun q hq => ⟨(h.prs q hq).1.off ht fun b hb => ?_, (h.prs q hq).2⟩, h.eqw, h.eqb, h.nI, h.nC, h.nP⟩ <;>
  · obtain ⟨cs, U, h1, h2, h3, h4, h5⟩ := hF b hb
    exact ⟨cs, U, h1, by assumption⟩
theorem RP.still (h : RP B w m S T H W D) (ht : Turned [] w w') : RP B w' m S T H W D := h.off ht (by simp)
/-- The source grows. -/
theorem RP.source (h : RP B w m S T H W D) (ho : OW 157 2 encP B w' v (S ++ M)) (ht : Turned (ownL m.vs) w w') (hv : v.ownBlock = m.vs.ownBlock ∨ v.ownBlock = some w.heap.size) : RP B w' { m with vs := v } (S ++ M) T H W D := by
  have hT : ∀ b ∈ ownL m.vs, ∃ cs, w.heap[b]? = some (.cells cs 157 (0, 0)) := h.src.typed
  refine ⟨ho, h.trn.off ht fun b hb => ?_, h.hlt.off ht fun b hb => ?_, h.wrk.off ht fun b hb => ?_, fun p hp => (h.rws p hp).off ht fun b hb => ?_, h.bdy.off ht fun b hb => ?_, fun q hq => ⟨(h.prs q hq).1.away ht fun x hx => nd_off h.nP (List.mem_flatMap.2 ⟨q, hq, hx⟩), (h.prs q hq).2⟩, h.eqw, h.eqb, h.nI, h.nC, nd_new h.nP h.calls_lt hv⟩ <;>
  · obtain ⟨cs, h1⟩ := hT b hb
    exact ⟨cs, _, h1, by decide⟩
theorem RP.turns (h : RP B w m S T H W D) (ho : OW 3 1 encI B w' v (T ++ N)) (ht : Turned (ownL m.vt) w w') (hv : v.ownBlock = m.vt.ownBlock ∨ v.ownBlock = some w.heap.size) : RP B w' { m with vt := v } S (T ++ N) H W D := by
  have hT : ∀ b ∈ ownL m.vt, ∃ cs, w.heap[b]? = some (.cells cs 3 (0, 0)) := h.trn.typed
  refine ⟨h.src.off ht fun b hb => ?_, ho, h.hlt.away ht fun x hx => nd_off h.nI hx, h.wrk.off ht fun b hb => ?_, fun p hp => (h.rws p hp).off ht fun b hb => ?_, h.bdy.off ht fun b hb => ?_, fun q hq => ⟨(h.prs q hq).1.off ht fun b hb => ?_, (h.prs q hq).2⟩, h.eqw, h.eqb, nd_new h.nI h.hlt.own_lt hv, h.nC, h.nP⟩ <;>
  · obtain ⟨cs, h1⟩ := hT b hb
    exact ⟨cs, _, h1, by decide⟩
theorem RP.halts (h : RP B w m S T H W D) (ho : OW 3 1 encI B w' v (H ++ N)) (ht : Turned (ownL m.vh) w w') (hv : v.ownBlock = m.vh.ownBlock ∨ v.ownBlock = some w.heap.size) : RP B w' { m with vh := v } S T (H ++ N) W D := by
  have hT : ∀ b ∈ ownL m.vh, ∃ cs, w.heap[b]? = some (.cells cs 3 (0, 0)) := h.hlt.typed
  refine ⟨h.src.off ht fun b hb => ?_, h.trn.away ht fun x hx => nd_off' h.nI hx, ho, h.wrk.off ht fun b hb => ?_, fun p hp => (h.rws p hp).off ht fun b hb => ?_, h.bdy.off ht fun b hb => ?_, fun q hq => ⟨(h.prs q hq).1.off ht fun b hb => ?_, (h.prs q hq).2⟩, h.eqw, h.eqb, ?_, h.nC, h.nP⟩
  rotate_left 5
  · exact (List.perm_append_comm.nodup_iff).1 (nd_new ((List.perm_append_comm.nodup_iff).1 h.nI) h.trn.own_lt hv)
  all_goals
    obtain ⟨cs, h1⟩ := hT b hb
    exact ⟨cs, _, h1, by decide⟩
/-- A worker more. -/
theorem RP.worker (h : RP B w m S T H W D) (ho : OW 77 1 encS B w' v (m.rows.map (·.1) ++ [nilS])) (ht : Turned (ownL m.vw) w w') : RP B w' { m with vw := v, rows := m.rows ++ [(nilS, [])] } S T H (W ++ [[]]) D := by
  have hT : ∀ b ∈ ownL m.vw, ∃ cs, w.heap[b]? = some (.cells cs 77 (0, 0)) := h.wrk.typed
  have hc : ({ m with vw := v, rows := m.rows ++ [(nilS, [])] } : RM).calls = m.calls := by simp [RM.calls]
  refine ⟨h.src.off ht fun b hb => ?_, h.trn.off ht fun b hb => ?_, h.hlt.off ht fun b hb => ?_, by simpa using ho, fun p hp => ?_, h.bdy.off ht fun b hb => ?_, fun q hq => ⟨(h.prs q (by rwa [hc] at hq)).1.off ht fun b hb => ?_, (h.prs q (by rwa [hc] at hq)).2⟩, by simp [h.eqw], h.eqb, h.nI, ?_, by rw [hc]; exact h.nP⟩
  rotate_left 3
  · rw [List.mem_append, List.mem_singleton] at hp
    rcases hp with hp | rfl
    · exact (h.rws p hp).off ht fun b hb => by obtain ⟨cs, h1⟩ := hT b hb; exact ⟨cs, _, h1, by decide⟩
    · exact OW.nil _ _ _ _ _
  rotate_left 2
  · have := h.nC
    simpa [nilS, ownL, Value.ownBlock] using this
  all_goals
    obtain ⟨cs, h1⟩ := hT b hb
    exact ⟨cs, _, h1, by decide⟩
/-- A call more of what is to be repeated. -/
theorem RP.body {c : Cl} {p : SlV} (h : RP B w m S T H W D) (hp : OW 157 2 encP B w p.v c.ps) (hp0 : c.ps = [] → p.v = .slice none 0 0) (hpn : ∀ x ∈ ownL p.v, x ∉ ownL m.vs ++ m.calls.flatMap fun q => ownL q.2.v)
    (ho : OW 79 5 encC B w' v (m.bd ++ [(c, p)])) (ht : Turned (ownL m.vb) w w') (hv : v.ownBlock = m.vb.ownBlock ∨ v.ownBlock = some w.heap.size) : RP B w' { m with vb := v, bd := m.bd ++ [(c, p)] } S T H W (D ++ [c]) := by
  have hT : ∀ b ∈ ownL m.vb, ∃ cs, w.heap[b]? = some (.cells cs 79 (0, 0)) := h.bdy.typed
  have hc : ({ m with vb := v, bd := m.bd ++ [(c, p)] } : RM).calls.Perm ((c, p) :: m.calls) := by
    show ((m.bd ++ [(c, p)]) ++ m.rows.flatMap (·.2)).Perm ((c, p) :: (m.bd ++ m.rows.flatMap (·.2)))
    rw [List.append_assoc]
    exact List.perm_middle
  refine ⟨h.src.off ht fun b hb => ?_, h.trn.off ht fun b hb => ?_, h.hlt.off ht fun b hb => ?_, h.wrk.off ht fun b hb => ?_, fun q hq => (h.rws q hq).away ht fun x hx => nd_off h.nC (List.mem_flatMap.2 ⟨q, hq, hx⟩), ho, fun q hq => ?_, h.eqw, by simp [h.eqb], h.nI, nd_new h.nC h.rows_lt hv, ?_⟩
  rotate_left 4
  · rw [hc.mem_iff, List.mem_cons] at hq
    rcases hq with rfl | hq
    · exact ⟨hp.off ht fun b hb => by obtain ⟨cs, h1⟩ := hT b hb; exact ⟨cs, _, h1, by decide⟩, hp0⟩
    · exact ⟨(h.prs q hq).1.off ht fun b hb => by obtain ⟨cs, h1⟩ := hT b hb; exact ⟨cs, _, h1, by decide⟩, (h.prs q hq).2⟩
  · refine (((hc.flatMap_right _).append_left _).nodup_iff).2 ?_
    rw [List.flatMap_cons]
    refine ((List.perm_append_comm_assoc _ _ _).nodup_iff).2 ?_
    rw [List.nodup_append]
    refine ⟨?_, h.nP, fun x hx y hy e => hpn x hx (e ▸ hy)⟩
    show (ownL p.v).Nodup
    unfold ownL
    cases p.v.ownBlock <;> simp
  all_goals
    obtain ⟨cs, h1⟩ := hT b hb
    exact ⟨cs, _, h1, by decide⟩
/-- A new row of pairs stands apart from all. -/
theorem RP.apart {u : Value} {R : List (Int × Int)} {w1 : World} (h : RP B w m S T H W D) (hu : OW 157 2 encP w.heap.size w1 u R) : ∀ x ∈ ownL u, x ∉ ownL m.vs ++ m.calls.flatMap fun q => ownL q.2.v := fun x hx hm => by
  have h1 := hu.own_ge x hx
  rw [List.mem_append] at hm
  rcases hm with hm | hm
  · have := h.src.own_lt x hm; omega
  · have := h.calls_lt x hm; omega
end
end Go.Proofs.YtbnpdfakniebnaaGreatDoor

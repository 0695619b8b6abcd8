/- Lists of numbers: as they are viewed, as they are owned; copies; skeinruns.Ints, slices.Clone by contract. -/
import Derived.Test.YtaaibhgbkdnlbaaJ16
import Derived.Maps.AppendAt
import Derived.BigQuiet
import Derived.Deep.QuietTactic
import Derived.Test.YtaaibhgbkdnlbaaJ18
namespace Go.Proofs.Ytaaibhgbkdnlbaa
open Go.RowKit
/-- The slice v is the numbers xs, in memory of its own from B on. -/
structure IR (B : Nat) (w : World) (v : Value) (xs : List Int) : Prop where
  own : w.ownsRow B 3 1 v xs.length (xs.map (.int .i64 ·))
theorem IR.nil (B : Nat) (w : World) : IR B w (.slice none 0 0) [] := ⟨World.ownsRow_nil _ _ _ _⟩
theorem IR.keep {B : Nat} {w w' : World} {v : Value} {l : List Int} {F : List Nat} (h : IR B w v l) (ht : Turned F w w') (hF : ∀ g, v.ownBlock = some g → g ∉ F) : IR B w' v l := by
  refine ⟨h.own.1, ?_⟩
  rcases h.own.2 with h0 | ⟨g, c, cs, rfl, hb, hg, h3⟩
  · exact .inl h0
  · exact .inr ⟨g, c, cs, rfl, hb, ht.heap hg (hF g rfl), h3⟩
theorem IR.still {B : Nat} {w w' : World} {v : Value} {l : List Int} (h : IR B w v l) (ht : Turned [] w w') : IR B w' v l := h.keep ht (by simp)
theorem IR.form {B : Nat} {w : World} {v : Value} {l : List Int} (h : IR B w v l) : ∃ a c, v = .slice a l.length c := by
  rcases h.own.2 with ⟨rfl, h0⟩ | ⟨g, c, cs, rfl, _⟩
  · exact ⟨none, 0, by rw [h0]⟩
  · exact ⟨_, _, rfl⟩
theorem IR.fresh {B : Nat} {w : World} {v : Value} {l : List Int} (h : IR B w v l) {g : Nat} (hg : v.ownBlock = some g) : B ≤ g ∧ g < w.heap.size := h.own.lt g hg
theorem IR.type {B : Nat} {w : World} {v : Value} {l : List Int} (h : IR B w v l) {g : Nat} (hg : v.ownBlock = some g) : ∃ cs, w.heap[g]? = some (.cells cs 3 (0, 0)) := by
  rcases h.own.2 with ⟨h0, _⟩ | ⟨g', c, cs, hv, _, hh, _⟩
  · rw [h0] at hg; cases hg
  · rw [hv] at hg; cases hg; exact ⟨cs, hh⟩
theorem IR.lower {B B' : Nat} {w : World} {v : Value} {l : List Int} (h : IR B w v l) (hb : B' ≤ B) : IR B' w v l := by
  refine ⟨h.own.1, ?_⟩
  rcases h.own.2 with h0 | ⟨g, c, cs, rfl, hb2, hg, h3⟩
  · exact .inl h0
  · exact .inr ⟨g, c, cs, rfl, by omega, hg, h3⟩
theorem IR.cells {B : Nat} {w : World} {g c : Nat} {l : List Int} (h : IR B w (.slice (some ⟨g, 0, none⟩) l.length c) l) {i : Nat} (hi : i < l.length) : w.cell? ⟨g, i, none⟩ = some (.int .i64 l[i]) := by
  have := h.own.cellAt i (by omega)
  rw [this]
  simp [hi]
theorem IR.at_ {B : Nat} {w : World} {v : Value} {l : List Int} (h : IR B w v l) (hne : l ≠ []) : ∃ g c, v = .slice (some ⟨g, 0, none⟩) l.length c := by
  rcases h.own.2 with ⟨_, h0⟩ | ⟨g, c, cs, hv, _⟩
  · exact absurd (List.length_eq_zero_iff.1 h0) hne
  · exact ⟨g, c, hv⟩
/-- The slice v reads as the numbers xs. -/
structure IV (w : World) (v : Value) (xs : List Int) : Prop where
  ex : ∃ a c, v = .slice a xs.length c ∧ (a = none → c = 0) ∧ (xs ≠ [] → ∃ b o, a = some ⟨b, o, none⟩ ∧ ∀ i (h : i < xs.length), w.cell? ⟨b, o + i, none⟩ = some (.int .i64 xs[i]))
theorem IR.view {B : Nat} {w : World} {v : Value} {l : List Int} (h : IR B w v l) : IV w v l := by
  rcases h.own.2 with ⟨rfl, h0⟩ | ⟨g0, c0, cs, rfl, _⟩
  · exact ⟨none, 0, by rw [h0], fun _ => rfl, fun hne => absurd (List.length_eq_zero_iff.1 h0) hne⟩
  refine ⟨_, c0, rfl, (fun h => by cases h), fun hne => ?_⟩
  obtain ⟨g, c', e⟩ := h.at_ hne
  cases e
  exact ⟨_, 0, rfl, fun i hi => by rw [Nat.zero_add]; exact h.cells hi⟩
theorem IV.keep {w w' : World} {v : Value} {l : List Int} {F : List Nat} (h : IV w v l) (ht : Turned F w w') (hF : ∀ b, v.ownBlock = some b → b ∉ F) : IV w' v l := by
  obtain ⟨a, c, rfl, hz, hc⟩ := h.ex
  refine ⟨a, c, rfl, hz, fun hne => ?_⟩
  obtain ⟨b, o, rfl, hk⟩ := hc hne
  exact ⟨b, o, rfl, fun i hi => ht.cell (hk i hi) (hF b rfl)⟩
theorem IV.still {w w' : World} {v : Value} {l : List Int} (h : IV w v l) (ht : Turned [] w w') : IV w' v l := h.keep ht (by simp)
theorem infoIntC : (Try.prog.info? 3).map (fun i => (i.zero, i.size, i.bytes)) = some (some (.int .i64 0), 1, 8) := by kernel_rfl
theorem undIntsC : Try.prog.underlying 40 = some (.slice 3) := by kernel_rfl
/-- 'append(v, x..)'. -/
theorem run_apInts {w : World} {B : Nat} {v u : Value} {l ms : List Int} (hr : IR B w v l) (hu : IV w u ms) (hm : l.length ≤ 100000) (hm2 : ms.length ≤ 100000) (hB : B ≤ w.heap.size) :
    ∃ v' w', (Builtin.append_ #[40, 40] 40 #[v, u]).run Try.prog w = .ok v' w' ∧ IR B w' v' (l ++ ms) ∧ Turned v.ownBlock.toList w w' ∧ (v'.ownBlock = v.ownBlock ∨ v'.ownBlock = some w.heap.size) := by
  obtain ⟨i, hi, hzz⟩ := Option.map_eq_some_iff.1 infoIntC
  simp only [Prod.mk.injEq] at hzz
  obtain ⟨hz, hs1, hb⟩ := hzz
  obtain ⟨a, c, rfl, hz0, hc⟩ := hu.ex
  cases a with
  | none =>
    have hms : ms = [] := by
      apply Classical.byContradiction
      intro hne
      obtain ⟨b, o, h, _⟩ := hc hne
      cases h
    subst hms
    refine ⟨v, w, ?_, by simpa using hr, Turned.refl _ _, .inl rfl⟩
    have := run_append_owned_none (P := Try.prog) (w := w) B 40 40 3 i 1 undIntsC hi v l.length (l.map (.int .i64 ·)) hr.own
    rw [hz0 rfl]
    exact this
  | some q =>
    obtain ⟨v', w', hrun, h2, h3, h4, h5⟩ := run_append_own_at (P := Try.prog) w B 40 40 3 i _ 1 8 undIntsC hi hz hs1 hb rfl (by decide) v l.length (l.map (.int .i64 ·)) hr.own q ms.length c (ms.map (.int .i64 ·)) (by simp) (fun j u hj => by
      have hjl : j < ms.length := by
        apply Classical.byContradiction
        intro hn
        rw [List.getElem?_eq_none (by simp; omega)] at hj
        cases hj
      have hne : ms ≠ [] := fun e => by rw [e] at hjl; simp at hjl
      obtain ⟨b, o, hq, hk⟩ := hc hne
      cases hq
      have hadd : (⟨b, o, none⟩ : Addr).add j = ⟨b, o + j, none⟩ := by unfold Addr.add; split <;> simp_all
      rw [hadd, hk j hjl]
      rw [List.getElem?_map, List.getElem?_eq_getElem hjl] at hj
      exact hj) (by intro u hu; obtain ⟨y, _, rfl⟩ := List.mem_map.1 hu; rfl) (by unfold maxLen; omega) (by omega) hB
    exact ⟨v', w', hrun, ⟨by rw [List.length_append, List.map_append]; exact h2⟩, ⟨h3.os, h3.tape, h3.output, h3.size, fun k hk hn => h3.block k hk fun e => hn (by rw [← e]; simp)⟩, h5⟩
theorem wpList_apInts {w : World} {ops : Array Oper} {rest : List Oper} {o : Oper} {a : Act} {Q : Exit → Act → World → Prop} {B : Nat} {v u : Value} {l ms : List Int} (hgd : o.guard = none) (p q : Operand) (ho : o.op = .call { callee := .builtin .append, args := #[p, q], argTypes := #[40, 40] }) (hty : o.type = 40)
    (hs : a.eval p = v) (hr : IR B w v l) (hy : a.eval q = u) (hu : IV w u ms) (hm : l.length ≤ 100000) (hm2 : ms.length ≤ 100000) (hB : B ≤ w.heap.size)
    (h : ∀ v' w', IR B w' v' (l ++ ms) → Turned v.ownBlock.toList w w' → (v'.ownBlock = v.ownBlock ∨ v'.ownBlock = some w.heap.size) → wpList Try.prog ops Q rest (a.put o.dst v') w') : wpList Try.prog ops Q (o :: rest) a w := by
  refine wpList_plain hgd fun K hK => ?_
  obtain ⟨v', w', hrun, h2, h3, h4⟩ := run_apInts hr hu hm hm2 hB
  unfold Oper.wp execOp
  simp only [ho, resolve, invoke, builtin, Sem.run_bind, Sem.run_pure, Result.andThen_ok, List.map_toArray, List.map_cons, List.map_nil, hs, hy, hty]
  simp only [hrun]
  exact hK _ _ (h v' w' h2 h3 h4)
set_option maxHeartbeats 800000 in
theorem cInts {w : World} {va vb : Value} {l : List Int} (ha : IV w va l) (hb : IV w vb l) (hn : l.length ≤ 1000000) : Calls Try.prog 12 #[va, vb] w fun e w' => e = .returned (.bool true) ∧ Turned [] w w' := by
  obtain ⟨aa, ca, rfl, -, fa⟩ := ha.ex
  obtain ⟨ab, cb, rfl, -, fb⟩ := hb.ex
  by_cases hne : l = []
  · subst hne
    clear ha hb fa fb hn
    simp only [List.length_nil]
    go_enter Try.func12, Try.ntmps12
    go_wp2
    refine wp_loop_once ?_
    go_wp2
    go_ret
    exact ⟨rfl, Turned.refl _ _⟩
  obtain ⟨ga, oa, rfl, ka⟩ := fa hne
  obtain ⟨gb, ob, rfl, kb⟩ := fb hne
  obtain ⟨n, hln⟩ : ∃ n, n = l.length := ⟨_, rfl⟩
  have HA : Hid _ := ka
  have HB : Hid _ := kb
  have HN : Hid (n = l.length) := hln
  rw [← hln] at hn ⊢
  clear ha hb hne hln fa fb ka kb
  go_enter Try.func12, Try.ntmps12
  go_wp2
  go_loopw [5] (fun i wx => ∃ k : Nat, k ≤ n ∧ i = .int .i64 k ∧ Hid (Turned [] w wx)) (fun i _ => n - (intOf i).toNat)
  case atStart => exact ⟨0, Nat.zero_le _, rfl, Turned.refl _ _⟩
  case round =>
    obtain ⟨k, hk, rfl, HT⟩ := hrel
    by_cases hkn : k < n
    · have hkl : k < l.length := by rw [← HN.out]; exact hkn
      have c1 := HT.out.cell (HA.out k hkl) (by simp)
      have c2 := HT.out.cell (HB.out k hkl) (by simp)
      generalize l[k] = lk at c1 c2
      have hlt : (k : Int) < (n : Int) := by omega
      clear hkl
      go_wp2
      go_quiet (fail)
      go_wp2
      exact ⟨⟨k + 1, by omega, by go_num, ⟨HT.out.os, HT.out.tape, HT.out.output, HT.out.size, HT.out.block⟩⟩, by simp [intOf]; omega⟩
    · have : k = n := by omega
      subst this
      go_wp2
      go_ret
      exact ⟨rfl, HT.out⟩
theorem eqNilI (a : Addr) (n c : Nat) (w : World) : (binOp .eql 40 (.slice (some a) n c) (.slice none 0 0)).run Try.prog w = .ok (.bool false) w := by kernel_rfl
set_option maxRecDepth 100000 in
set_option maxHeartbeats 800000 in
theorem cClone {w : World} {v : Value} {l : List Int} (hv : IV w v l) (hne : l ≠ []) (hn : l.length ≤ 10000) : Calls Try.prog 60 #[v] w fun e w' => ∃ v', e = .returned v' ∧ IR w.heap.size w' v' l ∧ Turned [] w w' := by
  obtain ⟨a, c, rfl, -, f⟩ := hv.ex
  obtain ⟨g, o, rfl, k⟩ := f hne
  have HV : Hid _ := hv
  have HN : Hid _ := hn
  have hq := eqNilI
  clear hv f k
  go_enter Try.func60, Try.ntmps60
  go_wp2_with (at_builtin; go_loud (refine wpList_apInts (v := .slice (some ⟨w.heap.size, 0, none⟩) 0 0) (u := .slice (some ⟨g, o, none⟩) l.length c) (l := []) (ms := l) (B := w.heap.size) rfl _ _ rfl rfl rfl ⟨rfl, .inr ⟨w.heap.size, 0, _, rfl, Nat.le_refl _, blk_new _ _, by simp, by decide, rfl, rfl⟩⟩ rfl (HV.out.still ((Turned.refl _ _).alloc _)) (by simp) (by have := HN.out; omega) (by simp) ?_; intro v' w11 hsr ht11 hor; have HSR : Hid _ := hsr; have HT11 : Hid _ := ht11; clear hsr ht11 hor))
  go_ret
  exact ⟨_, rfl, by simpa using HSR.out, ((Turned.refl [] w).alloc _).inner HT11.out (fun z hz => .inr (by simp [Value.ownBlock] at hz; omega))⟩
end Go.Proofs.Ytaaibhgbkdnlbaa
/- A chain in memory: its head, its sets. Package chain's sets, alone, by contract. -/
namespace Go.Proofs.Ytaaibhgbkdnlbaa
open Go.RowKit
abbrev csetO (h : Int) (v : Value) : Obj := .cells #[.int .i64 h, v] 133 (0, 0)
/-- A set: its block, the list's block and room; whose it is, and the list. -/
structure SRec where
  b : Nat
  g : Nat
  c : Nat
  h : Int
  l : List Int
def SRec.v (r : SRec) : Value := .slice (some ⟨r.g, 0, none⟩) r.l.length r.c
def ptrV : Option SRec → Value
  | none => .pointer none
  | some r => .pointer (some ⟨r.b, 0, none⟩)
abbrev setsObj (S : Nat → Option SRec) (n : Nat) : Obj := .cells ((List.range (n + 1)).map fun k => ptrV (S k)).toArray 136 (0, 0)
abbrev chainObj (p k : Nat) (head : Int) (sb n : Nat) : Obj := .cells #[.pointer (some ⟨p, 0, none⟩), .pointer (some ⟨k, 0, none⟩), .int .i64 head, .slice (some ⟨sb, 0, none⟩) (n + 1) (n + 1)] 92 (0, 0)
theorem sets_cell {w : World} {sb n : Nat} {S : Nat → Option SRec} (h : w.heap[sb]? = some (setsObj S n)) {k : Nat} (hk : k ≤ n) : w.cell? ⟨sb, k, none⟩ = some (ptrV (S k)) := by
  rw [cell_at h, List.getElem?_toArray, List.getElem?_map, List.getElem?_range (by omega)]; rfl
theorem sets_put {w : World} {sb n : Nat} {S : Nat → Option SRec} (h : w.heap[sb]? = some (setsObj S n)) {k : Nat} (r : Option SRec) : (w.setCell ⟨sb, k, none⟩ (ptrV r)).heap[sb]? = some (setsObj (upd S k r) n) := by
  rw [blk_set h]
  congr 2
  apply Array.ext
  · simp
  · intro i h1 h2
    simp only [List.size_toArray, List.length_map, List.length_range] at h2
    by_cases e : i = k
    · subst e; simp [upd]
    · have e' : ¬ k = i := fun x => e x.symm
      simp [upd, e, e']
/-- The sets of a chain. -/
structure SetsAt (w : World) (sb n : Nat) (S : Nat → Option SRec) : Prop where
  row : w.heap[sb]? = some (setsObj S n)
  obj : ∀ k r, k ≤ n → S k = some r → w.heap[r.b]? = some (csetO r.h r.v) ∧ IR 0 w r.v r.l ∧ r.l ≠ []
  once : ∀ j k r q, j ≤ n → k ≤ n → S j = some r → S k = some q → r.g = q.g → j = k
/-- The blocks of the sets. -/
def setB (S : Nat → Option SRec) (n : Nat) : List Nat := (List.range (n + 1)).flatMap fun k => match S k with | none => [] | some r => [r.b, r.g]
theorem mem_setB {S : Nat → Option SRec} {n k : Nat} {r : SRec} (hk : k ≤ n) (h : S k = some r) : r.b ∈ setB S n ∧ r.g ∈ setB S n := by
  constructor <;> exact List.mem_flatMap.2 ⟨k, List.mem_range.2 (by omega), by rw [h]; simp⟩
theorem setB_mem {S : Nat → Option SRec} {n x : Nat} (h : x ∈ setB S n) : ∃ k r, k ≤ n ∧ S k = some r ∧ (x = r.b ∨ x = r.g) := by
  obtain ⟨k, hk, hx⟩ := List.mem_flatMap.1 h
  have hk' := List.mem_range.1 hk
  cases hS : S k with
  | none => rw [hS] at hx; cases hx
  | some r => rw [hS] at hx; simp at hx; exact ⟨k, r, by omega, hS, hx⟩
section
variable {w w' : World} {sb n : Nat} {S : Nat → Option SRec}
theorem SetsAt.keep (h : SetsAt w sb n S) {M : List Nat} (ht : Turned M w w') (h1 : sb ∉ M) (h2 : ∀ x, x ∈ M → x ∉ setB S n) : SetsAt w' sb n S :=
  ⟨ht.heap h.row h1, fun k r hk hr => by
    obtain ⟨a1, a2, a3⟩ := h.obj k r hk hr
    obtain ⟨m1, m2⟩ := mem_setB hk hr
    exact ⟨ht.heap a1 (fun hm => h2 _ hm m1), a2.keep ht (fun g hg hm => by cases hg; exact h2 _ hm m2), a3⟩, h.once⟩
theorem SetsAt.still (h : SetsAt w sb n S) (ht : Turned [] w w') : SetsAt w' sb n S := h.keep ht (by simp) (by simp)
theorem SetsAt.lt (h : SetsAt w sb n S) : ∀ x, x ∈ setB S n → x < w.heap.size := fun x hx => by
  obtain ⟨k, r, hk, hr, rfl | rfl⟩ := setB_mem hx
  · exact lt_of_heap (h.obj k r hk hr).1
  · exact ((h.obj k r hk hr).2.1.fresh rfl).2
theorem SetsAt.type (h : SetsAt w sb n S) {x : Nat} (hx : x ∈ setB S n) : ∃ cs T, w.heap[x]? = some (.cells cs T (0, 0)) ∧ T ∈ ([133, 3] : List TypeId) := by
  obtain ⟨k, r, hk, hr, rfl | rfl⟩ := setB_mem hx
  · exact ⟨_, _, (h.obj k r hk hr).1, by decide⟩
  · obtain ⟨cs, hc⟩ := (h.obj k r hk hr).2.1.type (g := r.g) rfl
    exact ⟨cs, _, hc, by decide⟩
theorem SetsAt.other (h : SetsAt w sb n S) {x : Nat} {cs : Array Value} {T : TypeId} (hx : w.heap[x]? = some (.cells cs T (0, 0))) (hT : T ∉ ([133, 3] : List TypeId)) : x ∉ setB S n := fun hm => by
  obtain ⟨cs', T', hc, hT'⟩ := h.type hm
  rw [hx] at hc
  simp only [Option.some.injEq, Obj.cells.injEq] at hc
  rw [hc.2.1] at hT
  exact hT hT'
theorem SetsAt.notRow (h : SetsAt w sb n S) : sb ∉ setB S n := h.other h.row (by decide)
/-- A set is taken out, or none is put. -/
theorem SetsAt.out (h : SetsAt w sb n S) (k : Nat) : SetsAt (w.setCell ⟨sb, k, none⟩ (.pointer none)) sb n (upd S k none) := by
  have ht : Turned [sb] w (w.setCell ⟨sb, k, none⟩ (.pointer none)) := (Turned.refl _ _).set (.inl (by simp)) _ _
  have nr := h.notRow
  have sub : ∀ {j r}, upd S k none j = some r → S j = some r := fun {j r} hj => by
    by_cases e : j = k
    · subst e; rw [upd_same] at hj; cases hj
    · rwa [upd_other _ _ e] at hj
  refine ⟨sets_put h.row none, fun j r hj hr => ?_, fun i j r q hi hj hr hq => h.once i j r q hi hj (sub hr) (sub hq)⟩
  have hr' := sub hr
  obtain ⟨a1, a2, a3⟩ := h.obj j r hj hr'
  obtain ⟨m1, m2⟩ := mem_setB hj hr'
  refine ⟨ht.heap a1 ?_, a2.keep ht (fun g hg => ?_), a3⟩
  · simp; intro e; exact nr (e ▸ m1)
  · cases hg; simp; intro e; exact nr (e ▸ m2)
/-- A set is put. -/
theorem SetsAt.put (h : SetsAt w sb n S) (k : Nat) (r : SRec) (h1 : w.heap[r.b]? = some (csetO r.h r.v)) (h2 : IR 0 w r.v r.l) (h3 : r.l ≠ []) (h4 : r.g ∉ setB S n) : SetsAt (w.setCell ⟨sb, k, none⟩ (.pointer (some ⟨r.b, 0, none⟩))) sb n (upd S k (some r)) := by
  have ht : Turned [sb] w (w.setCell ⟨sb, k, none⟩ (.pointer (some ⟨r.b, 0, none⟩))) := (Turned.refl _ _).set (.inl (by simp)) _ _
  have nr := h.notRow
  have rb : r.b ≠ sb := fun e => other_type h1 (e ▸ h.row) (by decide) rfl
  have rg : r.g ≠ sb := fun e => by
    obtain ⟨cs, hc⟩ := h2.type (g := r.g) rfl
    exact other_type hc (e ▸ h.row) (by decide) rfl
  refine ⟨sets_put h.row (some r), fun j q hj hq => ?_, fun i j q1 q2 hi hj h1' h2' e => ?_⟩
  · by_cases e : j = k
    · subst e
      rw [upd_same] at hq
      cases hq
      exact ⟨ht.heap h1 (by simp; exact rb), h2.keep ht (fun g hg => by cases hg; simp; exact rg), h3⟩
    · rw [upd_other _ _ e] at hq
      obtain ⟨a1, a2, a3⟩ := h.obj j q hj hq
      obtain ⟨m1, m2⟩ := mem_setB hj hq
      refine ⟨ht.heap a1 ?_, a2.keep ht (fun g hg => ?_), a3⟩
      · simp; intro e; exact nr (e ▸ m1)
      · cases hg; simp; intro e; exact nr (e ▸ m2)
  · by_cases e1 : i = k
    · by_cases e2 : j = k
      · rw [e1, e2]
      · subst e1
        rw [upd_same] at h1'
        cases h1'
        rw [upd_other _ _ e2] at h2'
        exact absurd (mem_setB hj h2').2 (e ▸ h4)
    · rw [upd_other _ _ e1] at h1'
      by_cases e2 : j = k
      · subst e2
        rw [upd_same] at h2'
        cases h2'
        exact absurd (mem_setB hi h1').2 (e ▸ h4)
      · rw [upd_other _ _ e2] at h2'
        exact h.once i j q1 q2 hi hj h1' h2' e
end
theorem cSlotOf {i : Nat} {g : Int} (hi : i ≤ 4096) (h0 : 0 ≤ g) (h1 : g < 1099511627776) (w : World) : Calls Try.prog 61 #[.int .i64 (hnd i g)] w fun e w' => e = .returned (.int .i64 i) ∧ w' = w := by
  have hq : Int.tdiv (hnd i g) 1099511627776 = i := by unfold hnd; rw [Int.tdiv_eq_ediv_of_nonneg (by omega)]; omega
  generalize hnd i g = h at *
  go_enter Try.func61, Try.ntmps61
  go_wp2
  go_ret
  exact ⟨by go_num, rfl⟩
theorem cSlots {sb n c : Nat} (hn : n ≤ 4096) (w : World) : Calls Try.prog 29 #[.slice (some ⟨sb, 0, none⟩) (n + 1) c] w fun e w' => e = .returned (.int .i64 n) ∧ w' = w := by
  have hn' : (n : Int) ≤ 4096 := by omega
  go_enter Try.func29, Try.ntmps29
  go_wp2
  go_ret
  exact ⟨by go_num, rfl⟩
end Go.Proofs.Ytaaibhgbkdnlbaa
/- Package chain's sets, alone, by contract: find, keep, takeOut, of; inUse; New. -/
namespace Go.Proofs.Ytaaibhgbkdnlbaa
open Go.RowKit
section
variable {w : World} {sb n i : Nat} {g : Int} {S : Nat → Option SRec}
theorem eqNilS (a : Addr) (w : World) : (binOp .eql 130 (.pointer (some a)) (.pointer none)).run Try.prog w = .ok (.bool false) w := by kernel_rfl
set_option maxHeartbeats 800000 in
theorem cFindMiss (H : SetsAt w sb n S) (hn : n ≤ 4096) (h1 : 1 ≤ i) (h2 : i ≤ n) (g0 : 0 ≤ g) (g1 : g < 1099511627776) (hS : S i = none) :
    Calls Try.prog 63 #[.slice (some ⟨sb, 0, none⟩) (n + 1) (n + 1), .int .i64 (hnd i g)] w fun e w' => e = .returned (.pointer none) ∧ w' = w := by
  have HO := cSlotOf (i := i) (by omega) g0 g1 w
  have HL := cSlots (sb := sb) (c := n + 1) hn w
  have hc := sets_cell H.row h2
  rw [hS] at hc
  have HP := cSLoadN hc
  have a1 : ¬ (i : Int) < 1 := by omega
  have a2 : ¬ (n : Int) < i := by omega
  have a3 : (i : Int) < ((n + 1 : Nat) : Int) := by omega
  have a4 : (i : Int) < (n : Int) + 1 := by omega
  generalize hnd i g = h at *
  clear H hS hc
  go_enter Try.func63, Try.ntmps63
  go_wp2_with (first
    | (go_at_call 61; refine HO.mono ?_; rintro e w' ⟨rfl, hw⟩; obtain rfl := hw.symm)
    | (go_at_call 29; refine HL.mono ?_; rintro e w' ⟨rfl, hw⟩; obtain rfl := hw.symm)
    | (go_at_call 80; refine HP.mono ?_; rintro e w' ⟨rfl, hw⟩; obtain rfl := hw.symm))
  go_ret
  exact ⟨rfl, rfl⟩
set_option maxHeartbeats 800000 in
theorem cFindHit (H : SetsAt w sb n S) (hn : n ≤ 4096) (h1 : 1 ≤ i) (h2 : i ≤ n) (g0 : 0 ≤ g) (g1 : g < 1099511627776) {r : SRec} (hS : S i = some r) (hr : r.h = hnd i g) :
    Calls Try.prog 63 #[.slice (some ⟨sb, 0, none⟩) (n + 1) (n + 1), .int .i64 (hnd i g)] w fun e w' => e = .returned (.pointer (some ⟨r.b, 0, none⟩)) ∧ w' = w := by
  have HO := cSlotOf (i := i) (by omega) g0 g1 w
  have HL := cSlots (sb := sb) (c := n + 1) hn w
  have hc := sets_cell H.row h2
  rw [hS] at hc
  obtain ⟨o1, -, -⟩ := H.obj i r h2 hS
  have HP := cSLoad (b := r.b) hc o1 rfl
  have c0 : w.cell? ⟨r.b, 0, none⟩ = some (.int .i64 r.h) := by rw [cell_at o1]; rfl
  rw [hr] at c0
  have a1 : ¬ (i : Int) < 1 := by omega
  have a2 : ¬ (n : Int) < i := by omega
  have a3 : (i : Int) < ((n + 1 : Nat) : Int) := by omega
  have a4 : (i : Int) < (n : Int) + 1 := by omega
  have hq := eqNilS
  generalize hnd i g = h at *
  generalize r.b = rb at *
  clear H hS hc o1 hr
  go_enter Try.func63, Try.ntmps63
  go_wp2_with (first
    | (go_at_call 61; refine HO.mono ?_; rintro e w' ⟨rfl, hw⟩; obtain rfl := hw.symm)
    | (go_at_call 29; refine HL.mono ?_; rintro e w' ⟨rfl, hw⟩; obtain rfl := hw.symm)
    | (go_at_call 80; refine HP.mono ?_; rintro e w' ⟨rfl, hw⟩; obtain rfl := hw.symm))
  go_ret
  exact ⟨rfl, rfl⟩
set_option maxHeartbeats 800000 in
theorem cTakeOutMiss (H : SetsAt w sb n S) (hn : n ≤ 4096) (h1 : 1 ≤ i) (h2 : i ≤ n) (g0 : 0 ≤ g) (g1 : g < 1099511627776) (hS : S i = none) :
    Calls Try.prog 36 #[.slice (some ⟨sb, 0, none⟩) (n + 1) (n + 1), .int .i64 (hnd i g)] w fun e w' => e = .returned (.slice none 0 0) ∧ w' = w := by
  have HF := cFindMiss H hn h1 h2 g0 g1 hS
  generalize hnd i g = h at *
  clear H hS
  go_enter Try.func36, Try.ntmps36
  go_wp2_with (go_at_call 63; refine HF.mono ?_; rintro e w' ⟨rfl, hw⟩; obtain rfl := hw.symm)
  go_ret
  exact ⟨rfl, rfl⟩
set_option maxHeartbeats 800000 in
theorem cTakeOutHit (H : SetsAt w sb n S) (hn : n ≤ 4096) (h1 : 1 ≤ i) (h2 : i ≤ n) (g0 : 0 ≤ g) (g1 : g < 1099511627776) {r : SRec} (hS : S i = some r) (hr : r.h = hnd i g) :
    Calls Try.prog 36 #[.slice (some ⟨sb, 0, none⟩) (n + 1) (n + 1), .int .i64 (hnd i g)] w fun e w' => e = .returned r.v ∧ w' = w.setCell ⟨sb, i, none⟩ (.pointer none) := by
  have HF := cFindHit H hn h1 h2 g0 g1 hS hr
  have HO := cSlotOf (i := i) (by omega) g0 g1 w
  have hc := sets_cell H.row h2
  rw [hS] at hc
  obtain ⟨o1, o2, -⟩ := H.obj i r h2 hS
  have hne : r.b ≠ sb := fun e => other_type o1 (e ▸ H.row) (by decide) rfl
  have HC := cSCasN (b := r.b) hc (froz_at H.row i) o1 rfl
  have c1 : (w.setCell ⟨sb, i, none⟩ (.pointer none)).cell? ⟨r.b, 1, none⟩ = some r.v := by rw [cell_at ((blk_other hne _ _).trans o1)]; rfl
  have a3 : (i : Int) < ((n + 1 : Nat) : Int) := by omega
  have a4 : (i : Int) < (n : Int) + 1 := by omega
  have hq := eqNilS
  obtain ⟨va, vl, vc, hv⟩ : ∃ va vl vc, r.v = .slice va vl vc := ⟨_, _, _, rfl⟩
  rw [hv] at c1 ⊢
  generalize hnd i g = h at *
  generalize r.b = rb at *
  clear H hS hc o1 o2 hr hv
  go_enter Try.func36, Try.ntmps36
  go_wp2_with (first
    | (go_at_call 63; refine HF.mono ?_; rintro e w' ⟨rfl, hw⟩; obtain rfl := hw.symm)
    | (go_at_call 61; refine HO.mono ?_; rintro e w' ⟨rfl, hw⟩; obtain rfl := hw.symm)
    | (go_at_call 64; refine HC.mono ?_; rintro e w' ⟨rfl, rfl⟩))
  go_ret
  exact ⟨rfl, rfl⟩
set_option maxHeartbeats 800000 in
theorem cOfMiss (H : SetsAt w sb n S) (hn : n ≤ 4096) (h1 : 1 ≤ i) (h2 : i ≤ n) (g0 : 0 ≤ g) (g1 : g < 1099511627776) (hS : S i = none) :
    Calls Try.prog 45 #[.slice (some ⟨sb, 0, none⟩) (n + 1) (n + 1), .int .i64 (hnd i g)] w fun e w' => e = .returned (.slice none 0 0) ∧ w' = w := by
  have HF := cFindMiss H hn h1 h2 g0 g1 hS
  generalize hnd i g = h at *
  clear H hS
  go_enter Try.func45, Try.ntmps45
  go_wp2_with (go_at_call 63; refine HF.mono ?_; rintro e w' ⟨rfl, hw⟩; obtain rfl := hw.symm)
  go_ret
  exact ⟨rfl, rfl⟩
set_option maxHeartbeats 800000 in
theorem cOfHit (H : SetsAt w sb n S) (hn : n ≤ 4096) (h1 : 1 ≤ i) (h2 : i ≤ n) (g0 : 0 ≤ g) (g1 : g < 1099511627776) {r : SRec} (hS : S i = some r) (hr : r.h = hnd i g) (hl : r.l.length ≤ 10000) :
    Calls Try.prog 45 #[.slice (some ⟨sb, 0, none⟩) (n + 1) (n + 1), .int .i64 (hnd i g)] w fun e w' => ∃ v', e = .returned v' ∧ IR w.heap.size w' v' r.l ∧ Turned [] w w' := by
  have HF := cFindHit H hn h1 h2 g0 g1 hS hr
  obtain ⟨o1, o2, o3⟩ := H.obj i r h2 hS
  have HC := cClone o2.view o3 hl
  have c1 : w.cell? ⟨r.b, 1, none⟩ = some r.v := by rw [cell_at o1]; rfl
  have hq := eqNilS
  obtain ⟨va, vl, vc, hv⟩ : ∃ va vl vc, r.v = .slice va vl vc := ⟨_, _, _, rfl⟩
  rw [hv] at c1 HC
  generalize hnd i g = h at *
  generalize r.b = rb at *
  generalize r.l = rl at *
  clear H hS o1 o2 hr hv o3
  go_enter Try.func45, Try.ntmps45
  go_wp2_with (first
    | (go_at_call 63; refine HF.mono ?_; rintro e w' ⟨rfl, hw⟩; obtain rfl := hw.symm)
    | (go_at_call 60; refine HC.mono ?_; rintro e w' ⟨v', rfl, hi, ht⟩; have HI : Hid _ := And.intro hi ht; clear hi ht))
  go_ret
  exact ⟨_, rfl, HI.out.1, HI.out.2⟩
set_option maxHeartbeats 800000 in
theorem cKeepNone (H : SetsAt w sb n S) (hn : n ≤ 4096) (h2 : i ≤ n) (g0 : 0 ≤ g) (g1 : g < 1099511627776) {v : Value} (hv : IV w v []) :
    Calls Try.prog 34 #[.slice (some ⟨sb, 0, none⟩) (n + 1) (n + 1), .int .i64 (hnd i g), v] w fun e w' => e = .returned (.tuple #[]) ∧ w' = w.setCell ⟨sb, i, none⟩ (.pointer none) := by
  have HO := cSlotOf (i := i) (by omega) g0 g1 w
  have hc := sets_cell H.row h2
  have HP := cSStoreN hc (froz_at H.row i)
  obtain ⟨a, c, rfl, -, -⟩ := hv.ex
  have a3 : (i : Int) < ((n + 1 : Nat) : Int) := by omega
  have a4 : (i : Int) < (n : Int) + 1 := by omega
  generalize hnd i g = h at *
  clear H hc hv
  simp only [List.length_nil]
  go_enter Try.func34, Try.ntmps34
  go_wp2_with (first
    | (go_at_call 61; refine HO.mono ?_; rintro e w' ⟨rfl, hw⟩; obtain rfl := hw.symm)
    | (go_at_call 62; refine HP.mono ?_; rintro e w' ⟨rfl, rfl⟩))
  go_end0
  exact ⟨rfl, rfl⟩
set_option maxHeartbeats 800000 in
theorem cKeepSome (H : SetsAt w sb n S) (hn : n ≤ 4096) (h2 : i ≤ n) (g0 : 0 ≤ g) (g1 : g < 1099511627776) {v : Value} {l : List Int} (hv : IV w v l) (hne : l ≠ []) (hl : l.length ≤ 10000) :
    Calls Try.prog 34 #[.slice (some ⟨sb, 0, none⟩) (n + 1) (n + 1), .int .i64 (hnd i g), v] w fun e w' => e = .returned (.tuple #[]) ∧ Turned [sb] w w' ∧ ∃ r : SRec, SetsAt w' sb n (upd S i (some r)) ∧ r.h = hnd i g ∧ r.l = l ∧ w.heap.size ≤ r.b ∧ w.heap.size ≤ r.g := by
  have HO : Hid (∀ x, Calls Try.prog 61 #[.int .i64 (hnd i g)] x fun e w' => e = .returned (.int .i64 i) ∧ w' = x) := fun x => cSlotOf (i := i) (by omega) g0 g1 x
  have HC := cClone hv hne hl
  obtain ⟨a, c, rfl, -, -⟩ := hv.ex
  have hlen : 0 < (l.length : Int) := by
    cases l with
    | nil => exact absurd rfl hne
    | cons _ _ => simp
  have a3 : (i : Int) < ((n + 1 : Nat) : Int) := by omega
  have a4 : (i : Int) < (n : Int) + 1 := by omega
  have HH : Hid _ := H
  have HN : Hid (l ≠ [] ∧ i ≤ n) := ⟨hne, h2⟩
  have hsb := lt_of_heap H.row
  have hslt := H.lt
  have HS : Hid _ := hslt
  generalize hh : hnd i g = h at *
  clear H hv hne hslt hh
  go_enter Try.func34, Try.ntmps34
  go_wp2_with (first
    | (go_at_call 60; refine HC.mono ?_; rintro e w1 ⟨v', rfl, hi, ht⟩; obtain ⟨gg, cg, hvv⟩ := hi.at_ HN.out.1; subst hvv; have HI : Hid _ := And.intro hi ht; have hsz := ht.size; clear hi ht)
    | (go_at_call 61; refine (HO.out _).mono ?_; rintro e w' ⟨rfl, hw⟩; obtain rfl := hw.symm)
    | (go_at_call 62; have tA := HI.out.2.alloc (csetO h (.slice (some ⟨gg, 0, none⟩) l.length cg)); refine (cSStore (b := w1.heap.size) (sets_cell (HH.out.still tA).row HN.out.2) (froz_at (HH.out.still tA).row i) (blk_new w1 _) rfl).mono ?_; rintro e w2 ⟨rfl, hw2⟩; have HW2 : Hid _ := hw2; have HTA : Hid _ := tA; clear hw2 tA))
  go_end0
  rw [HW2.out]
  have hf := HI.out.1.fresh (g := gg) rfl
  have h0 := HH.out.still HTA.out
  refine ⟨rfl, (HTA.out.mono (by simp)).set (.inl (by simp)) _ _, ⟨w1.heap.size, gg, cg, h, l⟩, ?_, rfl, rfl, hsz, hf.1⟩
  refine h0.put i ⟨w1.heap.size, gg, cg, h, l⟩ (blk_new w1 _) ((HI.out.1.still ((Turned.refl _ _).alloc _)).lower (Nat.zero_le _)) HN.out.1 (fun hm => ?_)
  have h1 : gg < w.heap.size := HS.out gg hm
  omega
end
/-- What the pool tells of its slots, in memory. -/
structure SlotsAt (w : World) (g : Nat) (s : PSt) : Prop where
  ex : ∃ cs, w.heap[g]? = some (.cells cs 120 (0, 0)) ∧ ∀ j k, j < s.n → k < 7 → cs[7 * j + k]? = some (sfld (s.slot (j + 1)) k)
theorem SlotsAt.gen {w : World} {g : Nat} {s : PSt} (h : SlotsAt w g s) {j : Nat} (hj : j < s.n) : w.cell? ⟨g, j * 7, none⟩ = some (.int .i64 (s.slot (j + 1)).gen) := by
  obtain ⟨cs, h1, h2⟩ := h.ex
  rw [cell_at h1, show j * 7 = 7 * j + 0 by omega]; exact h2 j 0 hj (by omega)
theorem SlotsAt.link {w : World} {g : Nat} {s : PSt} (h : SlotsAt w g s) {j : Nat} (hj : j < s.n) : w.cell? ⟨g, j * 7 + 6, none⟩ = some (.int .i64 (s.slot (j + 1)).link) := by
  obtain ⟨cs, h1, h2⟩ := h.ex
  rw [cell_at h1, show j * 7 + 6 = 7 * j + 6 by omega]; exact h2 j 6 hj (by omega)
theorem SlotsAt.still {w w' : World} {g : Nat} {s : PSt} (h : SlotsAt w g s) (ht : Turned [] w w') : SlotsAt w' g s := by
  obtain ⟨cs, h1, h2⟩ := h.ex
  exact ⟨cs, ht.heap h1 (by simp), h2⟩
section
variable {w : World} {gs c j : Nat} {g : Int} {s : PSt}
set_option maxHeartbeats 800000 in
theorem cInUse (H : SlotsAt w gs s) (hn : s.n ≤ 4096) (hj : j < s.n) (g0 : 0 ≤ g) (g1 : g < 1099511627776) (g2 : g % 2 = 1) (hg : (s.slot (j + 1)).gen = g) :
    Calls Try.prog 46 #[.slice (some ⟨gs, 0, none⟩) s.n c, .int .i64 (hnd (j + 1) g)] w fun e w' => e = .returned (.bool true) ∧ w' = w := by
  have HO := cSlotOf (i := j + 1) (by omega) g0 g1 w
  have hm : Int.tmod (hnd (j + 1) g) 1099511627776 = g := by unfold hnd; rw [Int.tmod_eq_emod_of_nonneg (by omega)]; omega
  have hm2 : Int.tmod g 2 = 1 := by rw [Int.tmod_eq_emod_of_nonneg g0]; exact g2
  have hc := H.gen hj
  rw [hg] at hc
  have a1 : (1 : Int) ≤ ((j + 1 : Nat) : Int) := by omega
  have a2 : ((j + 1 : Nat) : Int) ≤ (s.n : Int) := by omega
  have a3 : (j : Int) < (s.n : Int) := by omega
  have a4 : (j : Int) ≤ 4096 := by omega
  obtain ⟨m, hmm⟩ : ∃ m, m = s.n := ⟨_, rfl⟩
  rw [← hmm] at a2 a3 ⊢
  generalize hnd (j + 1) g = h at *
  clear H hg hn hj hmm
  go_enter Try.func46, Try.ntmps46
  go_wp2_with (go_at_call 61; refine HO.mono ?_; rintro e w' ⟨rfl, hw⟩; obtain rfl := hw.symm)
  go_ret
  exact ⟨rfl, rfl⟩
set_option maxHeartbeats 800000 in
theorem cInUse0 {a : Option Addr} {m : Nat} : Calls Try.prog 46 #[.slice a m c, .int .i64 0] w fun e w' => e = .returned (.bool false) ∧ w' = w := by
  have HO := cSlotOf (i := 0) (g := 0) (by omega) (by omega) (by omega) w
  rw [show hnd 0 0 = 0 from rfl] at HO
  go_enter Try.func46, Try.ntmps46
  go_wp2_with (go_at_call 61; refine HO.mono ?_; rintro e w' ⟨rfl, hw⟩; obtain rfl := hw.symm)
  go_ret
  exact ⟨rfl, rfl⟩
end
end Go.Proofs.Ytaaibhgbkdnlbaa
/- A chain with its pool and its clock; package chain's settle, publish, Top, ahead, Cut by contract. -/
namespace Go.Proofs.Ytaaibhgbkdnlbaa
open Go.RowKit
abbrev pp (b : Nat) : Value := .pointer (some ⟨b, 0, none⟩)
theorem poolAt_cells {w : World} {p : Nat} {F : List Nat} {s : PSt} (h : PoolAt w p F s) {x : Nat} (hx : x ∈ F) : ∃ cs T, w.heap[x]? = some (.cells cs T (0, 0)) ∧ T ∈ ([72, 79, 113, 70, 75] : List TypeId) := by
  obtain ⟨sb, pb, nb, L, hp, rfl⟩ := h
  rcases mem_blocks hx with rfl | rfl | rfl | rfl | ⟨k, hk, rfl⟩
  · exact ⟨_, _, hp.pool, by decide⟩
  · exact ⟨_, _, hp.slots, by decide⟩
  · exact ⟨_, _, hp.pile.head, by decide⟩
  · exact ⟨_, _, hp.pile.next, by decide⟩
  · exact ⟨_, _, hp.life k hk, by decide⟩
theorem poolAt_other {w : World} {p : Nat} {F : List Nat} {s : PSt} (h : PoolAt w p F s) {x : Nat} {y : Array Value} {S : TypeId} (hy : w.heap[x]? = some (.cells y S (0, 0))) (hS : S ∉ ([72, 79, 113, 70, 75] : List TypeId)) : x ∉ F := fun hx => by
  obtain ⟨cs, T, hh, hT⟩ := poolAt_cells h hx
  rw [hy] at hh
  simp only [Option.some.injEq, Obj.cells.injEq] at hh
  rw [hh.2.1] at hS
  exact hS hT
theorem PoolAt.still {w w' : World} {p : Nat} {F : List Nat} {s : PSt} (h : PoolAt w p F s) (ht : Turned [] w w') : PoolAt w' p F s := poolLaws.keep h ht (by simp)
/-- A chain, its pool, its clock's now. -/
structure CA (w : World) (p kb : Nat) (F : List Nat) (s : PSt) (now : Int) (kv : Value) (c sb : Nat) (head : Int) (S : Nat → Option SRec) : Prop where
  pool : PoolAt w p F s
  clk : w.heap[kb]? = some (clockObj now kv)
  obj : w.heap[c]? = some (chainObj p kb head sb s.n)
  sets : SetsAt w sb s.n S
section
variable {w w' : World} {p kb c sb : Nat} {F F' : List Nat} {s s' : PSt} {now head : Int} {kv : Value} {S : Nat → Option SRec}
theorem CA.nc (h : CA w p kb F s now kv c sb head S) : c ∉ F := poolAt_other h.pool h.obj (by decide)
theorem CA.nk (h : CA w p kb F s now kv c sb head S) : kb ∉ F := poolAt_other h.pool h.clk (by decide)
theorem CA.ns (h : CA w p kb F s now kv c sb head S) : sb ∉ F := poolAt_other h.pool h.sets.row (by decide)
theorem CA.nS (h : CA w p kb F s now kv c sb head S) : ∀ x, x ∈ F → x ∉ setB S s.n := fun x hx hm => by
  obtain ⟨cs, T, hc, hT⟩ := h.sets.type hm
  exact poolAt_other h.pool hc (by
    simp only [List.mem_cons, List.not_mem_nil, or_false] at hT
    rcases hT with rfl | rfl <;> decide) hx
theorem CA.cs (h : CA w p kb F s now kv c sb head S) : c ≠ sb := other_type h.obj h.sets.row (by decide)
theorem CA.ck (h : CA w p kb F s now kv c sb head S) : c ≠ kb := other_type h.obj h.clk (by decide)
theorem CA.ks (h : CA w p kb F s now kv c sb head S) : kb ≠ sb := other_type h.clk h.sets.row (by decide)
/-- The pool turned. -/
theorem CA.step (h : CA w p kb F s now kv c sb head S) (ht : Turned F w w') (hA : PoolAt w' p F' s') (hn : s'.n = s.n) : CA w' p kb F' s' now kv c sb head S :=
  ⟨hA, ht.heap h.clk h.nk, by rw [hn]; exact ht.heap h.obj h.nc, by rw [hn]; exact h.sets.keep ht h.ns h.nS⟩
theorem CA.still (h : CA w p kb F s now kv c sb head S) (ht : Turned [] w w') : CA w' p kb F s now kv c sb head S :=
  ⟨h.pool.still ht, ht.heap h.clk (by simp), ht.heap h.obj (by simp), h.sets.still ht⟩
theorem CA.c0 (h : CA w p kb F s now kv c sb head S) : w.cell? ⟨c, 0, none⟩ = some (pp p) := by rw [cell_at h.obj]; rfl
theorem CA.c1 (h : CA w p kb F s now kv c sb head S) : w.cell? ⟨c, 1, none⟩ = some (pp kb) := by rw [cell_at h.obj]; rfl
theorem CA.c2 (h : CA w p kb F s now kv c sb head S) : w.cell? ⟨c, 2, none⟩ = some (.int .i64 head) := by rw [cell_at h.obj]; rfl
theorem CA.c3 (h : CA w p kb F s now kv c sb head S) : w.cell? ⟨c, 3, none⟩ = some (.slice (some ⟨sb, 0, none⟩) (s.n + 1) (s.n + 1)) := by rw [cell_at h.obj]; rfl
/-- The head is stored. -/
theorem CA.put (h : CA w p kb F s now kv c sb head S) (x : Int) : CA (w.setCell ⟨c, 2, none⟩ (.int .i64 x)) p kb F s now kv c sb x S := by
  have ht : Turned [c] w (w.setCell ⟨c, 2, none⟩ (.int .i64 x)) := (Turned.refl _ _).set (.inl (by simp)) _ _
  refine ⟨poolLaws.keep h.pool ht (fun y hy hm => by simp at hy; subst hy; exact h.nc hm), ht.heap h.clk (by simp; exact fun e => h.ck e.symm), blk_set h.obj 2 _, h.sets.keep ht (by simp; exact fun e => h.cs e.symm) (fun y hy hm => ?_)⟩
  simp at hy; subst hy
  exact h.sets.other h.obj (by decide) hm
/-- The sets turn. -/
theorem CA.turn (h : CA w p kb F s now kv c sb head S) {S' : Nat → Option SRec} (ht : Turned [sb] w w') (hs : SetsAt w' sb s.n S') : CA w' p kb F s now kv c sb head S' :=
  ⟨poolLaws.keep h.pool ht (fun y hy hm => by simp at hy; subst hy; exact h.ns hm), ht.heap h.clk (by simp; exact h.ks), ht.heap h.obj (by simp; exact h.cs), hs⟩
end
section
variable {w : World} {p kb c sb i : Nat} {F : List Nat} {s : PSt} {now head g : Int} {kv : Value} {S : Nat → Option SRec}
set_option maxHeartbeats 1600000 in
theorem cSettleHas (H : CA w p kb F s now kv c sb head S) (hO : s.Ok) (h1 : 1 ≤ i) (h2 : i ≤ s.n) (g0 : 0 ≤ g) (g1 : g ≤ 1099511627774) (g2 : g % 2 = 1) (hg : (s.slot i).gen = g) (hm : ¬ (s.slot i).mark = 0) :
    Calls Try.prog 28 #[pp c, .pointer none, .int .i64 (hnd i g)] w fun e w' => e = .returned (.tuple #[.int .i64 (s.slot i).mark, .int .i64 0]) ∧ Turned F w w' ∧ CA w' p kb F s now kv c sb head S := by
  have HM := poolLaws.mark H.pool hO h1 h2 g0 (by omega) g2 hg
  have c0 := H.c0
  have hmb : ((s.slot i).mark != 0) = true := by simpa using hm
  have HH : Hid _ := H
  generalize hnd i g = h at *
  generalize (s.slot i).mark = mk at *
  clear H hg hm
  go_enter Try.func28, Try.ntmps28
  go_wp2_with (go_at_call 54; refine HM.mono ?_; rintro e w1 ⟨rfl, ht, hA⟩; have HT : Hid _ := And.intro ht hA; clear ht hA)
  go_ret2
  exact ⟨rfl, HT.out.1, HH.out.step HT.out.1 HT.out.2 rfl⟩
set_option maxHeartbeats 1600000 in
theorem cSettleNew (H : CA w p kb F s now kv c sb head S) (hO : s.Ok) (h1 : 1 ≤ i) (h2 : i ≤ s.n) (g0 : 0 ≤ g) (g1 : g ≤ 1099511627774) (g2 : g % 2 = 1) (hg : (s.slot i).gen = g) (hm : (s.slot i).mark = 0) :
    Calls Try.prog 28 #[pp c, .pointer none, .int .i64 (hnd i g)] w fun e w' => e = .returned (.tuple #[.int .i64 now, .int .i64 0]) ∧ Turned F w w' ∧ CA w' p kb F (s.putMark i now) now kv c sb head S := by
  have HM := poolLaws.mark H.pool hO h1 h2 g0 (by omega) g2 hg
  have c0 := H.c0
  have HC : Hid (∀ x, PoolAt x p F s → Calls Try.prog 32 #[.pointer (some ⟨p, 0, none⟩), .pointer none, .int .i64 (hnd i g), .int .i64 0, .int .i64 now] x fun e w' => e = .returned (.tuple #[.bool true, .int .i64 0]) ∧ Turned F x w' ∧ PoolAt w' p F (s.putMark i now)) := fun x hx => by
    have := poolLaws.casMark hx hO h1 h2 g0 (by omega) g2 hg 0 now
    rw [hm, if_pos rfl] at this
    exact this
  rw [hm] at HM
  have HH : Hid _ := H
  generalize hnd i g = h at *
  clear H hg hm
  go_enter Try.func28, Try.ntmps28
  go_wp2_with (first
    | (go_at_call 54; refine HM.mono ?_; rintro e w1 ⟨rfl, ht, hA⟩; have h1' := HH.out.step ht hA rfl; have d0 := h1'.c0; have d1 := h1'.c1; have HN := cNow h1'.clk; have HT : Hid _ := And.intro ht h1'; clear ht hA h1')
    | (go_at_call 39; refine HN.mono ?_; rintro e w' ⟨rfl, hw⟩; obtain rfl := hw.symm; clear HN)
    | (go_at_call 32; refine (HC.out _ HT.out.2.pool).mono ?_; rintro e w2 ⟨rfl, ht, hA⟩; have HT2 : Hid _ := And.intro ht hA; clear ht hA))
  go_ret2
  exact ⟨rfl, HT.out.1.trans HT2.out.1, HT.out.2.step HT2.out.1 HT2.out.2 rfl⟩
set_option maxHeartbeats 1600000 in
theorem cTopNone (H : CA w p kb F s now kv c sb 0 S) :
    Calls Try.prog 8 #[pp c, .pointer none] w fun e w' => e = .returned (.tuple #[.int .i64 0, .int .i64 0, .int .i64 141]) ∧ w' = w := by
  have HL := cALoad H.c2
  clear H
  go_enter Try.func8, Try.ntmps8
  go_wp2_with (first
    | (go_at_call 26; refine (cStep _).mono ?_; rintro e w' ⟨rfl, hw⟩; obtain rfl := hw.symm)
    | (go_at_call 27; refine HL.mono ?_; rintro e w' ⟨rfl, hw⟩; obtain rfl := hw.symm))
  go_ret3
  exact ⟨rfl, rfl⟩
theorem hnd_ne (i : Nat) (g : Int) (h1 : 1 ≤ i) (g0 : 0 ≤ g) : (hnd i g == 0) = false := by unfold hnd; simp; omega
set_option maxHeartbeats 1600000 in
theorem cTop (H : CA w p kb F s now kv c sb (hnd i g) S) (hO : s.Ok) (h1 : 1 ≤ i) (h2 : i ≤ s.n) (g0 : 0 ≤ g) (g1 : g ≤ 1099511627774) (g2 : g % 2 = 1) (hg : (s.slot i).gen = g) (hm : ¬ (s.slot i).mark = 0) :
    Calls Try.prog 8 #[pp c, .pointer none] w fun e w' => e = .returned (.tuple #[.int .i64 (hnd i g), .int .i64 (s.slot i).mark, .int .i64 0]) ∧ Turned F w w' ∧ CA w' p kb F s now kv c sb (hnd i g) S := by
  have HL := cALoad H.c2
  have HS := cSettleHas H hO h1 h2 g0 g1 g2 hg hm
  have hz := hnd_ne i g h1 g0
  clear H
  generalize hnd i g = h at *
  generalize (s.slot i).mark = mk at *
  clear hg hm
  go_enter Try.func8, Try.ntmps8
  go_wp2_with (first
    | (go_at_call 26; refine (cStep _).mono ?_; rintro e w' ⟨rfl, hw⟩; obtain rfl := hw.symm)
    | (go_at_call 27; refine HL.mono ?_; rintro e w' ⟨rfl, hw⟩; obtain rfl := hw.symm)
    | (go_at_call 28; refine HS.mono ?_; rintro e w1 ⟨rfl, ht, hA⟩; have HT : Hid _ := And.intro ht hA; clear ht hA))
  go_ret3
  exact ⟨rfl, HT.out.1, HT.out.2⟩
set_option maxHeartbeats 1600000 in
theorem cPublish (H : CA w p kb F s now kv c sb head S) (x : Int) :
    Calls Try.prog 33 #[pp c, .pointer none, .int .i64 head, .int .i64 x] w fun e w' => e = .returned (.bool true) ∧ w' = w.setCell ⟨c, 2, none⟩ (.int .i64 x) := by
  have HC := cACas (y := x) H.c2 (froz_at H.obj 2)
  clear H
  go_enter Try.func33, Try.ntmps33
  go_wp2_with (first
    | (go_at_call 26; refine (cStep _).mono ?_; rintro e w' ⟨rfl, hw⟩; obtain rfl := hw.symm)
    | (go_at_call 40; refine HC.mono ?_; rintro e w' ⟨rfl, rfl⟩))
  go_ret
  exact ⟨rfl, rfl⟩
set_option maxHeartbeats 1600000 in
theorem cPublishNot (H : CA w p kb F s now kv c sb head S) (hO : s.Ok) (h1 : 1 ≤ i) (h2 : i ≤ s.n) (g0 : 0 ≤ g) (g1 : g ≤ 1099511627774) (g2 : g % 2 = 1) (hg : (s.slot i).gen = g) {old : Int} (hne : ¬ head = old) (hS : ∀ r, S i = some r → r.h = hnd i g) :
    Calls Try.prog 33 #[pp c, .pointer none, .int .i64 old, .int .i64 (hnd i g)] w fun e w' => e = .returned (.bool false) ∧ Turned (sb :: F) w w' ∧ ∃ F', CA w' p kb F' (s.give i (-7777777)) now kv c sb head (upd S i none) ∧ Wider F F' w := by
  have HC := cACasMiss (y := hnd i g) H.c2 (froz_at H.obj 2) hne
  have HG := poolLaws.give H.pool hO h1 h2 g0 g1 g2 hg
  have c0 := H.c0
  have HH : Hid _ := H
  have hn2 := hO.n2
  have HT : Hid (∀ x F', CA x p kb F' (s.give i (-7777777)) now kv c sb head S → Calls Try.prog 36 #[.slice (some ⟨sb, 0, none⟩) (s.n + 1) (s.n + 1), .int .i64 (hnd i g)] x fun e w' => (∃ va vl vc, e = .returned (.slice va vl vc)) ∧ Turned [sb] x w' ∧ SetsAt w' sb s.n (upd S i none)) := fun x F' hx => by
    cases hSi : S i with
    | none =>
      refine (cTakeOutMiss (i := i) (g := g) hx.sets hn2 h1 h2 g0 (by omega) hSi).mono ?_
      rintro e w' ⟨rfl, rfl⟩
      refine ⟨⟨_, _, _, rfl⟩, Turned.refl _ _, ?_⟩
      have : upd S i none = S := by funext k; unfold upd; by_cases e : k = i <;> simp [e, hSi]
      rw [this]
      exact hx.sets
    | some r =>
      refine (cTakeOutHit (i := i) (g := g) hx.sets hn2 h1 h2 g0 (by omega) hSi (hS r hSi)).mono ?_
      rintro e w' ⟨rfl, rfl⟩
      exact ⟨⟨_, _, _, rfl⟩, (Turned.refl _ _).set (.inl (by simp)) _ _, hx.sets.out i⟩
  generalize hnd i g = h at *
  clear H hg hS
  go_enter Try.func33, Try.ntmps33
  go_wp2_with (first
    | (go_at_call 26; refine (cStep _).mono ?_; rintro e w' ⟨rfl, hw⟩; obtain rfl := hw.symm)
    | (go_at_call 40; refine HC.mono ?_; rintro e w' ⟨rfl, hw⟩; obtain rfl := hw.symm)
    | (go_at_call 59; refine HG.mono ?_; rintro e w1 ⟨rfl, ht, F', hA, hW⟩; have h1' := HH.out.step ht hA rfl; have d3 : w1.cell? ⟨c, 3, none⟩ = some (.slice (some ⟨sb, 0, none⟩) (s.n + 1) (s.n + 1)) := h1'.c3; have HX : Hid _ := And.intro ht (And.intro hW h1'); clear ht hA hW h1')
    | (go_at_call 36; refine (HT.out _ _ HX.out.2.2).mono ?_; rintro e w2 ⟨⟨va, vl, vc, rfl⟩, ht2, hs2⟩; have HY : Hid _ := And.intro ht2 hs2; clear ht2 hs2))
  go_ret
  exact ⟨rfl, (HX.out.1.mono (by intro z hz; simp [hz])).trans (HY.out.1.mono (by simp)), _, HX.out.2.2.turn HY.out.1 HY.out.2, HX.out.2.1⟩
end
end Go.Proofs.Ytaaibhgbkdnlbaa

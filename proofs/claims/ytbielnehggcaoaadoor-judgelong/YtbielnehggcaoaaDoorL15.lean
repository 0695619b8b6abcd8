/- Lists of numbers: as they are viewed, as they are owned; slices.Clone by contract. (As ChnI.) -/
import Derived.Test.YtbielnehggcaoaaDoorL14
import Derived.Maps.AppendAt
import Derived.BigQuiet
import Derived.Deep.QuietTactic
namespace Go.Proofs.YtbielnehggcaoaaDoor
open Go.RowKit
/-- The slice v is the numbers xs, in memory of its own from B on. -/
structure IR (B : Nat) (w : World) (v : Value) (xs : List Int) : Prop where
  own : w.ownsRow B 3 1 v xs.length (xs.map (.int .i64 ·))
theorem IR.nil (B : Nat) (w : World) : IR B w (.slice none 0 0) [] := ⟨World.ownsRow_nil _ _ _ _⟩
theorem IR.keep {B : Nat} {w w' : World} {v : Value} {l : List Int} {F : List Nat} (h : IR B w v l) (ht : Turned F w w') (hF : ∀ g, v.ownBlock = some g → g ∉ F) : IR B w' v l := by
  refine ⟨h.own.1, ?_⟩
  rcases h.own.2 with h0 | ⟨g, c, cs, rfl, hb, hg, h3⟩
  · exact .inl h0
  · exact .inr ⟨g, c, cs, rfl, hb, ht.heap hg (hF g rfl), h3⟩
theorem IR.still {B : Nat} {w w' : World} {v : Value} {l : List Int} (h : IR B w v l) (ht : Turned [] w w') : IR B w' v l := h.keep ht (by simp)
theorem IR.form {B : Nat} {w : World} {v : Value} {l : List Int} (h : IR B w v l) : ∃ a c, v = .slice a l.length c := by
  rcases h.own.2 with ⟨rfl, h0⟩ | ⟨g, c, cs, rfl, _⟩
  · exact ⟨none, 0, by rw [h0]⟩
  · exact ⟨_, _, rfl⟩
theorem IR.fresh {B : Nat} {w : World} {v : Value} {l : List Int} (h : IR B w v l) {g : Nat} (hg : v.ownBlock = some g) : B ≤ g ∧ g < w.heap.size := h.own.lt g hg
theorem IR.type {B : Nat} {w : World} {v : Value} {l : List Int} (h : IR B w v l) {g : Nat} (hg : v.ownBlock = some g) : ∃ cs, w.heap[g]? = some (.cells cs 3 (0, 0)) := by
  rcases h.own.2 with ⟨h0, _⟩ | ⟨g', c, cs, hv, _, hh, _⟩
  · rw [h0] at hg; cases hg
  · rw [hv] at hg; cases hg; exact ⟨cs, hh⟩
theorem IR.lower {B B' : Nat} {w : World} {v : Value} {l : List Int} (h : IR B w v l) (hb : B' ≤ B) : IR B' w v l := by
  refine ⟨h.own.1, ?_⟩
  rcases h.own.2 with h0 | ⟨g, c, cs, rfl, hb2, hg, h3⟩
  · exact .inl h0
  · exact .inr ⟨g, c, cs, rfl, by omega, hg, h3⟩
theorem IR.cells {B : Nat} {w : World} {g c : Nat} {l : List Int} (h : IR B w (.slice (some ⟨g, 0, none⟩) l.length c) l) {i : Nat} (hi : i < l.length) : w.cell? ⟨g, i, none⟩ = some (.int .i64 l[i]) := by
  have := h.own.cellAt i (by omega)
  rw [this]
  simp [hi]
theorem IR.at_ {B : Nat} {w : World} {v : Value} {l : List Int} (h : IR B w v l) (hne : l ≠ []) : ∃ g c, v = .slice (some ⟨g, 0, none⟩) l.length c := by
  rcases h.own.2 with ⟨_, h0⟩ | ⟨g, c, cs, hv, _⟩
  · exact absurd (List.length_eq_zero_iff.1 h0) hne
  · exact ⟨g, c, hv⟩
/-- The slice v reads as the numbers xs. -/
structure IV (w : World) (v : Value) (xs : List Int) : Prop where
  ex : ∃ a c, v = .slice a xs.length c ∧ (a = none → c = 0) ∧ (xs ≠ [] → ∃ b o, a = some ⟨b, o, none⟩ ∧ ∀ i (h : i < xs.length), w.cell? ⟨b, o + i, none⟩ = some (.int .i64 xs[i]))
theorem IR.view {B : Nat} {w : World} {v : Value} {l : List Int} (h : IR B w v l) : IV w v l := by
  rcases h.own.2 with ⟨rfl, h0⟩ | ⟨g0, c0, cs, rfl, _⟩
  · exact ⟨none, 0, by rw [h0], fun _ => rfl, fun hne => absurd (List.length_eq_zero_iff.1 h0) hne⟩
  refine ⟨_, c0, rfl, (fun h => by cases h), fun hne => ?_⟩
  obtain ⟨g, c', e⟩ := h.at_ hne
  cases e
  exact ⟨_, 0, rfl, fun i hi => by rw [Nat.zero_add]; exact h.cells hi⟩
theorem IV.keep {w w' : World} {v : Value} {l : List Int} {F : List Nat} (h : IV w v l) (ht : Turned F w w') (hF : ∀ b, v.ownBlock = some b → b ∉ F) : IV w' v l := by
  obtain ⟨a, c, rfl, hz, hc⟩ := h.ex
  refine ⟨a, c, rfl, hz, fun hne => ?_⟩
  obtain ⟨b, o, rfl, hk⟩ := hc hne
  exact ⟨b, o, rfl, fun i hi => ht.cell (hk i hi) (hF b rfl)⟩
theorem IV.still {w w' : World} {v : Value} {l : List Int} (h : IV w v l) (ht : Turned [] w w') : IV w' v l := h.keep ht (by simp)
theorem infoIntC : (Tryd.prog.info? 3).map (fun i => (i.zero, i.size, i.bytes)) = some (some (.int .i64 0), 1, 8) := by kernel_rfl
theorem undIntsC : Tryd.prog.underlying 22 = some (.slice 3) := by kernel_rfl
/-- 'append(v, x..)'. -/
theorem run_apInts {w : World} {B : Nat} {v u : Value} {l ms : List Int} (hr : IR B w v l) (hu : IV w u ms) (hm : l.length ≤ 100000) (hm2 : ms.length ≤ 100000) (hB : B ≤ w.heap.size) :
    ∃ v' w', (Builtin.append_ #[22, 22] 22 #[v, u]).run Tryd.prog w = .ok v' w' ∧ IR B w' v' (l ++ ms) ∧ Turned v.ownBlock.toList w w' ∧ (v'.ownBlock = v.ownBlock ∨ v'.ownBlock = some w.heap.size) := by
  obtain ⟨i, hi, hzz⟩ := Option.map_eq_some_iff.1 infoIntC
  simp only [Prod.mk.injEq] at hzz
  obtain ⟨hz, hs1, hb⟩ := hzz
  obtain ⟨a, c, rfl, hz0, hc⟩ := hu.ex
  cases a with
  | none =>
    have hms : ms = [] := by
      apply Classical.byContradiction
      intro hne
      obtain ⟨b, o, h, _⟩ := hc hne
      cases h
    subst hms
    refine ⟨v, w, ?_, by simpa using hr, Turned.refl _ _, .inl rfl⟩
    have := run_append_owned_none (P := Tryd.prog) (w := w) B 22 22 3 i 1 undIntsC hi v l.length (l.map (.int .i64 ·)) hr.own
    rw [hz0 rfl]
    exact this
  | some q =>
    obtain ⟨v', w', hrun, h2, h3, h4, h5⟩ := run_append_own_at (P := Tryd.prog) w B 22 22 3 i _ 1 8 undIntsC hi hz hs1 hb rfl (by decide) v l.length (l.map (.int .i64 ·)) hr.own q ms.length c (ms.map (.int .i64 ·)) (by simp) (fun j u hj => by
      have hjl : j < ms.length := by
        apply Classical.byContradiction
        intro hn
        rw [List.getElem?_eq_none (by simp; omega)] at hj
        cases hj
      have hne : ms ≠ [] := fun e => by rw [e] at hjl; simp at hjl
      obtain ⟨b, o, hq, hk⟩ := hc hne
      cases hq
      have hadd : (⟨b, o, none⟩ : Addr).add j = ⟨b, o + j, none⟩ := by unfold Addr.add; split <;> simp_all
      rw [hadd, hk j hjl]
      rw [List.getElem?_map, List.getElem?_eq_getElem hjl] at hj
      exact hj) (by intro u hu; obtain ⟨y, _, rfl⟩ := List.mem_map.1 hu; rfl) (by unfold maxLen; omega) (by omega) hB
    exact ⟨v', w', hrun, ⟨by rw [List.length_append, List.map_append]; exact h2⟩, ⟨h3.os, h3.tape, h3.output, h3.size, fun k hk hn => h3.block k hk fun e => hn (by rw [← e]; simp)⟩, h5⟩
theorem wpList_apInts {w : World} {ops : Array Oper} {rest : List Oper} {o : Oper} {a : Act} {Q : Exit → Act → World → Prop} {B : Nat} {v u : Value} {l ms : List Int} (hgd : o.guard = none) (p q : Operand) (ho : o.op = .call { callee := .builtin .append, args := #[p, q], argTypes := #[22, 22] }) (hty : o.type = 22)
    (hs : a.eval p = v) (hr : IR B w v l) (hy : a.eval q = u) (hu : IV w u ms) (hm : l.length ≤ 100000) (hm2 : ms.length ≤ 100000) (hB : B ≤ w.heap.size)
    (h : ∀ v' w', IR B w' v' (l ++ ms) → Turned v.ownBlock.toList w w' → (v'.ownBlock = v.ownBlock ∨ v'.ownBlock = some w.heap.size) → wpList Tryd.prog ops Q rest (a.put o.dst v') w') : wpList Tryd.prog ops Q (o :: rest) a w := by
  refine wpList_plain hgd fun K hK => ?_
  obtain ⟨v', w', hrun, h2, h3, h4⟩ := run_apInts hr hu hm hm2 hB
  unfold Oper.wp execOp
  simp only [ho, resolve, invoke, builtin, Sem.run_bind, Sem.run_pure, Result.andThen_ok, List.map_toArray, List.map_cons, List.map_nil, hs, hy, hty]
  simp only [hrun]
  exact hK _ _ (h v' w' h2 h3 h4)
theorem eqNilI (a : Addr) (n c : Nat) (w : World) : (binOp .eql 22 (.slice (some a) n c) (.slice none 0 0)).run Tryd.prog w = .ok (.bool false) w := by kernel_rfl
set_option maxRecDepth 100000 in
set_option maxHeartbeats 800000 in
theorem cClone {w : World} {v : Value} {l : List Int} (hv : IV w v l) (hne : l ≠ []) (hn : l.length ≤ 10000) : Calls Tryd.prog 32 #[v] w fun e w' => ∃ v', e = .returned v' ∧ IR w.heap.size w' v' l ∧ Turned [] w w' := by
  obtain ⟨a, c, rfl, -, f⟩ := hv.ex
  obtain ⟨g, o, rfl, k⟩ := f hne
  have HV : Hid _ := hv
  have HN : Hid _ := hn
  have hq := eqNilI
  clear hv f k
  go_enter Tryd.func32, Tryd.ntmps32
  go_wp2_with (at_builtin; go_loud (refine wpList_apInts (v := .slice (some ⟨w.heap.size, 0, none⟩) 0 0) (u := .slice (some ⟨g, o, none⟩) l.length c) (l := []) (ms := l) (B := w.heap.size) rfl _ _ rfl rfl rfl ⟨rfl, .inr ⟨w.heap.size, 0, _, rfl, Nat.le_refl _, blk_new _ _, by simp, by decide, rfl, rfl⟩⟩ rfl (HV.out.still ((Turned.refl _ _).alloc _)) (by simp) (by have := HN.out; omega) (by simp) ?_; intro v' w11 hsr ht11 hor; have HSR : Hid _ := hsr; have HT11 : Hid _ := ht11; clear hsr ht11 hor))
  go_ret
  exact ⟨_, rfl, by simpa using HSR.out, ((Turned.refl [] w).alloc _).inner HT11.out (fun z hz => .inr (by simp [Value.ownBlock] at hz; omega))⟩
end Go.Proofs.YtbielnehggcaoaaDoor

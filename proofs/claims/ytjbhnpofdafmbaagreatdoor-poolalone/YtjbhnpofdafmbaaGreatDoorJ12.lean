/- Rows in memory, and what an append does to them: in its place, or a new block. -/
import Derived.Test.YtjbhnpofdafmbaaGreatDoorJ03
import Derived.Test.YtjbhnpofdafmbaaGreatDoorJ10
import Derived.Laws.OwnMore
import Derived.Laws.AppendOwnNone
import Derived.Test.YtjbhnpofdafmbaaGreatDoorJ07
namespace Go.Proofs.YtjbhnpofdafmbaaGreatDoor
open Go.RowKit
section
variable {w w' : World} {B e sz n : Nat} {v : Value} {xs : List Value}
theorem Row.keep (h : w.ownsRow B e sz v n xs) {l : List Nat} (ht : Turned l w w') (hn : ∀ g, v.ownBlock = some g → g ∉ l) : w'.ownsRow B e sz v n xs := by
  refine ⟨h.1, ?_⟩
  rcases h.2 with hx | ⟨g, cap, cur, rfl, h1, h2, h3⟩
  · exact .inl hx
  · exact .inr ⟨g, cap, cur, rfl, h1, ht.heap h2 (hn g rfl), h3⟩
theorem Row.low (h : w.ownsRow B e sz v n xs) : w.ownsRow 0 e sz v n xs := by
  refine ⟨h.1, ?_⟩
  rcases h.2 with hx | ⟨g, cap, cur, rfl, h1, h2, h3⟩
  · exact .inl hx
  · exact .inr ⟨g, cap, cur, rfl, Nat.zero_le _, h2, h3⟩
theorem Row.from (h : w.ownsRow B e sz v n xs) {B' : Nat} (hb : ∀ g, v.ownBlock = some g → B' ≤ g) : w.ownsRow B' e sz v n xs := by
  refine ⟨h.1, ?_⟩
  rcases h.2 with hx | ⟨g, cap, cur, rfl, h1, h2, h3⟩
  · exact .inl hx
  · exact .inr ⟨g, cap, cur, rfl, hb g rfl, h2, h3⟩
theorem Row.shape (h : w.ownsRow B e sz v n xs) : ∃ a cap, v = .slice a n cap := by
  rcases h.2 with ⟨rfl, rfl⟩ | ⟨g, cap, cur, rfl, h1, h2, h3⟩
  · exact ⟨none, 0, rfl⟩
  · exact ⟨_, cap, rfl⟩
theorem Row.form (h : w.ownsRow B e sz v n xs) (hn : 0 < n) : ∃ g cap cur, v = .slice (some ⟨g, 0, none⟩) n cap ∧ w.heap[g]? = some (.cells cur e (0, 0)) ∧ n ≤ cap := by
  rcases h.2 with ⟨rfl, rfl⟩ | ⟨g, cap, cur, rfl, h1, h2, h3, -⟩
  · omega
  · exact ⟨g, cap, cur, rfl, h2, h3⟩
theorem Row.obj (h : w.ownsRow B e sz v n xs) {g : Nat} (hg : v.ownBlock = some g) : ∃ cur, w.heap[g]? = some (.cells cur e (0, 0)) := by
  rcases h.2 with ⟨rfl, rfl⟩ | ⟨g', cap, cur, rfl, h1, h2, h3⟩
  · simp [Value.ownBlock] at hg
  · simp only [Value.ownBlock, Option.some.injEq] at hg
    subst hg
    exact ⟨cur, h2⟩
/-- What an append of some did to a slice: it grew in its place, or is new. -/
def Onto (w w' : World) (v v' : Value) (n m : Nat) : Prop :=
  (∃ g cap, v = .slice (some ⟨g, 0, none⟩) n cap ∧ v' = .slice (some ⟨g, 0, none⟩) (n + m) cap ∧ Turned [g] w w') ∨ (Turned [] w w' ∧ ∃ g', v'.ownBlock = some g' ∧ w.heap.size ≤ g' ∧ g' < w'.heap.size)
theorem Onto.turned {v' : Value} {m : Nat} (h : Onto w w' v v' n m) : Turned v.ownBlock.toList w w' := by
  rcases h with ⟨g, cap, rfl, -, ht⟩ | ⟨ht, -⟩
  · exact ht.mono (by simp [Value.ownBlock])
  · exact ht.mono (by simp)
theorem Onto.block {v' : Value} {m : Nat} (h : Onto w w' v v' n m) : (v'.ownBlock = v.ownBlock) ∨ ∃ g', v'.ownBlock = some g' ∧ w.heap.size ≤ g' := by
  rcases h with ⟨g, cap, rfl, rfl, ht⟩ | ⟨ht, g', h1, h2, -⟩
  · exact .inl rfl
  · exact .inr ⟨g', h1, h2⟩
/-- The shorter slice of the same memory. -/
theorem Row.prefix_ {g cap n2 : Nat} {ys : List Value} (h : w.ownsRow B e sz (.slice (some ⟨g, 0, none⟩) n2 cap) n2 (xs ++ ys)) (hn : n ≤ n2) (hx : xs.length = n * sz) : w.ownsRow B e sz (.slice (some ⟨g, 0, none⟩) n cap) n xs := by
  refine ⟨hx, .inr ?_⟩
  rcases h.2 with ⟨h1, -⟩ | ⟨g', cap', cur, h0, h1, h2, h3, h4, h5, h6⟩
  · cases h1
  · simp only [Value.slice.injEq, Option.some.injEq, Addr.mk.injEq, and_true, true_and] at h0
    obtain ⟨rfl, rfl⟩ := h0
    refine ⟨g, cap, cur, rfl, h1, h2, by omega, h4, h5, ?_⟩
    have : (cur.toList.take (n2 * sz)).take (n * sz) = (xs ++ ys).take (n * sz) := by rw [h6]
    rw [List.take_take, Nat.min_eq_left (Nat.mul_le_mul_right _ hn), ← hx, List.take_left] at this
    rw [← hx]
    exact this
/-- The row that was grown is there still. -/
theorem Onto.old {v' : Value} {m : Nat} {news : List Value} (h : Onto w w' v v' n m) (hv : w.ownsRow B e sz v n xs) (hv' : w'.ownsRow B e sz v' (n + m) (xs ++ news)) : w'.ownsRow B e sz v n xs := by
  rcases h with ⟨g, cap, rfl, rfl, ht⟩ | ⟨ht, -⟩
  · exact Row.prefix_ hv' (by omega) hv.1
  · exact Row.keep hv ht (by simp)
end
section
variable {P : Program} {w : World}
theorem run_onto (B : Nat) (t ty e : TypeId) (i : TypeInfo) (z : Value) (size bytes : Nat) (ht : P.underlying t = some (.slice e)) (hi : P.info? e = some i) (hz : i.zero = some z)
    (hsize : i.size = size) (hby : i.bytes = bytes) (hzs : z.cells.size = size) (hsz : 0 < size) (v : Value) (n : Nat) (xs : List Value) (hown : w.ownsRow B e size v n xs)
    (a : Addr) (m c : Nat) (news : List Value) (hl : news.length = m * size) (hnews : ∀ j u, news[j]? = some u → w.cell? (a.add j) = some u) (h1 : ∀ u ∈ news, u.oneCell' = true) (hm : 0 < m)
    (h63 : n + m ≤ maxLen) (hbytes : (n + m) * bytes ≤ 140737488355328) (hbase : B ≤ w.heap.size) :
    ∃ v' w', (Builtin.append_ #[t, t] ty #[v, .slice (some a) m c]).run P w = .ok v' w' ∧ w'.ownsRow B e size v' (n + m) (xs ++ news) ∧ Onto w w' v v' n m := by
  obtain ⟨v', w', hr, h2, h3, h4⟩ := run_append_own (P := P) w B t ty e i z size bytes ht hi hz hsize hby hzs hsz v n xs hown a m c news hl hnews h1 h63 hbytes hbase
  refine ⟨v', w', hr, h2, ?_⟩
  rcases hown.2 with ⟨rfl, rfl⟩ | ⟨g, cap, cur, rfl, hbg, hg, hnc, hcm, hcs, htake⟩
  · obtain ⟨v2, w2, hr2, h22, -, -⟩ := run_append_own (P := P) w w.heap.size t ty e i z size bytes ht hi hz hsize hby hzs hsz (.slice none 0 0) 0 [] (World.ownsRow_nil _ _ _ _) a m c news hl hnews h1 h63 hbytes (Nat.le_refl _)
    rw [hr] at hr2
    cases hr2
    refine .inr ⟨⟨h3.os, h3.tape, h3.output, h3.size, fun k hk _ => h3.block k hk (by simp [Value.ownBlock])⟩, ?_⟩
    rcases h22.2 with ⟨-, hx⟩ | ⟨g, cap, cur, rfl, hbg, hh, -⟩
    · omega
    · exact ⟨g, rfl, hbg, lt_of_heap hh⟩
  · by_cases hroom : n + m ≤ cap
    · have hr2 := run_append_room (P := P) w t ty e i ht hi g n cap cur hg a m c news (by rw [hl, hsize]) hnews h1 hroom (by rw [hl, hsize, hcs, ← Nat.add_mul]; exact Nat.mul_le_mul_right _ hroom)
      rw [hr] at hr2
      cases hr2
      exact .inl ⟨g, cap, rfl, rfl, ⟨h3.os, h3.tape, h3.output, h3.size, fun k hk hn => h3.block k hk (by simp [Value.ownBlock]; simpa using hn)⟩⟩
    · have hr2 := run_append_grow (P := P) w t ty e i z ht hi hz ⟨g, 0, none⟩ n cap xs (by rw [hown.1, hsize]) (hown.cells (g := g) rfl) a m c news (by rw [hl, hsize]) hnews (by omega) (by simp only [maxLen] at h63; omega) (growslice_fits (by omega) (by rw [hby]; exact hbytes))
      rw [hr] at hr2
      cases hr2
      exact .inr ⟨(Turned.refl _ _).drew.alloc _, _, rfl, Nat.le_refl _, by show w.heap.size < (w.drew.alloc _).heap.size; simp⟩
theorem wpList_onto {ops : Array Oper} {rest : List Oper} {o : Oper} {a : Act} {Q : Exit → Act → World → Prop} (hgd : o.guard = none) (s x : Operand) (t : TypeId) (ho : o.op = .call { callee := .builtin .append, args := #[s, x], argTypes := #[t, t] })
    (B : Nat) (e : TypeId) (z : Value) (size bytes : Nat) (ht : P.underlying t = some (.slice e)) (hinfo : (P.info? e).map (fun i => (i.zero, i.size, i.bytes)) = some (some z, size, bytes)) (hzs : z.cells.size = size) (hsz : 0 < size)
    (v : Value) (n : Nat) (xs : List Value) (hs : a.eval s = v) (hown : w.ownsRow B e size v n xs) (ad : Addr) (m c : Nat) (news : List Value) (hx : a.eval x = .slice (some ad) m c)
    (hl : news.length = m * size) (hnews : ∀ j u, news[j]? = some u → w.cell? (ad.add j) = some u) (h1 : ∀ u ∈ news, u.oneCell' = true) (hm : 0 < m) (h63 : n + m ≤ maxLen) (hbytes : (n + m) * bytes ≤ 140737488355328) (hbase : B ≤ w.heap.size)
    (h : ∀ v' w', w'.ownsRow B e size v' (n + m) (xs ++ news) → Onto w w' v v' n m → wpList P ops Q rest (a.put o.dst v') w') : wpList P ops Q (o :: rest) a w := by
  obtain ⟨i, hi, hzz⟩ := Option.map_eq_some_iff.1 hinfo
  simp only [Prod.mk.injEq] at hzz
  obtain ⟨hz, hs1, hb⟩ := hzz
  refine wpList_plain hgd fun K hK => ?_
  obtain ⟨v', w', hr, h2, h3⟩ := run_onto (P := P) (w := w) B t o.type e i z size bytes ht hi hz hs1 hb hzs hsz v n xs hown ad m c news hl hnews h1 hm h63 hbytes hbase
  unfold Oper.wp execOp
  simp only [ho, resolve, invoke, builtin, Sem.run_bind, Sem.run_pure, Result.andThen_ok, List.map_toArray, List.map_cons, List.map_nil, hs, hx, hr]
  exact hK _ _ (h v' w' h2 h3)
/-- 'append(s, u)', u of one cell. -/
theorem wpList_onto1 {ops : Array Oper} {rest : List Oper} {o : Oper} {a : Act} {Q : Exit → Act → World → Prop} (hgd : o.guard = none) (s x : Operand) (t : TypeId) (ho : o.op = .call { callee := .builtin .append, args := #[s, x], argTypes := #[t, t] })
    (B : Nat) (e : TypeId) (z : Value) (bytes : Nat) (ht : P.underlying t = some (.slice e)) (hinfo : (P.info? e).map (fun i => (i.zero, i.size, i.bytes)) = some (some z, 1, bytes)) (hzs : z.cells.size = 1)
    (v : Value) (n : Nat) (xs : List Value) (hs : a.eval s = v) (hown : w.ownsRow B e 1 v n xs) (ad : Addr) (c : Nat) (u : Value) (hx : a.eval x = .slice (some ad) 1 c)
    (hu : w.cell? ad = some u) (h1 : u.oneCell' = true) (h63 : n + 1 ≤ maxLen) (hbytes : (n + 1) * bytes ≤ 140737488355328) (hbase : B ≤ w.heap.size)
    (h : ∀ v' w', w'.ownsRow B e 1 v' (n + 1) (xs ++ [u]) → Onto w w' v v' n 1 → wpList P ops Q rest (a.put o.dst v') w') : wpList P ops Q (o :: rest) a w :=
  wpList_onto hgd s x t ho B e z 1 bytes ht hinfo hzs (by decide) v n xs hs hown ad 1 c [u] hx rfl (fun j y hy => by
    cases j with
    | zero => simp at hy; subst hy; simpa [Addr.add] using hu
    | succ j => simp at hy) (by simpa using h1) (by decide) h63 hbytes hbase h
/-- 'append([]T{}, l...)', run. -/
theorem run_copy (B e : Nat) (t ty : TypeId) (z : Value) (size bytes : Nat) (ht : P.underlying t = some (.slice e)) (hinfo : (P.info? e).map (fun i => (i.zero, i.size, i.bytes)) = some (some z, size, bytes)) (hzs : z.cells.size = size) (hsz : 0 < size)
    (g0 : Nat) (h0 : w.heap[g0]? = some (.cells #[] e (0, 0))) (hB : B ≤ g0)
    (l : Value) (n : Nat) (xs : List Value) (hown : w.ownsRow 0 e size l n xs) (h1 : ∀ u ∈ xs, u.oneCell' = true) (h63 : n ≤ maxLen) (hbytes : n * bytes ≤ 140737488355328) :
    ∃ v' w', (Builtin.append_ #[t, t] ty #[.slice (some ⟨g0, 0, none⟩) 0 0, l]).run P w = .ok v' w' ∧ w'.ownsRow B e size v' n xs ∧ Turned [g0] w w' ∧ ∃ g', v'.ownBlock = some g' := by
  have hg0 : w.ownsRow B e size (.slice (some ⟨g0, 0, none⟩) 0 0) 0 [] := ⟨by simp, .inr ⟨g0, 0, #[], rfl, hB, h0, Nat.le_refl _, Nat.zero_le _, by simp, by simp⟩⟩
  have hlt := lt_of_heap h0
  obtain ⟨i, hi, hzz⟩ := Option.map_eq_some_iff.1 hinfo
  simp only [Prod.mk.injEq] at hzz
  obtain ⟨hz, hs1, hb⟩ := hzz
  have hempty : n = 0 → xs = [] := fun hn => by have := hown.1; rw [hn] at this; simpa using this
  rcases hown.2 with ⟨rfl, rfl⟩ | ⟨g, cap, cur, rfl, -, hh, -⟩
  · obtain rfl := hempty rfl
    exact ⟨_, _, run_append_owned_none (P := P) (w := w) B t ty e i size ht hi _ 0 [] hg0, hg0, Turned.refl _ _, g0, rfl⟩
  · by_cases hn : n = 0
    · subst hn
      obtain rfl := hempty rfl
      have hr := run_append_room (P := P) w t ty e i ht hi g0 0 0 #[] h0 ⟨g, 0, none⟩ 0 cap [] (by simp) (by simp) (by simp) (by simp) (by simp)
      refine ⟨_, _, hr, ?_, ?_, g0, rfl⟩
      · exact ⟨by simp, .inr ⟨g0, 0, #[], rfl, hB, by simpa using setRow_heap w g0 #[] _ e _ h0, Nat.le_refl _, Nat.zero_le _, by simp, by simp⟩⟩
      · exact ⟨rfl, rfl, rfl, by simp, fun k _ hk => setRow_other w g0 k _ (fun e => hk (by simp [e]))⟩
    · obtain ⟨v', w', hr, h2, h3⟩ := run_onto (P := P) (w := w) B t ty e i z size bytes ht hi hz hs1 hb hzs hsz _ 0 [] hg0 ⟨g, 0, none⟩ n cap xs hown.1 (hown.cells (g := g) rfl) h1 (by omega) (by omega) (by simpa using hbytes) (by omega)
      rw [Nat.zero_add, List.nil_append] at h2
      refine ⟨v', w', hr, h2, h3.turned.mono (by simp [Value.ownBlock]), ?_⟩
      rcases h2.2 with ⟨-, hx⟩ | ⟨g', cap', cur', rfl, -⟩
      · omega
      · exact ⟨g', rfl⟩
/-- 'append(s, y)' of what lies in a block of one cell, run. -/
theorem run_onto1 (e t ty : TypeId) (z : Value) (bytes : Nat) (ht : P.underlying t = some (.slice e)) (hinfo : (P.info? e).map (fun i => (i.zero, i.size, i.bytes)) = some (some z, 1, bytes)) (hzs : z.cells.size = 1) (hby : bytes ≤ 64)
    (v : Value) (xs : List Value) (hown : w.ownsRow 0 e 1 v xs.length xs) (g : Nat) (y : Value) (hg : w.heap[g]? = some (.cells #[y] e (0, 0))) (h1 : y.oneCell' = true) (hl : xs.length ≤ 1000000) :
    ∃ v' w', (Builtin.append_ #[t, t] ty #[v, .slice (some ⟨g, 0, none⟩) 1 1]).run P w = .ok v' w' ∧ w'.ownsRow 0 e 1 v' (xs.length + 1) (xs ++ [y]) ∧ Onto w w' v v' xs.length 1 := by
  obtain ⟨i, hi, hzz⟩ := Option.map_eq_some_iff.1 hinfo
  simp only [Prod.mk.injEq] at hzz
  obtain ⟨hz, hs1, hb⟩ := hzz
  refine run_onto (P := P) (w := w) 0 t ty e i z 1 bytes ht hi hz hs1 hb hzs (by decide) v xs.length xs hown ⟨g, 0, none⟩ 1 1 [y] rfl (fun j u hu => ?_) (by simpa using h1) (by decide) (by unfold maxLen; omega) ?_ (Nat.zero_le _)
  · cases j with
    | zero =>
      simp at hu
      subst hu
      have : (⟨g, 0, none⟩ : Addr).add 0 = ⟨g, 0, none⟩ := by simp [Addr.add]
      rw [this, cell_at hg 0]
      rfl
    | succ j => simp at hu
  · have := Nat.mul_le_mul (show xs.length + 1 ≤ 1000001 by omega) hby
    omega
/-- 'append([]T{}, l...)', the empty one at block g0: a copy, in new memory. -/
theorem wpList_copy {ops : Array Oper} {rest : List Oper} {o : Oper} {a : Act} {Q : Exit → Act → World → Prop} (hgd : o.guard = none) (s x : Operand) (t : TypeId) (ho : o.op = .call { callee := .builtin .append, args := #[s, x], argTypes := #[t, t] })
    (B e : Nat) (z : Value) (size bytes : Nat) (ht : P.underlying t = some (.slice e)) (hinfo : (P.info? e).map (fun i => (i.zero, i.size, i.bytes)) = some (some z, size, bytes)) (hzs : z.cells.size = size) (hsz : 0 < size)
    (g0 : Nat) (hs : a.eval s = .slice (some ⟨g0, 0, none⟩) 0 0) (h0 : w.heap[g0]? = some (.cells #[] e (0, 0))) (hB : B ≤ g0)
    (l : Value) (n : Nat) (xs : List Value) (hx : a.eval x = l) (hown : w.ownsRow 0 e size l n xs) (h1 : ∀ u ∈ xs, u.oneCell' = true) (h63 : n ≤ maxLen) (hbytes : n * bytes ≤ 140737488355328)
    (h : ∀ v' w', w'.ownsRow B e size v' n xs → Turned [g0] w w' → (∃ g', v'.ownBlock = some g') → wpList P ops Q rest (a.put o.dst v') w') : wpList P ops Q (o :: rest) a w := by
  have hg0 : w.ownsRow B e size (.slice (some ⟨g0, 0, none⟩) 0 0) 0 [] := ⟨by simp, .inr ⟨g0, 0, #[], rfl, hB, h0, Nat.le_refl _, Nat.zero_le _, by simp, by simp⟩⟩
  have hlt := lt_of_heap h0
  obtain ⟨i, hi, hzz⟩ := Option.map_eq_some_iff.1 hinfo
  have hempty : n = 0 → xs = [] := fun hn => by have := hown.1; rw [hn] at this; simpa using this
  rcases hown.2 with ⟨rfl, rfl⟩ | ⟨g, cap, cur, rfl, -, hh, -⟩
  · obtain rfl := hempty rfl
    exact wpList_append_own_none hgd s x t ho B e i size ht hi _ 0 [] hs hg0 hx (h _ _ hg0 (Turned.refl _ _) ⟨g0, rfl⟩)
  · by_cases hn : n = 0
    · subst hn
      obtain rfl := hempty rfl
      simp only [Prod.mk.injEq] at hzz
      obtain ⟨hz, hs1, hb⟩ := hzz
      refine wpList_plain hgd fun K hK => ?_
      have hr := run_append_room (P := P) w t o.type e i ht hi g0 0 0 #[] h0 ⟨g, 0, none⟩ 0 cap [] (by simp) (by simp) (by simp) (by simp) (by simp)
      unfold Oper.wp execOp
      simp only [ho, resolve, invoke, builtin, Sem.run_bind, Sem.run_pure, Result.andThen_ok, List.map_toArray, List.map_cons, List.map_nil, hs, hx, hr]
      refine hK _ _ (h _ _ ?_ ?_ ⟨g0, rfl⟩)
      · exact ⟨by simp, .inr ⟨g0, 0, #[], rfl, hB, by simpa using setRow_heap w g0 #[] _ e _ h0, Nat.le_refl _, Nat.zero_le _, by simp, by simp⟩⟩
      · exact ⟨rfl, rfl, rfl, by simp, fun k _ hk => setRow_other w g0 k _ (fun e => hk (by simp [e]))⟩
    · refine wpList_onto hgd s x t ho B e z size bytes ht hinfo hzs hsz _ 0 [] hs hg0 ⟨g, 0, none⟩ n cap xs hx hown.1 (hown.cells (g := g) rfl) h1 (by omega) (by omega) (by simpa using hbytes) (by omega) fun v' w' h2 h3 => ?_
      rw [Nat.zero_add, List.nil_append] at h2
      refine h v' w' h2 (h3.turned.mono (by simp [Value.ownBlock])) ?_
      rcases h2.2 with ⟨-, hx⟩ | ⟨g', cap', cur', rfl, -⟩
      · omega
      · exact ⟨g', rfl⟩
end
end Go.Proofs.YtjbhnpofdafmbaaGreatDoor
/- A region each of whose operations has one value, in whatever order; two of them, A and then B, turn the world. -/
namespace Go.Proofs.YtjbhnpofdafmbaaGreatDoor
open Go.RowKit
/-- Operation i waits for operation j, straight or by others. -/
def reachB (ops : Array Oper) : Nat → Nat → Nat → Bool
  | 0, _, _ => false
  | f + 1, i, j => waitsB ops i j || (List.range ops.size).any fun k => waitsB ops i k && reachB ops f k j
section
variable {P : Program} {ops : Array Oper} {Q : Exit → Act → World → Prop}
theorem reach_on {l : Array Bool} (hc : ∀ i j, on l i = true → waitsB ops i j = true → on l j = true) : ∀ f i j, on l i = true → reachB ops f i j = true → on l j = true
  | 0, _, _, _, h => by cases h
  | f + 1, i, j, hi, h => by
    unfold reachB at h
    rw [Bool.or_eq_true, List.any_eq_true] at h
    rcases h with h | ⟨k, -, h⟩
    · exact hc i j hi h
    · rw [Bool.and_eq_true] at h
      exact reach_on hc f k j (hc i k hi h.1) h.2
theorem reach_on_ready {l : Array Bool} {i j : Nat} (hi : i ∈ Region.ready .any ops l) (hr : reachB ops ops.size i j = true) (hc : ∀ i j, on l i = true → waitsB ops i j = true → on l j = true) : on l j = true := by
  cases hz : ops.size with
  | zero => rw [hz] at hr; cases hr
  | succ f =>
    rw [hz] at hr
    unfold reachB at hr
    rw [Bool.or_eq_true, List.any_eq_true] at hr
    rcases hr with h | ⟨k, -, h⟩
    · exact dep_of hi (waits_map h)
    · rw [Bool.and_eq_true] at h
      exact reach_on hc f k j (dep_of hi (waits_map h.1)) h.2
/-- In which worlds operation i may come up, and what it leaves. -/
def Legal (ops : Array Oper) (A B : Nat) (w0 w1 w2 : World) (i : Nat) (w w' : World) : Prop :=
  (i = A ∧ w = w0 ∧ w' = w1) ∨ (i = B ∧ w = w1 ∧ w' = w2) ∨ (i ≠ A ∧ i ≠ B ∧ w' = w ∧ (w = w0 ∨ (reachB ops ops.size A i = false ∧ w = w1) ∨ (reachB ops ops.size A i = false ∧ reachB ops ops.size B i = false ∧ w = w2)))
def Yields2 (P : Program) (ops : Array Oper) (D : List (Option Nat)) (val : Nat → Value) (a0 : Act) (A B : Nat) (w0 w1 w2 : World) (Q : Exit → Act → World → Prop) (i : Nat) : Prop :=
  ∀ (o : Oper) (a : Act) (w w' : World) (K : Act → World → Prop), ops[i]? = some o → o.dst = D.getD i none → a.tmps.size = a0.tmps.size → (∀ s, some s ∉ D → a.eval (.tmp s) = a0.eval (.tmp s)) → (∀ j d, D.getD j none = some d → waitsB ops i j = true → a.eval (.tmp d) = val j) → Legal ops A B w0 w1 w2 i w w' → K (a.put (D.getD i none) (val i)) w' → o.wp P a w K Q
structure ITwo (ops : Array Oper) (D : List (Option Nat)) (val : Nat → Value) (a0 : Act) (A B : Nat) (w0 w1 w2 : World) (l : Array Bool) (a : Act) (w : World) : Prop where
  size : l.size = D.length
  tsize : a.tmps.size = a0.tmps.size
  defers : a.defers = a0.defers
  off : ∀ s, some s ∉ D → a.tmps[s]? = a0.tmps[s]?
  val : ∀ i d, D.getD i none = some d → on l i = true → a.eval (.tmp d) = val i
  closed : ∀ i j, on l i = true → waitsB ops i j = true → on l j = true
  w : w = if on l B then w2 else if on l A then w1 else w0
theorem wp_region_two {id : Nat} {a0 : Act} {w w1 w2 : World} (hm : P.follows .mixedOrders = true) (D : List (Option Nat)) (val : Nat → Value) (hok : regOk ops D a0.tmps.size = true) (A B : Nat) (hA : A < D.length) (hB : B < D.length) (hAB : A ≠ B) (hBA : reachB ops ops.size B A = true)
    (hg : ∀ (i g : Nat) (b : Bool), (ops[i]?).bind (fun o : Oper => o.guard) = some (g, b) → val g = .bool b)
    (hstep : ∀ i, i < D.length → Yields2 P ops D val a0 A B w.drew w1 w2 Q i)
    (hend : ∀ a', a'.tmps.size = a0.tmps.size → a'.defers = a0.defers → (∀ s, some s ∉ D → a'.tmps[s]? = a0.tmps[s]?) → (∀ i d, D.getD i none = some d → a'.eval (.tmp d) = val i) → Q .normal a' w2) :
    (Code.region id ops true).wp P Q a0 w := by
  have hn : ops.size = D.length := by
    unfold regOk at hok
    simp only [Bool.and_eq_true, beq_iff_eq] at hok
    exact hok.1
  have mem : ∀ s i, D.getD i none = some s → some s ∈ D := fun s i e => by
    have hi : i < D.length := by
      apply Classical.byContradiction
      intro h
      rw [List.getD_eq_getElem?_getD, List.getElem?_eq_none (by omega)] at e
      cases e
    rw [List.getD_eq_getElem?_getD, List.getElem?_eq_getElem hi] at e
    have := List.getElem_mem hi
    rw [show D[i] = some s from e] at this
    exact this
  have lt : ∀ i d, D.getD i none = some d → i < D.length := fun i d e => by
    apply Classical.byContradiction
    intro h
    rw [List.getD_eq_getElem?_getD, List.getElem?_eq_none (by omega)] at e
    cases e
  have hoff : ∀ i, on (Array.replicate ops.size false) i = false := fun i => by
    simp only [on, Array.getD_eq_getD_getElem?, Array.getElem?_replicate]
    split <;> rfl
  refine wp_region_inv hm (fun i o ho => (reg_at hok ho).2.2.1) (ITwo ops D val a0 A B w.drew w1 w2) (fun l a w h => by rw [hn]; exact h.size) ?_ ?_ ?_
  · exact ⟨by simp [hn], rfl, rfl, fun _ _ => rfl, fun i d _ hh => (by rw [hoff] at hh; cases hh), fun i j hh => (by rw [hoff] at hh; cases hh), by rw [hoff, hoff]; rfl⟩
  · intro l a w' h i hi
    obtain ⟨hu, o, ho, hall⟩ := mem_ready.1 hi
    obtain ⟨r1, r2, r3, r4, r5, r6⟩ := reg_at hok ho
    have hoi : on l i = false := by simp only [on]; simp [Array.getD, h.size, r1] at hu ⊢; exact hu
    have hset : ∀ j, on (l.setIfInBounds i true) j = if i = j then true else on l j := fun j => on_set i j (by rw [h.size]; exact r1)
    have hBon : on l B = true → on l A = true := fun hb => reach_on h.closed ops.size B A hb hBA
    have hdep : ∀ j d, D.getD j none = some d → waitsB ops i j = true → a.eval (.tmp d) = val j := fun j d hjd hh => h.val j d hjd (dep_of hi (waits_map hh))
    have legal : Legal ops A B w.drew w1 w2 i w' (if on (l.setIfInBounds i true) B then w2 else if on (l.setIfInBounds i true) A then w1 else w.drew) := by
      rw [hset, hset, h.w]
      by_cases eA : i = A
      · subst eA
        have hb : on l B = false := by
          cases hx : on l B with
          | false => rfl
          | true => rw [hBon hx] at hoi; cases hoi
        rw [hb, hoi, if_neg hAB, if_pos rfl]
        exact .inl ⟨rfl, rfl, rfl⟩
      · by_cases eB : i = B
        · subst eB
          have ha : on l A = true := reach_on_ready hi hBA h.closed
          exact .inr (.inl ⟨rfl, by simp [hoi, ha], by simp⟩)
        · rw [if_neg eB, if_neg eA]
          refine .inr (.inr ⟨eA, eB, rfl, ?_⟩)
          have nA : on l A = true → reachB ops ops.size A i = false := fun ha => by
            cases hr : reachB ops ops.size A i with
            | false => rfl
            | true => rw [reach_on h.closed ops.size A i ha hr] at hoi; cases hoi
          have nB : on l B = true → reachB ops ops.size B i = false := fun hb => by
            cases hr : reachB ops ops.size B i with
            | false => rfl
            | true => rw [reach_on h.closed ops.size B i hb hr] at hoi; cases hoi
          cases hb : on l B with
          | true => exact .inr (.inr ⟨nA (hBon hb), nB hb, rfl⟩)
          | false =>
            cases ha : on l A with
            | true => exact .inr (.inl ⟨nA ha, rfl⟩)
            | false => exact .inl rfl
    unfold wpOp
    simp only [ho]
    have hwant : Region.wanted o (yielded ops a.tmps) = true := by
      cases hgd : o.guard with
      | none => simp [Region.wanted, hgd]
      | some gb =>
        obtain ⟨g, b⟩ := gb
        obtain ⟨h1, h3, h4⟩ := r6 g b hgd
        have h2 := hg i g b (by rw [ho]; exact hgd)
        obtain ⟨d, hgD⟩ := Option.isSome_iff_exists.1 h4
        have hv := hdep g d hgD h3
        rw [h2] at hv
        have hgo : ∃ og, ops[g]? = some og := ⟨ops[g]'(by omega), Array.getElem?_eq_getElem (by omega)⟩
        obtain ⟨og, hog⟩ := hgo
        have hy : yielded ops a.tmps g = some b := by
          unfold yielded
          rw [hog]
          simp only [Option.bind_some, (reg_at hok hog).2.1, hgD]
          have hlt : d < a.tmps.size := by rw [h.tsize]; exact (reg_at hok hog).2.2.2.1 d hgD
          simp only [Act.eval, Array.getD, hlt, dite_true] at hv
          rw [Array.getElem?_eq_getElem hlt]
          have : a.tmps[d] = .bool b := hv
          rw [this]
        simp [Region.wanted, hgd, hy]
    rw [if_pos hwant]
    refine .inl (hstep i r1 o a w' _ _ ho r2 h.tsize (fun s hs => ?_) hdep legal ?_)
    · simp only [Act.eval, Array.getD_eq_getD_getElem?, h.off s hs]
    · have hputs : (a.put (D.getD i none) (val i)).tmps.size = a0.tmps.size := by
        cases hD : D.getD i none <;> simp [Act.put, h.tsize]
      have hputd : (a.put (D.getD i none) (val i)).defers = a0.defers := by
        cases hD : D.getD i none <;> simp [Act.put, h.defers]
      refine ⟨by simp [h.size], hputs, hputd, fun s hs => ?_, fun j d hjd hh => ?_, fun x y hx hy => ?_, rfl⟩
      · cases hD : D.getD i none with
        | none => exact h.off s hs
        | some d =>
          have : d ≠ s := fun e => hs (mem s i (by rw [hD, e]))
          simp only [Act.put, Array.getElem?_setIfInBounds, this, if_false]
          exact h.off s hs
      · rw [hset] at hh
        cases hD : D.getD i none with
        | none =>
          have hne : i ≠ j := fun e => by subst e; rw [hD] at hjd; cases hjd
          rw [if_neg hne] at hh
          exact h.val j d hjd hh
        | some d' =>
          rw [ev_put _ _ _ (by rw [h.tsize]; exact r4 d' hD)]
          by_cases e : i = j
          · subst e
            rw [hD] at hjd
            cases hjd
            simp
          · rw [if_neg e] at hh
            rw [if_neg (fun e2 => e (r5 j d (lt j d hjd) (by rw [hD, e2]) hjd))]
            exact h.val j d hjd hh
      · rw [hset] at hx ⊢
        by_cases e2 : i = y
        · rw [if_pos e2]
        · rw [if_neg e2]
          by_cases e1 : i = x
          · subst e1
            exact dep_of hi (waits_map hy)
          · rw [if_neg e1] at hx
            exact h.closed x y hx hy
  · intro l a w' h hall
    have hal : ∀ i, i < D.length → on l i = true := fun i hi => by
      have := hall i (by rw [hn]; exact hi)
      simp only [on, Array.getD, h.size, hi, dite_true] at this ⊢
      exact this
    have hw := h.w
    rw [hal B hB] at hw
    simp only [if_true] at hw
    subst hw
    exact hend a h.tsize h.defers h.off fun i d hD => h.val i d hD (hal i (lt i d hD))
end
end Go.Proofs.YtjbhnpofdafmbaaGreatDoor
/- A region in whatever order; some of its operations, one behind the other, turn the world; some may not be wanted. -/
namespace Go.Proofs.YtjbhnpofdafmbaaGreatDoor
open Go.RowKit
section
variable {P : Program} {ops : Array Oper} {Q : Exit → Act → World → Prop}
/-- In which worlds operation i may come up, and what it leaves. -/
def LegalC (R : Nat → Nat → Bool) (As : List Nat) (W : Nat → World) (i : Nat) (w w' : World) : Prop :=
  (∃ j, As[j]? = some i ∧ w = W j ∧ w' = W (j + 1)) ∨ (i ∉ As ∧ w' = w ∧ ∃ j, j ≤ As.length ∧ w = W j ∧ ∀ q x, As[q]? = some x → R x i = true → j ≤ q)
def YieldsC (P : Program) (ops : Array Oper) (D : List (Option Nat)) (val : Nat → Value) (a0 : Act) (R : Nat → Nat → Bool) (As : List Nat) (W : Nat → World) (Q : Exit → Act → World → Prop) (i : Nat) : Prop :=
  ∀ (o : Oper) (a : Act) (w w' : World) (K : Act → World → Prop), ops[i]? = some o → o.dst = D.getD i none → a.tmps.size = a0.tmps.size → (∀ s, some s ∉ D → a.eval (.tmp s) = a0.eval (.tmp s)) → (∀ j d, D.getD j none = some d → waitsB ops i j = true → a.eval (.tmp d) = val j) → LegalC R As W i w w' → K (a.put (D.getD i none) (val i)) w' → o.wp P a w K Q
structure IChain (ops : Array Oper) (D : List (Option Nat)) (val : Nat → Value) (a0 : Act) (As : List Nat) (W : Nat → World) (l : Array Bool) (a : Act) (w : World) : Prop where
  size : l.size = D.length
  tsize : a.tmps.size = a0.tmps.size
  defers : a.defers = a0.defers
  off : ∀ s, some s ∉ D → a.tmps[s]? = a0.tmps[s]?
  val : ∀ i d, D.getD i none = some d → on l i = true → a.eval (.tmp d) = val i
  closed : ∀ i j, on l i = true → waitsB ops i j = true → on l j = true
  w : ∃ c, c ≤ As.length ∧ (∀ j x, As[j]? = some x → (on l x = true ↔ j < c)) ∧ w = W c
def chainOk (ops : Array Oper) (As : List Nat) (n : Nat) : Bool := As.all (fun x => decide (x < n)) && (List.range (As.length - 1)).all (fun j => reachB ops ops.size (As.getD (j + 1) 0) (As.getD j 0))
theorem wp_region_chain {id : Nat} {a0 : Act} {w : World} (hm : P.follows .mixedOrders = true) (D : List (Option Nat)) (val : Nat → Value) (hok : regOk ops D a0.tmps.size = true) (As : List Nat) (W : Nat → World) (h0 : W 0 = w.drew) (hnd : As.Nodup) (hch : chainOk ops As D.length = true)
    (hg : ∀ (i g : Nat) (b : Bool), (ops[i]?).bind (fun o : Oper => o.guard) = some (g, b) → ∃ b', val g = .bool b' ∧ (b' ≠ b → val i = undef ∧ i ∉ As))
    (hstep : ∀ i, i < D.length → (∀ (g : Nat) (b : Bool), (ops[i]?).bind (fun o : Oper => o.guard) = some (g, b) → val g = .bool b) → YieldsC P ops D val a0 (reachB ops ops.size) As W Q i)
    (hend : ∀ a', a'.tmps.size = a0.tmps.size → a'.defers = a0.defers → (∀ s, some s ∉ D → a'.tmps[s]? = a0.tmps[s]?) → (∀ i d, D.getD i none = some d → a'.eval (.tmp d) = val i) → Q .normal a' (W As.length)) :
    (Code.region id ops true).wp P Q a0 w := by
  have hn : ops.size = D.length := by
    unfold regOk at hok
    simp only [Bool.and_eq_true, beq_iff_eq] at hok
    exact hok.1
  unfold chainOk at hch
  rw [Bool.and_eq_true, List.all_eq_true, List.all_eq_true] at hch
  obtain ⟨hAlt, hAr⟩ := hch
  have alt : ∀ {j x : Nat}, As[j]? = some x → x < D.length := fun {j x} hj => by simpa using hAlt x (List.mem_of_getElem? hj)
  have reach : ∀ {j x y : Nat}, As[j]? = some x → As[j + 1]? = some y → reachB ops ops.size y x = true := fun {j x y} h1 h2 => by
    have hl := (List.getElem?_eq_some_iff.1 h2).1
    have := hAr j (List.mem_range.2 (by omega))
    rw [List.getD_eq_getElem?_getD, List.getD_eq_getElem?_getD, h1, h2] at this
    exact this
  have inj : ∀ {j k x : Nat}, As[j]? = some x → As[k]? = some x → j = k := fun {j k x} h1 h2 => by
    obtain ⟨l1, e1⟩ := List.getElem?_eq_some_iff.1 h1
    obtain ⟨l2, e2⟩ := List.getElem?_eq_some_iff.1 h2
    have hp := List.pairwise_iff_getElem.1 hnd
    rcases Nat.lt_trichotomy j k with h | h | h
    · exact absurd (e1.trans e2.symm) (hp j k l1 l2 h)
    · exact h
    · exact absurd (e2.trans e1.symm) (hp k j l2 l1 h)
  have mem : ∀ s i, D.getD i none = some s → some s ∈ D := fun s i e => by
    have hi : i < D.length := by
      apply Classical.byContradiction
      intro h
      rw [List.getD_eq_getElem?_getD, List.getElem?_eq_none (by omega)] at e
      cases e
    rw [List.getD_eq_getElem?_getD, List.getElem?_eq_getElem hi] at e
    have := List.getElem_mem hi
    rw [show D[i] = some s from e] at this
    exact this
  have lt : ∀ i d, D.getD i none = some d → i < D.length := fun i d e => by
    apply Classical.byContradiction
    intro h
    rw [List.getD_eq_getElem?_getD, List.getElem?_eq_none (by omega)] at e
    cases e
  have hoff : ∀ i, on (Array.replicate ops.size false) i = false := fun i => by
    simp only [on, Array.getD_eq_getD_getElem?, Array.getElem?_replicate]
    split <;> rfl
  refine wp_region_inv hm (fun i o ho => (reg_at hok ho).2.2.1) (IChain ops D val a0 As W) (fun l a w h => by rw [hn]; exact h.size) ?_ ?_ ?_
  · exact ⟨by simp [hn], rfl, rfl, fun _ _ => rfl, fun i d _ hh => (by rw [hoff] at hh; cases hh), fun i j hh => (by rw [hoff] at hh; cases hh), 0, Nat.zero_le _, fun j x _ => by rw [hoff]; simp, h0.symm⟩
  · intro l a w' h i hi
    obtain ⟨hu, o, ho, hall⟩ := mem_ready.1 hi
    obtain ⟨r1, r2, r3, r4, r5, r6⟩ := reg_at hok ho
    have hoi : on l i = false := by simp only [on]; simp [Array.getD, h.size, r1] at hu ⊢; exact hu
    have hset : ∀ j, on (l.setIfInBounds i true) j = if i = j then true else on l j := fun j => on_set i j (by rw [h.size]; exact r1)
    have hdep : ∀ j d, D.getD j none = some d → waitsB ops i j = true → a.eval (.tmp d) = val j := fun j d hjd hh => h.val j d hjd (dep_of hi (waits_map hh))
    obtain ⟨c, hc1, hc2, hc3⟩ := h.w
    have keeps : ∀ w'' : World, (∃ c', c' ≤ As.length ∧ (∀ j x, As[j]? = some x → (on (l.setIfInBounds i true) x = true ↔ j < c')) ∧ w'' = W c') → IChain ops D val a0 As W (l.setIfInBounds i true) (a.put (D.getD i none) (val i)) w'' := fun w'' hw => by
      have hputs : (a.put (D.getD i none) (val i)).tmps.size = a0.tmps.size := by
        cases hD : D.getD i none <;> simp [Act.put, h.tsize]
      have hputd : (a.put (D.getD i none) (val i)).defers = a0.defers := by
        cases hD : D.getD i none <;> simp [Act.put, h.defers]
      refine ⟨by simp [h.size], hputs, hputd, fun s hs => ?_, fun j d hjd hh => ?_, fun x y hx hy => ?_, hw⟩
      · cases hD : D.getD i none with
        | none => exact h.off s hs
        | some d =>
          have : d ≠ s := fun e => hs (mem s i (by rw [hD, e]))
          simp only [Act.put, Array.getElem?_setIfInBounds, this, if_false]
          exact h.off s hs
      · rw [hset] at hh
        cases hD : D.getD i none with
        | none =>
          have hne : i ≠ j := fun e => by subst e; rw [hD] at hjd; cases hjd
          rw [if_neg hne] at hh
          exact h.val j d hjd hh
        | some d' =>
          rw [ev_put _ _ _ (by rw [h.tsize]; exact r4 d' hD)]
          by_cases e : i = j
          · subst e
            rw [hD] at hjd
            cases hjd
            simp
          · rw [if_neg e] at hh
            rw [if_neg (fun e2 => e (r5 j d (lt j d hjd) (by rw [hD, e2]) hjd))]
            exact h.val j d hjd hh
      · rw [hset] at hx ⊢
        by_cases e2 : i = y
        · rw [if_pos e2]
        · rw [if_neg e2]
          by_cases e1 : i = x
          · subst e1
            exact dep_of hi (waits_map hy)
          · rw [if_neg e1] at hx
            exact h.closed x y hx hy
    have legal : ∃ w'', LegalC (reachB ops ops.size) As W i w' w'' ∧ (∃ c', c' ≤ As.length ∧ (∀ j x, As[j]? = some x → (on (l.setIfInBounds i true) x = true ↔ j < c')) ∧ w'' = W c') ∧ (i ∉ As → w'' = w') := by
      by_cases hmem : i ∈ As
      · obtain ⟨j, hj⟩ := List.getElem?_of_mem hmem
        have hjl := (List.getElem?_eq_some_iff.1 hj).1
        have hge : c ≤ j := Nat.le_of_not_lt fun hlt => by
          have := (hc2 j i hj).2 hlt
          rw [hoi] at this
          cases this
        have hle : j ≤ c := by
          cases j with
          | zero => exact Nat.zero_le _
          | succ k =>
            obtain ⟨x, hx⟩ : ∃ x, As[k]? = some x := ⟨As[k]'(by omega), List.getElem?_eq_getElem (by omega)⟩
            have := (hc2 k x hx).1 (reach_on_ready hi (reach hx hj) h.closed)
            omega
        obtain rfl : c = j := by omega
        refine ⟨W (c + 1), .inl ⟨c, hj, hc3, rfl⟩, ⟨c + 1, by omega, fun k x hk => ?_, rfl⟩, fun hno => absurd hmem hno⟩
        rw [hset]
        by_cases e : i = x
        · subst e
          have := inj hj hk
          simp [this]
        · rw [if_neg e, hc2 k x hk]
          have : k ≠ c := fun ek => e (by rw [ek] at hk; rw [hj] at hk; exact Option.some.inj hk)
          omega
      · have hup : ∀ q x, As[q]? = some x → reachB ops ops.size x i = true → c ≤ q := fun q x hq hr => Nat.le_of_not_lt fun hl => by
          have := reach_on h.closed ops.size x i ((hc2 q x hq).2 hl) hr
          rw [hoi] at this
          cases this
        refine ⟨w', .inr ⟨hmem, rfl, c, hc1, hc3, hup⟩, ⟨c, hc1, fun k x hk => ?_, hc3⟩, fun _ => rfl⟩
        rw [hset, if_neg (fun e => hmem (by rw [e]; exact List.mem_of_getElem? hk))]
        exact hc2 k x hk
    obtain ⟨w'', leg, hw'', hsame⟩ := legal
    have hyield : ∀ (g : Nat) (b b' : Bool), o.guard = some (g, b) → val g = .bool b' → yielded ops a.tmps g = some b' := fun g b b' hgd h2 => by
      obtain ⟨h1, h3, h4⟩ := r6 g b hgd
      obtain ⟨d, hgD⟩ := Option.isSome_iff_exists.1 h4
      have hv := hdep g d hgD h3
      rw [h2] at hv
      have hgo : ∃ og, ops[g]? = some og := ⟨ops[g]'(by omega), Array.getElem?_eq_getElem (by omega)⟩
      obtain ⟨og, hog⟩ := hgo
      unfold yielded
      rw [hog]
      simp only [Option.bind_some, (reg_at hok hog).2.1, hgD]
      have hlt : d < a.tmps.size := by rw [h.tsize]; exact (reg_at hok hog).2.2.2.1 d hgD
      simp only [Act.eval, Array.getD, hlt, dite_true] at hv
      rw [Array.getElem?_eq_getElem hlt]
      have : a.tmps[d] = .bool b' := hv
      rw [this]
    unfold wpOp
    simp only [ho]
    by_cases hwant : Region.wanted o (yielded ops a.tmps) = true
    · rw [if_pos hwant]
      refine .inl (hstep i r1 (fun g b hgb => ?_) o a w' w'' _ ho r2 h.tsize (fun s hs => ?_) hdep leg (keeps w'' hw''))
      · obtain ⟨b', h1, h2⟩ := hg i g b hgb
        rw [ho] at hgb
        have hgd : o.guard = some (g, b) := hgb
        have hy := hyield g b b' hgd h1
        simp [Region.wanted, hgd, hy] at hwant
        rw [h1, hwant]
      · simp only [Act.eval, Array.getD_eq_getD_getElem?, h.off s hs]
    · rw [if_neg hwant, r2]
      cases hgd : o.guard with
      | none => exact absurd (by simp [Region.wanted, hgd]) hwant
      | some gb =>
        obtain ⟨g, b⟩ := gb
        obtain ⟨b', h1, h2⟩ := hg i g b (by rw [ho]; exact hgd)
        have hy := hyield g b b' hgd h1
        have hne : b' ≠ b := fun e => hwant (by simp [Region.wanted, hgd, hy, e])
        have hs := hsame (h2 hne).2
        subst hs
        rw [← (h2 hne).1]
        exact keeps w'' hw''
  · intro l a w' h hall
    have hal : ∀ i, i < D.length → on l i = true := fun i hi => by
      have := hall i (by rw [hn]; exact hi)
      simp only [on, Array.getD, h.size, hi, dite_true] at this ⊢
      exact this
    obtain ⟨c, hc1, hc2, hc3⟩ := h.w
    have hcm : c = As.length := by
      apply Classical.byContradiction
      intro hne
      have hlt : c < As.length := by omega
      have hx : As[c]? = some As[c] := List.getElem?_eq_getElem hlt
      have := (hc2 c _ hx).1 (hal _ (alt hx))
      omega
    rw [hc3, hcm]
    exact hend a h.tsize h.defers h.off fun i d hD => h.val i d hD (hal i (lt i d hD))
end
end Go.Proofs.YtjbhnpofdafmbaaGreatDoor

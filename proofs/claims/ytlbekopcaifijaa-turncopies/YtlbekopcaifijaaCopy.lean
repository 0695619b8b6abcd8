/-
  What the two Copies make: orders like the first ones, in new memory.
-/
import Derived.Test.YtlbekopcaifijaaDuo
import Derived.Deep.RegionWith
import Derived.Deep.RegionLaw
namespace Go.Proofs.Ytlbekopcaifijaa
open Go.RowKit
/-- 'append([]T(nil), xs...)', as one step of a region that draws. -/
theorem step_fresh {P : Program} {w : World} {ops : Array Oper} {o : Oper} {a : Act} {K : Act → World → Prop} {Q : Exit → Act → World → Prop} {E : Prop} (hgd : o.guard = none) (s x : Operand) (t : TypeId)
    (ho : o.op = .call { callee := .builtin .append, args := #[s, x], argTypes := #[t, t] })
    (e : TypeId) (z : Value) (bytes : Nat) (ht : P.underlying t = some (.slice e)) (hinfo : (P.info? e).map (fun i => (i.zero, i.size, i.bytes)) = some (some z, 1, bytes)) (hz : z.cells.size = 1)
    (ao : Option Addr) (m c : Nat) (xs : List Value) (hs : a.eval s = .slice none 0 0) (hx : a.eval x = .slice ao m c) (hl : xs.length = m) (hc : ao = none → c = 0) (hv : Vals w ao xs) (h1 : ∀ u ∈ xs, u.oneCell' = true)
    (h63 : m ≤ maxLen) (hbytes : m * bytes ≤ 140737488355328)
    (h : ∀ v' w', Fresh e w w' v' xs → K (a.put o.dst v') w') : if Region.wanted o (yielded ops a.tmps) = true then Oper.wp P o a w K Q else E := by
  have hw : Region.wanted o (yielded ops a.tmps) = true := by simp [Region.wanted, hgd]
  rw [if_pos hw]
  obtain ⟨i, hi, hz0, hz1, hz2⟩ := info_parts hinfo
  cases ao with
  | none =>
    have hxs : xs = [] := by rcases hv with h | ⟨_, _, h, _⟩; exact h; cases h
    subst hxs
    obtain rfl : m = 0 := hl.symm
    obtain rfl := hc rfl
    have hrun := run_append_owned_none (P := P) (w := w) w.heap.size t o.type e i 1 ht hi (.slice none 0 0) 0 [] (World.ownsRow_nil _ _ _ _)
    unfold Oper.wp
    simp [execOp, ho, resolve, invoke, builtin, hs, hx, hrun, Result.andThen]
    exact h _ _ ⟨Below.refl _ _, none, 0, w.heap.size, 0, fun _ => .bool false, rfl, Nat.le_refl _, Nat.zero_le _, Nat.le_refl _, .inl ⟨rfl, rfl, rfl⟩⟩
  | some ad =>
    refine wp_append_own w s x t ho w.heap.size e i z 1 bytes ht hi hz0 hz1 hz2 hz (by decide) (.slice none 0 0) 0 [] hs (World.ownsRow_nil _ _ _ _) ad m c xs hx (by omega) (fun j u hu => ?_) h1 (by omega) (by simpa using hbytes) (Nat.le_refl _) (fun v' w' h2 h3 h4 => h v' w' ?_)
    · rcases hv with rfl | ⟨b, off, hb, hh⟩
      · simp at hu
      · cases hb; rw [addr_add]; exact hh j u hu
    · simp only [List.nil_append, Nat.zero_add] at h2
      exact fresh_owns hl.symm h2 h3 (fun k hk => by cases hk)
set_option maxHeartbeats 1600000 in
theorem cCopy (w : World) (b g : Nat) (ts : List Int) (x : Int) (h : Ord 39 w b g ts x) (hn : ts.length ≤ 20000) :
    Calls Try.prog 14 #[.pointer (some ⟨b, 0, none⟩)] w fun e w' => ∃ b' g', e = .returned (.pointer (some ⟨b', 0, none⟩)) ∧ w.heap.size ≤ b' ∧ (ts ≠ [] → w.heap.size ≤ g' ∧ g' < b') ∧ Ord 39 w' b' g' ts x ∧ Below w.heap.size w w' := by
  obtain ⟨h1, h2, ao, cap, h3, h4, h5, h6, h7, h8⟩ := h
  obtain ⟨c0, c1, -, -⟩ := cell_two h3
  have HF : Hid (∀ wx, Same w wx → Calls Try.prog 16 #[.slice ao ts.length cap] wx fun e w' => ∃ v, e = .returned v ∧ Fresh 3 wx w' v (ints ts)) := fun wx hx => cFresh wx ao cap ts (h8.keepB (hx.below _)) h6 (by omega)
  clear h3 h4 h5 h6 h7 h8
  go_enter Try.func14, Try.ntmps14
  go_wp2
  go_region_with (go_at_call 16; refine (HF.out _ ?_).mono ?_; exact ⟨rfl, rfl, rfl, rfl⟩; rintro e w1 ⟨v, rfl, hF⟩; have c1' : w1.cell? ⟨b, 1, none⟩ = some (.int .i64 x) := (hF.below.cell (p := ⟨b, 1, none⟩) h2).trans c1; obtain ⟨ao', cap', hv', -⟩ := hF.vals; subst hv')
  all_goals
    obtain ⟨g', hg', hO⟩ := ord_made (T := 39) hF x
    have hb : Below w.heap.size w w1 := (Below.refl w.heap.size w).drew.trans hF.below
    have hs := hb.size
    clear hF
    go_wp2
    go_ret
    exact ⟨_, g', rfl, hs, hg', hO, hb.alloc hs _⟩
set_option maxHeartbeats 1600000 in
theorem cCopyR (w : World) (b g : Nat) (ts : List Int) (x : Int) (h : Ord 41 w b g ts x) (hn : ts.length ≤ 20000) :
    Calls Try.prog 15 #[.pointer (some ⟨b, 0, none⟩)] w fun e w' => ∃ b' g', e = .returned (.pointer (some ⟨b', 0, none⟩)) ∧ w.heap.size ≤ b' ∧ (ts ≠ [] → w.heap.size ≤ g' ∧ g' < b') ∧ Ord 41 w' b' g' ts x ∧ Below w.heap.size w w' := by
  obtain ⟨h1, h2, ao, cap, h3, h4, h5, h6, h7, h8⟩ := h
  obtain ⟨c0, c1, -, -⟩ := cell_two h3
  have HV : Hid (∀ wx, Same w wx → Vals wx ao (ints ts)) := fun wx hx => h8.keepB (hx.below _)
  clear h3 h4 h5 h7 h8
  go_enter Try.func15, Try.ntmps15
  go_wp2
  go_region_law (refine step_fresh rfl _ _ 22 rfl 3 (.int .i64 0) 8 Try.underlying22 Try.info3 rfl ao ts.length cap (ints ts) (by simp [Act.eval]) (by simp [Act.eval]) (ints_len ts) h6 (HV.out _ ⟨rfl, rfl, rfl, rfl⟩) (ints_one ts) (by unfold maxLen; omega) (by omega) ?_; intro v' w1 hF; have c1' : w1.cell? ⟨b, 1, none⟩ = some (.int .i64 x) := (hF.below.cell (p := ⟨b, 1, none⟩) h2).trans c1; obtain ⟨ao', cap', hv', -⟩ := hF.vals; subst hv')
  all_goals
    obtain ⟨g', hg', hO⟩ := ord_made (T := 41) hF x
    have hb : Below w.heap.size w w1 := (Below.refl w.heap.size w).drew.trans hF.below
    have hs := hb.size
    clear hF
    go_wp2
    go_ret
    exact ⟨_, g', rfl, hs, hg', hO, hb.alloc hs _⟩
end Go.Proofs.Ytlbekopcaifijaa

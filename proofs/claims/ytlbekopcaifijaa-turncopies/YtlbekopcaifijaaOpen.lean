/-
  From what the form reads of the arguments to what the walks ask: turns, who is ready, a script.
-/
import Derived.Test.YtlbekopcaifijaaSmall
import Derived.ProofKit
import Derived.SizedLaws
import Derived.Deep.Grids
namespace Go.Proofs.Ytlbekopcaifijaa
open Go.ChangeShapes Go.WideShapes Go.ChangeAt Go.RowKit Go.Deep
theorem Try.own : ownKnob Try.prog.godebug = none := by kernel_rfl
theorem Try.laidOut : laidOutB Try.prog = true := by kernel_rfl
theorem Try.cells3 : Try.prog.cellsOf 3 = 1 := by kernel_rfl
theorem Try.cells4 : Try.prog.cellsOf 4 = 1 := by kernel_rfl
theorem Try.cells30 : Try.prog.cellsOf 30 = 1 := by kernel_rfl
theorem Try.bytes3 : Try.prog.bytesOf 3 = 8 := by kernel_rfl
theorem Try.bytes4 : Try.prog.bytesOf 4 = 1 := by kernel_rfl
theorem Try.bytes30 : Try.prog.bytesOf 30 = 24 := by kernel_rfl
theorem reach_eq : reachBytes = 140737488351232 := rfl
/-- Of each slice that lies in a list of data: its length is within the form's reach, if all weights of the list are. -/
theorem inner_reach {H : Type} {P : Program} {e q : TypeId} (hu : P.underlying e = some (.slice q)) (l : List (DataW H)) (hall : ∀ n ∈ DataW.weightsAll P e l, n ≤ reachBytes) {x y : List (DataW H)} (hm : DataW.slice x y ∈ l) : (x.length + y.length) * P.bytesOf q ≤ reachBytes := by
  induction l with
  | nil => cases hm
  | cons d r ih =>
    simp only [DataW.weightsAll, List.mem_append] at hall
    rcases List.mem_cons.1 hm with h | h
    · subst h
      exact hall _ (.inl (by simp [DataW.weights, hu]))
    · exact ih (fun n hn => hall n (.inr hn)) h
section
variable {H : Type} {enc : TypeId × Value → H} {W : World} {base : Nat} {v : Value} {d : DataW H} {p : List MemPlace} {tys : List TypeId} {ds : List (DataW H)} {j : Nat}
theorem view_ints (hok : Value.okWide Try.prog W .any base 22 v) (h : DataW.Trod enc Try.prog W 0 (fun _ => true) true 22 v d p)
    (hsz : (DataW.weightsEach Try.prog tys ds).all (· ≤ reachBytes) = true) (ht : tys[j]? = some 22) (hd : ds[j]? = some d) :
    ∃ ta ts tc, v = .slice ta ts.length tc ∧ Vals W ta (ints ts) ∧ (ta = none → tc = 0) ∧ ts.length ≤ 140737488355328 := by
  obtain ⟨a0, len, cap, rfl⟩ := okWide_slice Try.underlying22 hok
  obtain ⟨fuel, hf⟩ := h
  rcases open_ints Try.underlying22 Try.underlying3 Try.cells3 hf with ⟨hcs, hx⟩ | ⟨a, len', cap', zs, hcs, _, hl, hm, hz, hx, hcell, hwz⟩
  · simp [Value.cells] at hcs
    obtain ⟨rfl, rfl, rfl⟩ := hcs
    exact ⟨none, [], 0, rfl, .inl rfl, fun _ => rfl, by simp⟩
  · simp [Value.cells] at hcs
    obtain ⟨rfl, rfl, rfl⟩ := hcs
    simp only [Prod.mk.injEq] at hx
    obtain ⟨rfl, rfl⟩ := hx
    simp only [if_true] at hz
    have hr := sized_slice hsz ht hd Try.underlying22
    rw [Try.bytes3] at hr
    simp only [lits, List.length_map, List.length_take, List.length_drop, reachBytes] at hr
    have hlen : (zs.take len).length = len := by rw [List.length_take]; omega
    refine ⟨some a, zs.take len, cap, by rw [hlen], ?_, (fun e => by cases e), by omega⟩
    by_cases hl0 : len = 0
    · subst hl0; exact .inl rfl
    · obtain ⟨b, off, spot⟩ := a
      have hspot : spot = none := by simpa [Addr.add] using World.cell?_spot (hcell 0 (by omega))
      subst hspot
      refine .inr ⟨b, off, rfl, fun i u hu => ?_⟩
      have hi : i < (zs.take len).length := by have := (List.getElem?_eq_some_iff.1 hu).1; simpa [ints] using this
      rw [ints_at _ hi] at hu
      cases hu
      rw [← add_plain, hcell i (by omega)]
      rw [List.getD_eq_getElem?_getD, List.getElem?_eq_getElem (by omega : i < zs.length)]
      simp
theorem row_vals {a : Option Addr} {L C : Nat} {B : Nat → Bool} (hl : L ≤ C) (hn : a = none → C = 0) (hc : ∀ a', a = some a' → 0 ≤ a'.block ∧ ∀ c, c < C → W.cell? (a'.add c) = some (.bool (B c))) : Vals W a (bools B L) := by
  by_cases hl0 : L = 0
  · subst hl0; exact .inl rfl
  · cases a with
    | none => have := hn rfl; omega
    | some a' =>
      obtain ⟨b, off, spot⟩ := a'
      obtain ⟨_, hcell⟩ := hc _ rfl
      have hspot : spot = none := by simpa [Addr.add] using World.cell?_spot (hcell 0 (by omega))
      subst hspot
      refine .inr ⟨b, off, rfl, fun i u hu => ?_⟩
      have hi : i < L := by have := (List.getElem?_eq_some_iff.1 hu).1; simpa [bools] using this
      rw [bools_at _ hi] at hu
      cases hu
      rw [← add_plain, hcell i (by omega)]
theorem view_bools (hok : Value.okWide Try.prog W .any base 30 v) (h : DataW.Trod enc Try.prog W 0 (fun _ => true) true 30 v d p)
    (hsz : (DataW.weightsEach Try.prog tys ds).all (· ≤ reachBytes) = true) (ht : tys[j]? = some 30) (hd : ds[j]? = some d) :
    ∃ ra n rc B, v = .slice ra n rc ∧ Vals W ra (bools B n) ∧ (ra = none → rc = 0) ∧ n ≤ 140737488355328 := by
  obtain ⟨a0, len, cap, rfl⟩ := okWide_slice Try.underlying30 hok
  obtain ⟨fuel, hf⟩ := h
  rcases open_bools Try.underlying30 Try.underlying4 Try.cells4 hf with ⟨hcs, hx⟩ | ⟨a, len', cap', B, hcs, hb, hl, hm, hx, hcell⟩
  · simp [Value.cells] at hcs
    obtain ⟨rfl, rfl, rfl⟩ := hcs
    exact ⟨none, 0, 0, fun _ => false, rfl, .inl rfl, fun _ => rfl, by simp⟩
  · simp [Value.cells] at hcs
    obtain ⟨rfl, rfl, rfl⟩ := hcs
    simp only [Prod.mk.injEq] at hx
    obtain ⟨rfl, rfl⟩ := hx
    have hr := sized_slice hsz ht hd Try.underlying30
    rw [Try.bytes4] at hr
    simp only [List.length_map, List.length_range, reachBytes] at hr
    exact ⟨some a, len, cap, B, rfl, row_vals hl (fun e => by cases e) (fun a' e => by cases e; exact ⟨Nat.zero_le _, hcell⟩), (fun e => by cases e), by omega⟩
theorem view_grid (hok : Value.okWide Try.prog W .any base 23 v) (h : DataW.Trod enc Try.prog W 0 (fun _ => true) true 23 v d p)
    (hsz : (DataW.weightsEach Try.prog tys ds).all (· ≤ reachBytes) = true) (ht : tys[j]? = some 23) (hd : ds[j]? = some d) :
    ∃ ga G gc A L C B, v = .slice ga G gc ∧ Grid W ga G A L C B ∧ G ≤ 140737488355328 := by
  obtain ⟨a0, len, cap, rfl⟩ := okWide_slice Try.underlying23 hok
  obtain ⟨fuel, hf⟩ := h
  rcases open_bool_rows Try.underlying23 Try.underlying30 Try.underlying4 Try.cells30 Try.cells4 hf with ⟨hcs, hx⟩ | ⟨a, len', cap', A, L, C, B, hcs, _, hl, hm, hx, hrows⟩
  · simp [Value.cells] at hcs
    obtain ⟨rfl, rfl, rfl⟩ := hcs
    exact ⟨none, 0, 0, fun _ => none, fun _ => 0, fun _ => 0, fun _ _ => false, rfl, ⟨fun h => absurd h (Nat.lt_irrefl _), fun _ h => absurd h (Nat.not_lt_zero _), fun _ h => absurd h (Nat.not_lt_zero _), fun _ h => absurd h (Nat.not_lt_zero _)⟩, by simp⟩
  simp [Value.cells] at hcs
  obtain ⟨rfl, rfl, rfl⟩ := hcs
  simp only [Prod.mk.injEq] at hx
  obtain ⟨rfl, rfl⟩ := hx
  have hout := sized_slice hsz ht hd Try.underlying23
  simp only [List.length_map, List.length_range, Try.bytes30, reach_eq] at hout
  refine ⟨some a, len, cap, A, L, C, B, rfl, ⟨fun hG => ?_, fun r hr => ?_, fun r hr e => ?_, fun r hr => ?_⟩, by omega⟩
  · obtain ⟨gb, go, gs⟩ := a
    have hgs : gs = none := by simpa [Addr.add] using World.cell?_spot (hrows 0 (by omega)).1
    subst hgs
    exact ⟨gb, go, rfl, fun r hr => by rw [← add_plain]; exact (hrows r (by omega)).1⟩
  · obtain ⟨_, h1, _, h3, h4⟩ := hrows r (by omega)
    exact row_vals h1 h3 h4
  · exact (hrows r (by omega)).2.2.2.1 e
  · obtain ⟨_, h1, _, h3, h4⟩ := hrows r (by omega)
    cases hA : A r with
    | none => have := h3 hA; omega
    | some a' =>
      have hall := fun n hn => of_decide_eq_true (List.all_eq_true.1 hsz n (DataW.weights_mem_each ht hd n (by simp only [DataW.weights, Try.underlying23, List.mem_cons, List.mem_append]; exact .inr (.inl hn))))
      have hin := inner_reach Try.underlying30 _ hall (x := (List.range (L r)).map fun i => .lit (.bool (B r i))) (y := (List.range (C r - L r)).map fun j => .lit (.bool (B r (L r + j))))
        (List.mem_map.2 ⟨r, List.mem_range.2 hr, by simp [boolRow, hA]⟩)
      simp only [List.length_map, List.length_range, Try.bytes4, reach_eq] at hin
      omega
end
end Go.Proofs.Ytlbekopcaifijaa

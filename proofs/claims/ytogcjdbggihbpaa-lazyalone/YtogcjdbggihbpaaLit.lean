/- From a frame that agrees with a written one but for some slots, to a written one. -/
import Derived.Test.YtogcjdbggihbpaaLook41
namespace Go.Proofs.Ytogcjdbggihbpaa
open Go.RowKit Go.Conc Go.MuLone
theorem fold_size (f : Nat → Value) : ∀ (D : List Nat) (t : Array Value), (D.foldl (fun t d => t.setIfInBounds d (f d)) t).size = t.size
  | [], _ => rfl
  | d :: D, t => by rw [List.foldl_cons, fold_size f D]; simp
theorem fold_at (f : Nat → Value) : ∀ (D : List Nat) (t : Array Value) (i : Nat), i < t.size → (D.foldl (fun t d => t.setIfInBounds d (f d)) t)[i]? = if i ∈ D then some (f i) else t[i]?
  | [], _, _, _ => by simp
  | d :: D, t, i, hi => by
    rw [List.foldl_cons, fold_at f D _ i (by simpa using hi)]
    by_cases h : i ∈ D
    · simp [h]
    · by_cases e : d = i
      · subst e; simp [h, hi]
      · have e' : ¬ i = d := fun h => e h.symm
        simp [h, e, e']
theorem act_lit {a a0 : Act} (D : List Nat) (hs : a.tmps.size = a0.tmps.size) (hd : a.defers = a0.defers) (ho : ∀ s, s ∉ D → a.tmps[s]? = a0.tmps[s]?) :
    a = ⟨D.foldl (fun t d => t.setIfInBounds d (a.eval (.tmp d))) a0.tmps, a0.defers⟩ := by
  obtain ⟨t, df⟩ := a
  simp only at hs hd ho
  subst hd
  congr 1
  refine Array.ext_getElem? fun i => ?_
  by_cases hi : i < a0.tmps.size
  · rw [fold_at _ _ _ _ hi]
    by_cases h : i ∈ D
    · rw [if_pos h]
      have hi' : i < t.size := by omega
      simp [Act.eval, Array.getD, hi']
    · rw [if_neg h]; exact ho i h
  · rw [Array.getElem?_eq_none (by omega), Array.getElem?_eq_none (by rw [fold_size]; omega)]
theorem reg13' {p : Pm} {w : World} {Q : Exit → Act → World → Prop} {id : Nat} {ops : Array Oper} (hops : ops = (opsOf 13 Try.f3.body)) (hs : p.a0.tmps.size = 369) (h7 : p.a0.eval (.tmp 7) = p.vs 0) (h8 : p.a0.eval (.tmp 8) = p.vs 1) (h9 : p.a0.eval (.tmp 9) = ptr p.z) (h14 : p.a0.eval (.tmp 14) = ptr p.x) (h15 : p.a0.eval (.tmp 15) = ptr p.y) (h16 : p.a0.eval (.tmp 16) = ptr p.t)
    (hk : p.k ≤ 1000) (hl0 : (p.xs 0).length = p.k) (hl1 : (p.xs 1).length = p.k) (hl2 : (p.xs 2).length = p.k) (hN : p.N = w.heap.size)
    (hM : Mid p.W (p.z + 1) p.z (p.vs 2) w p.k 3 (updK p.e p.k p.nb) (updK p.ob p.k p.no) p.vs p.xs)
    (hend : ∀ (a' : Act) (w' : World), P13 p.W p.z w' p.k p.e p.ob p.vs p.xs p.nb p.no p.x p.y p.t (a'.eval (.tmp 7)) (a'.eval (.tmp 8)) → Q .normal ⟨D13.foldl (fun t d => t.setIfInBounds d (a'.eval (.tmp d))) p.a0.tmps, p.a0.defers⟩ w') :
    (Code.region id ops true).wp Try.prog Q p.a0 w := by
  subst hops
  refine reg13 hs h7 h8 h9 h14 h15 h16 hk hl0 hl1 hl2 hN hM fun a' w' h1 h2 h3 hP => ?_
  rw [act_lit D13 h1 h2 h3]
  exact hend a' w' hP
def D41 : List Nat := List.range' 224 89
theorem reg41' {q : Q41} {a0 : Act} {w : World} {id : Nat} {ops : Array Oper} {Q : Exit → Act → World → Prop} (hops : ops = (opsOf 41 Try.f3.body)) (hs : 313 ≤ a0.tmps.size) (F : F41 q a0 w.drew)
    (hend : ∀ f : Nat → Value, f 312 = .bool false → Q .normal ⟨D41.foldl (fun t d => t.setIfInBounds d (f d)) a0.tmps, a0.defers⟩ w.drew) :
    (Code.region id ops true).wp Try.prog Q a0 w := by
  subst hops
  refine reg41 hs F fun a' h1 h2 h3 h4 => ?_
  rw [act_lit D41 h1 h2 (fun s hs => h3 s (by simp only [D41, List.mem_range'] at hs; rcases Nat.lt_or_ge s 224 with h | h; exact .inl h; rcases Nat.lt_or_ge s 313 with h' | h'; exact absurd ⟨s - 224, by omega, by omega⟩ hs; exact .inr h'))]
  exact hend (fun d => a'.eval (.tmp d)) h4
end Go.Proofs.Ytogcjdbggihbpaa

/- The law's statements outside its loops. -/
import Derived.Test.YtogcjdbggihbpaaLoopA
import Derived.Test.YtogcjdbggihbpaaLoopB
namespace Go.Proofs.Ytogcjdbggihbpaa
open Go.RowKit Go.Conc Go.MuLone
section
variable {B : PA} {a : Act} {w : World} {K : Act → World → Prop} {Q : Exit → Act → World → Prop}
set_option maxRecDepth 100000 in
set_option maxHeartbeats 4000000 in
theorem p0 {oa la : Option Addr} {n oc m lc : Nat} (hs : a.tmps.size = 369) (hd : a.defers = []) (e0 : a.eval (.tmp 0) = .slice oa n oc) (e1 : a.eval (.tmp 1) = .slice la m lc)  (hK : ∀ a', a'.tmps.size = 369 → a'.defers = [] → a'.eval (.tmp 0) = .slice oa n oc → a'.eval (.tmp 1) = .slice la m lc → K a' w) : (atc Try.f3.body [0]).wp Try.prog (Exit.then K Q) a w := by
  obtain ⟨c, rfl, hc⟩ := expand hs hd
  have x0 : c 0 = .slice oa n oc := (hc 0 (by omega)).trans e0
  have x1 : c 1 = .slice la m lc := (hc 1 (by omega)).trans e1
  clear hc hs hd e0 e1
  conv => arg 2; whnf
  unfold litOf
  simp only [x0, x1]
  clear x0 x1
  go_wp2
  exact hK _ rfl rfl rfl rfl
set_option maxRecDepth 100000 in
set_option maxHeartbeats 4000000 in
theorem p1 {oa la : Option Addr} {n oc m lc : Nat} (hs : a.tmps.size = 369) (hd : a.defers = []) (e0 : a.eval (.tmp 0) = .slice oa n oc) (e1 : a.eval (.tmp 1) = .slice la m lc)  (hK : ∀ a' w', a'.tmps.size = 369 → a'.defers = [] → a'.eval (.tmp 0) = .slice oa n oc → a'.eval (.tmp 1) = .slice la m lc → Below w.heap.size w w' → K a' w') : (atc Try.f3.body [1, 0]).wp Try.prog (Exit.then K Q) a w := by
  obtain ⟨c, rfl, hc⟩ := expand hs hd
  have x0 : c 0 = .slice oa n oc := (hc 0 (by omega)).trans e0
  have x1 : c 1 = .slice la m lc := (hc 1 (by omega)).trans e1
  clear hc hs hd e0 e1
  conv => arg 2; whnf
  unfold litOf
  simp only [x0, x1]
  clear x0 x1
  go_wp2_with (go_at_call 5; refine (cKnown w).mono ?_; rintro e w1 ⟨rfl, hW1⟩)
  exact hK _ _ rfl rfl rfl rfl hW1
set_option maxRecDepth 100000 in
set_option maxHeartbeats 4000000 in
theorem p3 {oa la : Option Addr} {n oc m lc : Nat} (hs : a.tmps.size = 369) (hd : a.defers = []) (e0 : a.eval (.tmp 0) = .slice oa n oc) (e1 : a.eval (.tmp 1) = .slice la m lc) (hn : n ≤ 30) (hn0 : ((n : Int) == 0) = false) (hm : m ≤ 500) (hK : ∀ a', a'.tmps.size = 369 → a'.defers = [] → a'.eval (.tmp 0) = .slice oa n oc → a'.eval (.tmp 1) = .slice la m lc → K a' w) : (atc Try.f3.body [1, 1, 0]).wp Try.prog (Exit.then K Q) a w := by
  obtain ⟨c, rfl, hc⟩ := expand hs hd
  have x0 : c 0 = .slice oa n oc := (hc 0 (by omega)).trans e0
  have x1 : c 1 = .slice la m lc := (hc 1 (by omega)).trans e1
  clear hc hs hd e0 e1
  conv => arg 2; whnf
  unfold litOf
  simp only [x0, x1]
  clear x0 x1
  go_wp2
  exact hK _ rfl rfl rfl rfl
set_option maxRecDepth 100000 in
set_option maxHeartbeats 4000000 in
theorem p3a {oa la : Option Addr} {n oc m lc : Nat} (hs : a.tmps.size = 369) (hd : a.defers = []) (e0 : a.eval (.tmp 0) = .slice oa n oc) (e1 : a.eval (.tmp 1) = .slice la m lc) (hn : 30 < n) (hQ : ∀ a', a'.tmps.size = 369 → a'.defers = [] → a'.eval (.tmp 4) = .bool true → Q .ret a' w) : (atc Try.f3.body [1, 1, 0]).wp Try.prog (Exit.then K Q) a w := by
  obtain ⟨c, rfl, hc⟩ := expand hs hd
  have x0 : c 0 = .slice oa n oc := (hc 0 (by omega)).trans e0
  have x1 : c 1 = .slice la m lc := (hc 1 (by omega)).trans e1
  clear hc hs hd e0 e1
  conv => arg 2; whnf
  unfold litOf
  simp only [x0, x1]
  clear x0 x1
  have hQ1 : Hid _ := hQ
  clear hQ
  go_wp2
  exact hQ1.out _ rfl rfl rfl
set_option maxRecDepth 100000 in
set_option maxHeartbeats 4000000 in
theorem p3b {oa la : Option Addr} {n oc m lc : Nat} (hs : a.tmps.size = 369) (hd : a.defers = []) (e0 : a.eval (.tmp 0) = .slice oa n oc) (e1 : a.eval (.tmp 1) = .slice la m lc) (hn : n ≤ 30) (hm : 500 < m) (hQ : ∀ a', a'.tmps.size = 369 → a'.defers = [] → a'.eval (.tmp 4) = .bool true → Q .ret a' w) : (atc Try.f3.body [1, 1, 0]).wp Try.prog (Exit.then K Q) a w := by
  obtain ⟨c, rfl, hc⟩ := expand hs hd
  have x0 : c 0 = .slice oa n oc := (hc 0 (by omega)).trans e0
  have x1 : c 1 = .slice la m lc := (hc 1 (by omega)).trans e1
  clear hc hs hd e0 e1
  conv => arg 2; whnf
  unfold litOf
  simp only [x0, x1]
  clear x0 x1
  have hQ1 : Hid _ := hQ
  clear hQ
  go_wp2
  exact hQ1.out _ rfl rfl rfl
set_option maxRecDepth 100000 in
set_option maxHeartbeats 4000000 in
theorem p3c {oa la : Option Addr} {n oc m lc : Nat} (hs : a.tmps.size = 369) (hd : a.defers = []) (e0 : a.eval (.tmp 0) = .slice oa n oc) (e1 : a.eval (.tmp 1) = .slice la m lc) (hn : n = 0) (hm : m ≤ 500) (hQ : ∀ a', a'.tmps.size = 369 → a'.defers = [] → a'.eval (.tmp 4) = .bool true → Q .ret a' w) : (atc Try.f3.body [1, 1, 0]).wp Try.prog (Exit.then K Q) a w := by
  obtain ⟨c, rfl, hc⟩ := expand hs hd
  have x0 : c 0 = .slice oa n oc := (hc 0 (by omega)).trans e0
  have x1 : c 1 = .slice la m lc := (hc 1 (by omega)).trans e1
  clear hc hs hd e0 e1
  conv => arg 2; whnf
  unfold litOf
  simp only [x0, x1]
  clear x0 x1
  subst hn
  have hQ1 : Hid _ := hQ
  clear hQ
  go_wp2
  exact hQ1.out _ rfl rfl rfl
set_option maxRecDepth 100000 in
set_option maxHeartbeats 4000000 in
theorem p5 {oa la : Option Addr} {n oc m lc : Nat} (hs : a.tmps.size = 369) (hd : a.defers = []) (e0 : a.eval (.tmp 0) = .slice oa n oc) (e1 : a.eval (.tmp 1) = .slice la m lc)  (hK : ∀ a', a'.tmps.size = 369 → a'.defers = [] → a'.eval (.tmp 0) = .slice oa n oc → a'.eval (.tmp 1) = .slice la m lc → a'.eval (.tmp 5) = .slice none 0 0 → K a' w) : (atc Try.f3.body [1, 1, 1, 0]).wp Try.prog (Exit.then K Q) a w := by
  obtain ⟨c, rfl, hc⟩ := expand hs hd
  have x0 : c 0 = .slice oa n oc := (hc 0 (by omega)).trans e0
  have x1 : c 1 = .slice la m lc := (hc 1 (by omega)).trans e1
  clear hc hs hd e0 e1
  conv => arg 2; whnf
  unfold litOf
  simp only [x0, x1]
  clear x0 x1
  go_wp2
  exact hK _ rfl rfl rfl rfl rfl
set_option maxRecDepth 100000 in
set_option maxHeartbeats 4000000 in
theorem p6 {oa la : Option Addr} {n oc m lc : Nat} (hs : a.tmps.size = 369) (hd : a.defers = []) (e0 : a.eval (.tmp 0) = .slice oa n oc) (e1 : a.eval (.tmp 1) = .slice la m lc) (e5 : a.eval (.tmp 5) = .slice none 0 0)  (hK : ∀ a', a'.tmps.size = 369 → a'.defers = [] → a'.eval (.tmp 0) = .slice oa n oc → a'.eval (.tmp 1) = .slice la m lc → a'.eval (.tmp 5) = .slice none 0 0 → a'.eval (.tmp 6) = .slice none 0 0 → K a' w) : (atc Try.f3.body [1, 1, 1, 1, 0]).wp Try.prog (Exit.then K Q) a w := by
  obtain ⟨c, rfl, hc⟩ := expand hs hd
  have x0 : c 0 = .slice oa n oc := (hc 0 (by omega)).trans e0
  have x1 : c 1 = .slice la m lc := (hc 1 (by omega)).trans e1
  have x5 : c 5 = .slice none 0 0 := (hc 5 (by omega)).trans e5
  clear hc hs hd e0 e1 e5
  conv => arg 2; whnf
  unfold litOf
  simp only [x0, x1, x5]
  clear x0 x1 x5
  go_wp2
  exact hK _ rfl rfl rfl rfl rfl rfl
set_option maxRecDepth 100000 in
set_option maxHeartbeats 4000000 in
theorem p7 {oa la : Option Addr} {n oc m lc : Nat} (hs : a.tmps.size = 369) (hd : a.defers = []) (e0 : a.eval (.tmp 0) = .slice oa n oc) (e1 : a.eval (.tmp 1) = .slice la m lc) (e5 : a.eval (.tmp 5) = .slice none 0 0) (e6 : a.eval (.tmp 6) = .slice none 0 0)  (hK : ∀ a' w', a'.tmps.size = 369 → a'.defers = [] → a'.eval (.tmp 0) = .slice oa n oc → a'.eval (.tmp 1) = .slice la m lc → a'.eval (.tmp 5) = .slice none 0 0 → a'.eval (.tmp 6) = .slice none 0 0 → a'.eval (.tmp 7) = .slice none 0 0 → a'.eval (.tmp 8) = .slice none 0 0 → a'.eval (.tmp 9) = ptr w.heap.size → w' = w.alloc (.cells #[.slice none 0 0] 27) → K a' w') : (atc Try.f3.body [1, 1, 1, 1, 1, 0]).wp Try.prog (Exit.then K Q) a w := by
  obtain ⟨c, rfl, hc⟩ := expand hs hd
  have x0 : c 0 = .slice oa n oc := (hc 0 (by omega)).trans e0
  have x1 : c 1 = .slice la m lc := (hc 1 (by omega)).trans e1
  have x5 : c 5 = .slice none 0 0 := (hc 5 (by omega)).trans e5
  have x6 : c 6 = .slice none 0 0 := (hc 6 (by omega)).trans e6
  clear hc hs hd e0 e1 e5 e6
  conv => arg 2; whnf
  unfold litOf
  simp only [x0, x1, x5, x6]
  clear x0 x1 x5 x6
  go_wp2
  exact hK _ _ rfl rfl rfl rfl rfl rfl rfl rfl rfl rfl
set_option maxRecDepth 100000 in
set_option maxHeartbeats 4000000 in
theorem p8 {oa la : Option Addr} {n oc m lc : Nat} {z : Nat} (hs : a.tmps.size = 369) (hd : a.defers = []) (e0 : a.eval (.tmp 0) = .slice oa n oc) (e1 : a.eval (.tmp 1) = .slice la m lc) (e5 : a.eval (.tmp 5) = .slice none 0 0) (e6 : a.eval (.tmp 6) = .slice none 0 0) (e7 : a.eval (.tmp 7) = .slice none 0 0) (e8 : a.eval (.tmp 8) = .slice none 0 0) (e9 : a.eval (.tmp 9) = ptr z)  (hK : ∀ a', a'.tmps.size = 369 → a'.defers = [] → a'.eval (.tmp 0) = .slice oa n oc → a'.eval (.tmp 1) = .slice la m lc → a'.eval (.tmp 5) = .slice none 0 0 → a'.eval (.tmp 6) = .slice none 0 0 → a'.eval (.tmp 7) = .slice none 0 0 → a'.eval (.tmp 8) = .slice none 0 0 → a'.eval (.tmp 9) = ptr z → a'.eval (.tmp 10) = .slice none 0 0 → a'.eval (.tmp 11) = .slice none 0 0 → a'.eval (.tmp 12) = .slice none 0 0 → K a' w) : (atc Try.f3.body [1, 1, 1, 1, 1, 1, 0]).wp Try.prog (Exit.then K Q) a w := by
  obtain ⟨c, rfl, hc⟩ := expand hs hd
  have x0 : c 0 = .slice oa n oc := (hc 0 (by omega)).trans e0
  have x1 : c 1 = .slice la m lc := (hc 1 (by omega)).trans e1
  have x5 : c 5 = .slice none 0 0 := (hc 5 (by omega)).trans e5
  have x6 : c 6 = .slice none 0 0 := (hc 6 (by omega)).trans e6
  have x7 : c 7 = .slice none 0 0 := (hc 7 (by omega)).trans e7
  have x8 : c 8 = .slice none 0 0 := (hc 8 (by omega)).trans e8
  have x9 : c 9 = ptr z := (hc 9 (by omega)).trans e9
  clear hc hs hd e0 e1 e5 e6 e7 e8 e9
  conv => arg 2; whnf
  unfold litOf
  simp only [x0, x1, x5, x6, x7, x8, x9]
  clear x0 x1 x5 x6 x7 x8 x9
  go_wp2
  exact hK _ rfl rfl rfl rfl rfl rfl rfl rfl rfl rfl rfl rfl
set_option maxRecDepth 100000 in
set_option maxHeartbeats 4000000 in
theorem p9 {oa la : Option Addr} {n oc m lc : Nat} {z : Nat} (hs : a.tmps.size = 369) (hd : a.defers = []) (e0 : a.eval (.tmp 0) = .slice oa n oc) (e1 : a.eval (.tmp 1) = .slice la m lc) (e5 : a.eval (.tmp 5) = .slice none 0 0) (e6 : a.eval (.tmp 6) = .slice none 0 0) (e7 : a.eval (.tmp 7) = .slice none 0 0) (e8 : a.eval (.tmp 8) = .slice none 0 0) (e9 : a.eval (.tmp 9) = ptr z) (e10 : a.eval (.tmp 10) = .slice none 0 0) (e11 : a.eval (.tmp 11) = .slice none 0 0) (e12 : a.eval (.tmp 12) = .slice none 0 0)  (hK : ∀ a', a'.tmps.size = 369 → a'.defers = [] → a'.eval (.tmp 0) = .slice oa n oc → a'.eval (.tmp 1) = .slice la m lc → a'.eval (.tmp 5) = .slice none 0 0 → a'.eval (.tmp 6) = .slice none 0 0 → a'.eval (.tmp 7) = .slice none 0 0 → a'.eval (.tmp 8) = .slice none 0 0 → a'.eval (.tmp 9) = ptr z → a'.eval (.tmp 10) = .slice none 0 0 → a'.eval (.tmp 11) = .slice none 0 0 → a'.eval (.tmp 12) = .slice none 0 0 → a'.eval (.tmp 13) = .int .i64 0 → K a' w) : (atc Try.f3.body [1, 1, 1, 1, 1, 1, 1, 0, 0]).wp Try.prog (Exit.then K Q) a w := by
  obtain ⟨c, rfl, hc⟩ := expand hs hd
  have x0 : c 0 = .slice oa n oc := (hc 0 (by omega)).trans e0
  have x1 : c 1 = .slice la m lc := (hc 1 (by omega)).trans e1
  have x5 : c 5 = .slice none 0 0 := (hc 5 (by omega)).trans e5
  have x6 : c 6 = .slice none 0 0 := (hc 6 (by omega)).trans e6
  have x7 : c 7 = .slice none 0 0 := (hc 7 (by omega)).trans e7
  have x8 : c 8 = .slice none 0 0 := (hc 8 (by omega)).trans e8
  have x9 : c 9 = ptr z := (hc 9 (by omega)).trans e9
  have x10 : c 10 = .slice none 0 0 := (hc 10 (by omega)).trans e10
  have x11 : c 11 = .slice none 0 0 := (hc 11 (by omega)).trans e11
  have x12 : c 12 = .slice none 0 0 := (hc 12 (by omega)).trans e12
  clear hc hs hd e0 e1 e5 e6 e7 e8 e9 e10 e11 e12
  conv => arg 2; whnf
  unfold litOf
  simp only [x0, x1, x5, x6, x7, x8, x9, x10, x11, x12]
  clear x0 x1 x5 x6 x7 x8 x9 x10 x11 x12
  go_wp2
  exact hK _ rfl rfl rfl rfl rfl rfl rfl rfl rfl rfl rfl rfl rfl
set_option maxRecDepth 100000 in
set_option maxHeartbeats 4000000 in
theorem p18 {oa la : Option Addr} {n oc m lc : Nat} {z : Nat} {v5 v6 v7 v8 v10 v11 v12 : Value} (hs : a.tmps.size = 369) (hd : a.defers = []) (e0 : a.eval (.tmp 0) = .slice oa n oc) (e1 : a.eval (.tmp 1) = .slice la m lc) (e5 : a.eval (.tmp 5) = v5) (e6 : a.eval (.tmp 6) = v6) (e7 : a.eval (.tmp 7) = v7) (e8 : a.eval (.tmp 8) = v8) (e9 : a.eval (.tmp 9) = ptr z) (e10 : a.eval (.tmp 10) = v10) (e11 : a.eval (.tmp 11) = v11) (e12 : a.eval (.tmp 12) = v12) (hn : 1 ≤ n) (hn2 : n ≤ 30) (hK : ∀ a' w', a'.tmps.size = 369 → a'.defers = [] → a'.eval (.tmp 0) = .slice oa n oc → a'.eval (.tmp 1) = .slice la m lc → a'.eval (.tmp 5) = v5 → a'.eval (.tmp 6) = v6 → a'.eval (.tmp 7) = v7 → a'.eval (.tmp 8) = v8 → a'.eval (.tmp 9) = ptr z → a'.eval (.tmp 10) = v10 → a'.eval (.tmp 11) = v11 → a'.eval (.tmp 12) = v12 → a'.eval (.tmp 17) = .pointer (some ⟨w.heap.size + 2, 0, none⟩) → a'.eval (.tmp 18) = .int .i64 0 → Tbl w.heap.size n (.func (.func 10) #[] #[ptr z]) w w' n → K a' w') : (atc Try.f3.body [1, 1, 1, 1, 1, 1, 1, 1, 0]).wp Try.prog (Exit.then K Q) a w := by
  obtain ⟨c, rfl, hc⟩ := expand hs hd
  have x0 : c 0 = .slice oa n oc := (hc 0 (by omega)).trans e0
  have x1 : c 1 = .slice la m lc := (hc 1 (by omega)).trans e1
  have x5 : c 5 = v5 := (hc 5 (by omega)).trans e5
  have x6 : c 6 = v6 := (hc 6 (by omega)).trans e6
  have x7 : c 7 = v7 := (hc 7 (by omega)).trans e7
  have x8 : c 8 = v8 := (hc 8 (by omega)).trans e8
  have x9 : c 9 = ptr z := (hc 9 (by omega)).trans e9
  have x10 : c 10 = v10 := (hc 10 (by omega)).trans e10
  have x11 : c 11 = v11 := (hc 11 (by omega)).trans e11
  have x12 : c 12 = v12 := (hc 12 (by omega)).trans e12
  clear hc hs hd e0 e1 e5 e6 e7 e8 e9 e10 e11 e12
  conv => arg 2; whnf
  unfold litOf
  simp only [x0, x1, x5, x6, x7, x8, x9, x10, x11, x12]
  clear x0 x1 x5 x6 x7 x8 x9 x10 x11 x12
  have hmf : ∀ (fn : Fn) (first cap : Array Value) (w : World), (Instr.makeFunc fn first cap).run Try.prog w = .ok (.func fn first cap) w := fun _ _ _ _ => rfl
  go_wp2_with (go_at_call 9; refine (cNewTable _ n (.func 10) #[] #[ptr z] (by omega) (by omega)).mono ?_; rintro e' wB ⟨rfl, hT⟩)
  exact hK _ _ rfl rfl rfl rfl rfl rfl rfl rfl rfl rfl rfl rfl rfl rfl hT
set_option maxRecDepth 100000 in
set_option maxHeartbeats 4000000 in
theorem p19 {oa la : Option Addr} {n oc m lc : Nat} {z : Nat} {v5 v6 v7 v8 v10 v11 v12 : Value} {T : Nat} (hs : a.tmps.size = 369) (hd : a.defers = []) (e0 : a.eval (.tmp 0) = .slice oa n oc) (e1 : a.eval (.tmp 1) = .slice la m lc) (e5 : a.eval (.tmp 5) = v5) (e6 : a.eval (.tmp 6) = v6) (e7 : a.eval (.tmp 7) = v7) (e8 : a.eval (.tmp 8) = v8) (e9 : a.eval (.tmp 9) = ptr z) (e10 : a.eval (.tmp 10) = v10) (e11 : a.eval (.tmp 11) = v11) (e12 : a.eval (.tmp 12) = v12) (e17 : a.eval (.tmp 17) = .pointer (some ⟨T, 0, none⟩)) (e18 : a.eval (.tmp 18) = .int .i64 0)  (hK : ∀ a', a'.tmps.size = 369 → a'.defers = [] → a'.eval (.tmp 0) = .slice oa n oc → a'.eval (.tmp 1) = .slice la m lc → a'.eval (.tmp 5) = v5 → a'.eval (.tmp 6) = v6 → a'.eval (.tmp 7) = v7 → a'.eval (.tmp 8) = v8 → a'.eval (.tmp 9) = ptr z → a'.eval (.tmp 10) = v10 → a'.eval (.tmp 11) = v11 → a'.eval (.tmp 12) = v12 → a'.eval (.tmp 17) = .pointer (some ⟨T, 0, none⟩) → K a' w) : (atc Try.f3.body [1, 1, 1, 1, 1, 1, 1, 1, 1, 0]).wp Try.prog (Exit.then K Q) a w := by
  obtain ⟨c, rfl, hc⟩ := expand hs hd
  have x0 : c 0 = .slice oa n oc := (hc 0 (by omega)).trans e0
  have x1 : c 1 = .slice la m lc := (hc 1 (by omega)).trans e1
  have x5 : c 5 = v5 := (hc 5 (by omega)).trans e5
  have x6 : c 6 = v6 := (hc 6 (by omega)).trans e6
  have x7 : c 7 = v7 := (hc 7 (by omega)).trans e7
  have x8 : c 8 = v8 := (hc 8 (by omega)).trans e8
  have x9 : c 9 = ptr z := (hc 9 (by omega)).trans e9
  have x10 : c 10 = v10 := (hc 10 (by omega)).trans e10
  have x11 : c 11 = v11 := (hc 11 (by omega)).trans e11
  have x12 : c 12 = v12 := (hc 12 (by omega)).trans e12
  have x17 : c 17 = .pointer (some ⟨T, 0, none⟩) := (hc 17 (by omega)).trans e17
  have x18 : c 18 = .int .i64 0 := (hc 18 (by omega)).trans e18
  clear hc hs hd e0 e1 e5 e6 e7 e8 e9 e10 e11 e12 e17 e18
  conv => arg 2; whnf
  unfold litOf
  simp only [x0, x1, x5, x6, x7, x8, x9, x10, x11, x12, x17, x18]
  clear x0 x1 x5 x6 x7 x8 x9 x10 x11 x12 x17 x18
  go_wp2
  exact hK _ rfl rfl rfl rfl rfl rfl rfl rfl rfl rfl rfl rfl rfl
set_option maxRecDepth 100000 in
set_option maxHeartbeats 4000000 in
theorem p21 {oa la : Option Addr} {n oc m lc : Nat} {z : Nat} {v5 v6 v7 v8 v10 v11 v12 : Value} {T : Nat} (hs : a.tmps.size = 369) (hd : a.defers = []) (e0 : a.eval (.tmp 0) = .slice oa n oc) (e1 : a.eval (.tmp 1) = .slice la m lc) (e5 : a.eval (.tmp 5) = v5) (e6 : a.eval (.tmp 6) = v6) (e7 : a.eval (.tmp 7) = v7) (e8 : a.eval (.tmp 8) = v8) (e9 : a.eval (.tmp 9) = ptr z) (e10 : a.eval (.tmp 10) = v10) (e11 : a.eval (.tmp 11) = v11) (e12 : a.eval (.tmp 12) = v12) (e17 : a.eval (.tmp 17) = .pointer (some ⟨T, 0, none⟩))  (hK : ∀ a', a'.tmps.size = 369 → a'.defers = [] → a'.eval (.tmp 0) = .slice oa n oc → a'.eval (.tmp 1) = .slice la m lc → a'.eval (.tmp 5) = v5 → a'.eval (.tmp 6) = v6 → a'.eval (.tmp 7) = v7 → a'.eval (.tmp 8) = v8 → a'.eval (.tmp 9) = ptr z → a'.eval (.tmp 10) = v10 → a'.eval (.tmp 11) = v11 → a'.eval (.tmp 12) = v12 → a'.eval (.tmp 17) = .pointer (some ⟨T, 0, none⟩) → a'.eval (.tmp 19) = .int .i64 0 → K a' w) : (atc Try.f3.body [1, 1, 1, 1, 1, 1, 1, 1, 1, 1, 0, 0]).wp Try.prog (Exit.then K Q) a w := by
  obtain ⟨c, rfl, hc⟩ := expand hs hd
  have x0 : c 0 = .slice oa n oc := (hc 0 (by omega)).trans e0
  have x1 : c 1 = .slice la m lc := (hc 1 (by omega)).trans e1
  have x5 : c 5 = v5 := (hc 5 (by omega)).trans e5
  have x6 : c 6 = v6 := (hc 6 (by omega)).trans e6
  have x7 : c 7 = v7 := (hc 7 (by omega)).trans e7
  have x8 : c 8 = v8 := (hc 8 (by omega)).trans e8
  have x9 : c 9 = ptr z := (hc 9 (by omega)).trans e9
  have x10 : c 10 = v10 := (hc 10 (by omega)).trans e10
  have x11 : c 11 = v11 := (hc 11 (by omega)).trans e11
  have x12 : c 12 = v12 := (hc 12 (by omega)).trans e12
  have x17 : c 17 = .pointer (some ⟨T, 0, none⟩) := (hc 17 (by omega)).trans e17
  clear hc hs hd e0 e1 e5 e6 e7 e8 e9 e10 e11 e12 e17
  conv => arg 2; whnf
  unfold litOf
  simp only [x0, x1, x5, x6, x7, x8, x9, x10, x11, x12, x17]
  clear x0 x1 x5 x6 x7 x8 x9 x10 x11 x12 x17
  go_wp2
  exact hK _ rfl rfl rfl rfl rfl rfl rfl rfl rfl rfl rfl rfl rfl rfl
set_option maxRecDepth 100000 in
set_option maxHeartbeats 4000000 in
theorem p43 {oa : Option Addr} {n oc T : Nat} {v12 : Value} {g : Nat} (hs : a.tmps.size = 369) (hd : a.defers = []) (e0 : a.eval (.tmp 0) = .slice oa n oc) (e12 : a.eval (.tmp 12) = v12) (e17 : a.eval (.tmp 17) = .pointer (some ⟨T, 0, none⟩)) (ht : w.heap[T]? = some (.cells #[.slice (some ⟨g, 0, none⟩) n n] 95 (0, 0))) (hK : ∀ a', a'.tmps.size = 369 → a'.defers = [] → a'.eval (.tmp 0) = .slice oa n oc → a'.eval (.tmp 12) = v12 → a'.eval (.tmp 17) = .pointer (some ⟨T, 0, none⟩) → a'.eval (.tmp 26) = .int .i64 71 → K a' w) : (atc Try.f3.body [1, 1, 1, 1, 1, 1, 1, 1, 1, 1, 1, 0]).wp Try.prog (Exit.then K Q) a w := by
  obtain ⟨c, rfl, hc⟩ := expand hs hd
  have x0 : c 0 = .slice oa n oc := (hc 0 (by omega)).trans e0
  have x12 : c 12 = v12 := (hc 12 (by omega)).trans e12
  have x17 : c 17 = .pointer (some ⟨T, 0, none⟩) := (hc 17 (by omega)).trans e17
  clear hc hs hd e0 e12 e17
  conv => arg 2; whnf
  unfold litOf
  simp only [x0, x12, x17]
  clear x0 x12 x17
  go_wp2_with (go_at_call 14; refine (cTBad w ht (.inr (by omega))).mono ?_; rintro e' w' ⟨rfl, rfl⟩)
  exact hK _ rfl rfl rfl rfl rfl rfl
set_option maxRecDepth 100000 in
set_option maxHeartbeats 4000000 in
theorem p44 {oa : Option Addr} {n oc T : Nat} {v12 : Value} {g : Nat} (hs : a.tmps.size = 369) (hd : a.defers = []) (e0 : a.eval (.tmp 0) = .slice oa n oc) (e12 : a.eval (.tmp 12) = v12) (e17 : a.eval (.tmp 17) = .pointer (some ⟨T, 0, none⟩)) (e26 : a.eval (.tmp 26) = .int .i64 71) (ht : w.heap[T]? = some (.cells #[.slice (some ⟨g, 0, none⟩) n n] 95 (0, 0))) (hK : ∀ a', a'.tmps.size = 369 → a'.defers = [] → a'.eval (.tmp 0) = .slice oa n oc → a'.eval (.tmp 12) = v12 → a'.eval (.tmp 17) = .pointer (some ⟨T, 0, none⟩) → a'.eval (.tmp 26) = .int .i64 71 → a'.eval (.tmp 28) = .int .i64 71 → K a' w) : (atc Try.f3.body [1, 1, 1, 1, 1, 1, 1, 1, 1, 1, 1, 1, 0]).wp Try.prog (Exit.then K Q) a w := by
  obtain ⟨c, rfl, hc⟩ := expand hs hd
  have x0 : c 0 = .slice oa n oc := (hc 0 (by omega)).trans e0
  have x12 : c 12 = v12 := (hc 12 (by omega)).trans e12
  have x17 : c 17 = .pointer (some ⟨T, 0, none⟩) := (hc 17 (by omega)).trans e17
  have x26 : c 26 = .int .i64 71 := (hc 26 (by omega)).trans e26
  clear hc hs hd e0 e12 e17 e26
  conv => arg 2; whnf
  unfold litOf
  simp only [x0, x12, x17, x26]
  clear x0 x12 x17 x26
  go_wp2_with (go_at_call 14; refine (cTBad w ht (.inl (by omega))).mono ?_; rintro e' w' ⟨rfl, rfl⟩)
  exact hK _ rfl rfl rfl rfl rfl rfl rfl
set_option maxRecDepth 100000 in
set_option maxHeartbeats 4000000 in
theorem p45 {oa : Option Addr} {n oc T : Nat} {v12 : Value} {R : Value → World → Prop} (hs : a.tmps.size = 369) (hd : a.defers = []) (e0 : a.eval (.tmp 0) = .slice oa n oc) (e12 : a.eval (.tmp 12) = v12) (e17 : a.eval (.tmp 17) = .pointer (some ⟨T, 0, none⟩)) (e26 : a.eval (.tmp 26) = .int .i64 71) (e28 : a.eval (.tmp 28) = .int .i64 71) (hc2 : Calls Try.prog 17 #[.pointer (some ⟨T, 0, none⟩), .pointer none] w fun e w' => ∃ v, e = .returned v ∧ R v w') (hK : ∀ a' w' v, a'.tmps.size = 369 → a'.defers = [] → a'.eval (.tmp 12) = v12 → a'.eval (.tmp 26) = .int .i64 71 → a'.eval (.tmp 28) = .int .i64 71 → a'.eval (.tmp 29) = v → R v w' → K a' w') : (atc Try.f3.body [1, 1, 1, 1, 1, 1, 1, 1, 1, 1, 1, 1, 1, 0]).wp Try.prog (Exit.then K Q) a w := by
  obtain ⟨c, rfl, hc⟩ := expand hs hd
  have x0 : c 0 = .slice oa n oc := (hc 0 (by omega)).trans e0
  have x12 : c 12 = v12 := (hc 12 (by omega)).trans e12
  have x17 : c 17 = .pointer (some ⟨T, 0, none⟩) := (hc 17 (by omega)).trans e17
  have x26 : c 26 = .int .i64 71 := (hc 26 (by omega)).trans e26
  have x28 : c 28 = .int .i64 71 := (hc 28 (by omega)).trans e28
  clear hc hs hd e0 e12 e17 e26 e28
  conv => arg 2; whnf
  unfold litOf
  simp only [x0, x12, x17, x26, x28]
  clear x0 x12 x17 x26 x28
  go_wp2_with (go_at_call 17; refine hc2.mono ?_; rintro e' w' ⟨v, rfl, hR⟩)
  exact hK _ _ _ rfl rfl rfl rfl rfl rfl hR
set_option maxRecDepth 100000 in
set_option maxHeartbeats 4000000 in
theorem p46 {v12 v29 : Value} (hs : a.tmps.size = 369) (hd : a.defers = []) (e12 : a.eval (.tmp 12) = v12) (e26 : a.eval (.tmp 26) = .int .i64 71) (e28 : a.eval (.tmp 28) = .int .i64 71) (e29 : a.eval (.tmp 29) = v29)  (hK : ∀ a', a'.tmps.size = 369 → a'.defers = [] → a'.eval (.tmp 12) = v12 → a'.eval (.tmp 26) = .int .i64 71 → a'.eval (.tmp 28) = .int .i64 71 → a'.eval (.tmp 29) = v29 → a'.eval (.tmp 30) = .int .i64 0 → K a' w) : (atc Try.f3.body [1, 1, 1, 1, 1, 1, 1, 1, 1, 1, 1, 1, 1, 1, 0]).wp Try.prog (Exit.then K Q) a w := by
  obtain ⟨c, rfl, hc⟩ := expand hs hd
  have x12 : c 12 = v12 := (hc 12 (by omega)).trans e12
  have x26 : c 26 = .int .i64 71 := (hc 26 (by omega)).trans e26
  have x28 : c 28 = .int .i64 71 := (hc 28 (by omega)).trans e28
  have x29 : c 29 = v29 := (hc 29 (by omega)).trans e29
  clear hc hs hd e12 e26 e28 e29
  conv => arg 2; whnf
  unfold litOf
  simp only [x12, x26, x28, x29]
  clear x12 x26 x28 x29
  go_wp2
  exact hK _ rfl rfl rfl rfl rfl rfl rfl
set_option maxRecDepth 100000 in
set_option maxHeartbeats 4000000 in
theorem p47 {v12 v29 : Value} (hs : a.tmps.size = 369) (hd : a.defers = []) (e12 : a.eval (.tmp 12) = v12) (e26 : a.eval (.tmp 26) = .int .i64 71) (e28 : a.eval (.tmp 28) = .int .i64 71) (e29 : a.eval (.tmp 29) = v29) (e30 : a.eval (.tmp 30) = .int .i64 0)  (hK : ∀ a', a'.tmps.size = 369 → a'.defers = [] → a'.eval (.tmp 12) = v12 → a'.eval (.tmp 26) = .int .i64 71 → a'.eval (.tmp 28) = .int .i64 71 → a'.eval (.tmp 29) = v29 → a'.eval (.tmp 30) = .int .i64 0 → a'.eval (.tmp 31) = .int .i64 0 → K a' w) : (atc Try.f3.body [1, 1, 1, 1, 1, 1, 1, 1, 1, 1, 1, 1, 1, 1, 1, 0, 0]).wp Try.prog (Exit.then K Q) a w := by
  obtain ⟨c, rfl, hc⟩ := expand hs hd
  have x12 : c 12 = v12 := (hc 12 (by omega)).trans e12
  have x26 : c 26 = .int .i64 71 := (hc 26 (by omega)).trans e26
  have x28 : c 28 = .int .i64 71 := (hc 28 (by omega)).trans e28
  have x29 : c 29 = v29 := (hc 29 (by omega)).trans e29
  have x30 : c 30 = .int .i64 0 := (hc 30 (by omega)).trans e30
  clear hc hs hd e12 e26 e28 e29 e30
  conv => arg 2; whnf
  unfold litOf
  simp only [x12, x26, x28, x29, x30]
  clear x12 x26 x28 x29 x30
  go_wp2
  exact hK _ rfl rfl rfl rfl rfl rfl rfl rfl
set_option maxRecDepth 100000 in
set_option maxHeartbeats 4000000 in
theorem c48lt {ga gl gc : Nat} {ao : Option Addr} {ln cap kk i : Nat} (hs : a.tmps.size = 369) (hd : a.defers = []) (e12 : a.eval (.tmp 12) = .slice (some ⟨ga, 0, none⟩) gl gc) (e26 : a.eval (.tmp 26) = .int .i64 71) (e28 : a.eval (.tmp 28) = .int .i64 71) (e29 : a.eval (.tmp 29) = .slice ao ln cap) (e30 : a.eval (.tmp 30) = .int .i64 kk) (e31 : a.eval (.tmp 31) = .int .i64 i) (hi : i < gl) (hK : ∀ a', a'.tmps.size = 369 → a'.defers = [] → a'.eval (.tmp 12) = .slice (some ⟨ga, 0, none⟩) gl gc → a'.eval (.tmp 26) = .int .i64 71 → a'.eval (.tmp 28) = .int .i64 71 → a'.eval (.tmp 29) = .slice ao ln cap → a'.eval (.tmp 30) = .int .i64 kk → a'.eval (.tmp 31) = .int .i64 i → K a' w) : (atc Try.f3.body [1, 1, 1, 1, 1, 1, 1, 1, 1, 1, 1, 1, 1, 1, 1, 0, 1, 0, 0, 0]).wp Try.prog (Exit.then K Q) a w := by
  obtain ⟨c, rfl, hc⟩ := expand hs hd
  have x12 : c 12 = .slice (some ⟨ga, 0, none⟩) gl gc := (hc 12 (by omega)).trans e12
  have x26 : c 26 = .int .i64 71 := (hc 26 (by omega)).trans e26
  have x28 : c 28 = .int .i64 71 := (hc 28 (by omega)).trans e28
  have x29 : c 29 = .slice ao ln cap := (hc 29 (by omega)).trans e29
  have x30 : c 30 = .int .i64 kk := (hc 30 (by omega)).trans e30
  have x31 : c 31 = .int .i64 i := (hc 31 (by omega)).trans e31
  clear hc hs hd e12 e26 e28 e29 e30 e31
  conv => arg 2; whnf
  unfold litOf
  simp only [x12, x26, x28, x29, x30, x31]
  clear x12 x26 x28 x29 x30 x31
  go_wp2
  exact hK _ rfl rfl rfl rfl rfl rfl rfl rfl
set_option maxRecDepth 100000 in
set_option maxHeartbeats 4000000 in
theorem c48ge {ga gl gc : Nat} {ao : Option Addr} {ln cap kk i : Nat} (hs : a.tmps.size = 369) (hd : a.defers = []) (e12 : a.eval (.tmp 12) = .slice (some ⟨ga, 0, none⟩) gl gc) (e26 : a.eval (.tmp 26) = .int .i64 71) (e28 : a.eval (.tmp 28) = .int .i64 71) (e29 : a.eval (.tmp 29) = .slice ao ln cap) (e30 : a.eval (.tmp 30) = .int .i64 kk) (e31 : a.eval (.tmp 31) = .int .i64 i) (hi : ¬ i < gl) (hQ : ∀ a', a'.tmps.size = 369 → a'.defers = [] → a'.eval (.tmp 12) = .slice (some ⟨ga, 0, none⟩) gl gc → a'.eval (.tmp 26) = .int .i64 71 → a'.eval (.tmp 28) = .int .i64 71 → a'.eval (.tmp 29) = .slice ao ln cap → a'.eval (.tmp 30) = .int .i64 kk → a'.eval (.tmp 31) = .int .i64 i → Q (.exit 5) a' w) : (atc Try.f3.body [1, 1, 1, 1, 1, 1, 1, 1, 1, 1, 1, 1, 1, 1, 1, 0, 1, 0, 0, 0]).wp Try.prog (Exit.then K Q) a w := by
  obtain ⟨c, rfl, hc⟩ := expand hs hd
  have x12 : c 12 = .slice (some ⟨ga, 0, none⟩) gl gc := (hc 12 (by omega)).trans e12
  have x26 : c 26 = .int .i64 71 := (hc 26 (by omega)).trans e26
  have x28 : c 28 = .int .i64 71 := (hc 28 (by omega)).trans e28
  have x29 : c 29 = .slice ao ln cap := (hc 29 (by omega)).trans e29
  have x30 : c 30 = .int .i64 kk := (hc 30 (by omega)).trans e30
  have x31 : c 31 = .int .i64 i := (hc 31 (by omega)).trans e31
  clear hc hs hd e12 e26 e28 e29 e30 e31
  conv => arg 2; whnf
  unfold litOf
  simp only [x12, x26, x28, x29, x30, x31]
  clear x12 x26 x28 x29 x30 x31
  have hQ1 : Hid _ := hQ
  clear hQ
  go_wp2
  exact hQ1.out _ rfl rfl rfl rfl rfl rfl rfl rfl
set_option maxRecDepth 100000 in
set_option maxHeartbeats 4000000 in
theorem c50no {ga gl gc : Nat} {ao : Option Addr} {ln cap kk i : Nat} {e : Nat} (hs : a.tmps.size = 369) (hd : a.defers = []) (e12 : a.eval (.tmp 12) = .slice (some ⟨ga, 0, none⟩) gl gc) (e26 : a.eval (.tmp 26) = .int .i64 71) (e28 : a.eval (.tmp 28) = .int .i64 71) (e29 : a.eval (.tmp 29) = .slice ao ln cap) (e30 : a.eval (.tmp 30) = .int .i64 kk) (e31 : a.eval (.tmp 31) = .int .i64 i) (hi : i < gl) (h1 : w.cell? ⟨ga, i, none⟩ = some (ptr e)) (h2 : w.cell? ⟨e, 5, none⟩ = some (.bool false)) (hK : ∀ a', a'.tmps.size = 369 → a'.defers = [] → a'.eval (.tmp 12) = .slice (some ⟨ga, 0, none⟩) gl gc → a'.eval (.tmp 26) = .int .i64 71 → a'.eval (.tmp 28) = .int .i64 71 → a'.eval (.tmp 29) = .slice ao ln cap → a'.eval (.tmp 30) = .int .i64 kk → a'.eval (.tmp 31) = .int .i64 i → K a' w) : (atc Try.f3.body [1, 1, 1, 1, 1, 1, 1, 1, 1, 1, 1, 1, 1, 1, 1, 0, 1, 0, 0, 1, 0, 0]).wp Try.prog (Exit.then K Q) a w := by
  obtain ⟨c, rfl, hc⟩ := expand hs hd
  have x12 : c 12 = .slice (some ⟨ga, 0, none⟩) gl gc := (hc 12 (by omega)).trans e12
  have x26 : c 26 = .int .i64 71 := (hc 26 (by omega)).trans e26
  have x28 : c 28 = .int .i64 71 := (hc 28 (by omega)).trans e28
  have x29 : c 29 = .slice ao ln cap := (hc 29 (by omega)).trans e29
  have x30 : c 30 = .int .i64 kk := (hc 30 (by omega)).trans e30
  have x31 : c 31 = .int .i64 i := (hc 31 (by omega)).trans e31
  clear hc hs hd e12 e26 e28 e29 e30 e31
  conv => arg 2; whnf
  unfold litOf
  simp only [x12, x26, x28, x29, x30, x31]
  clear x12 x26 x28 x29 x30 x31
  go_wp2
  exact hK _ rfl rfl rfl rfl rfl rfl rfl rfl
set_option maxRecDepth 100000 in
set_option maxHeartbeats 4000000 in
theorem c50yes {ga gl gc : Nat} {gm : Nat} {ln cap kk i : Nat} {e : Nat} (hs : a.tmps.size = 369) (hd : a.defers = []) (e12 : a.eval (.tmp 12) = .slice (some ⟨ga, 0, none⟩) gl gc) (e26 : a.eval (.tmp 26) = .int .i64 71) (e28 : a.eval (.tmp 28) = .int .i64 71) (e29 : a.eval (.tmp 29) = .slice (some ⟨gm, 0, none⟩) ln cap) (e30 : a.eval (.tmp 30) = .int .i64 kk) (e31 : a.eval (.tmp 31) = .int .i64 i) (hi : i < gl) (hk : kk < ln) (hk2 : ln ≤ 1000) (h1 : w.cell? ⟨ga, i, none⟩ = some (ptr e)) (h2 : w.cell? ⟨e, 5, none⟩ = some (.bool true)) (h3 : w.cell? ⟨gm, kk, none⟩ = some (.int .i64 i)) (hK : ∀ a', a'.tmps.size = 369 → a'.defers = [] → a'.eval (.tmp 12) = .slice (some ⟨ga, 0, none⟩) gl gc → a'.eval (.tmp 26) = .int .i64 71 → a'.eval (.tmp 28) = .int .i64 71 → a'.eval (.tmp 29) = .slice (some ⟨gm, 0, none⟩) ln cap → a'.eval (.tmp 30) = .int .i64 (kk + 1 : Nat) → a'.eval (.tmp 31) = .int .i64 i → K a' w) : (atc Try.f3.body [1, 1, 1, 1, 1, 1, 1, 1, 1, 1, 1, 1, 1, 1, 1, 0, 1, 0, 0, 1, 0, 0]).wp Try.prog (Exit.then K Q) a w := by
  obtain ⟨c, rfl, hc⟩ := expand hs hd
  have x12 : c 12 = .slice (some ⟨ga, 0, none⟩) gl gc := (hc 12 (by omega)).trans e12
  have x26 : c 26 = .int .i64 71 := (hc 26 (by omega)).trans e26
  have x28 : c 28 = .int .i64 71 := (hc 28 (by omega)).trans e28
  have x29 : c 29 = .slice (some ⟨gm, 0, none⟩) ln cap := (hc 29 (by omega)).trans e29
  have x30 : c 30 = .int .i64 kk := (hc 30 (by omega)).trans e30
  have x31 : c 31 = .int .i64 i := (hc 31 (by omega)).trans e31
  clear hc hs hd e12 e26 e28 e29 e30 e31
  conv => arg 2; whnf
  unfold litOf
  simp only [x12, x26, x28, x29, x30, x31]
  clear x12 x26 x28 x29 x30 x31
  go_wp2
  exact hK _ rfl rfl rfl rfl rfl rfl rfl rfl
set_option maxRecDepth 100000 in
set_option maxHeartbeats 4000000 in
theorem c49 {ga gl gc : Nat} {ao : Option Addr} {ln cap kk i : Nat} (hs : a.tmps.size = 369) (hd : a.defers = []) (e12 : a.eval (.tmp 12) = .slice (some ⟨ga, 0, none⟩) gl gc) (e26 : a.eval (.tmp 26) = .int .i64 71) (e28 : a.eval (.tmp 28) = .int .i64 71) (e29 : a.eval (.tmp 29) = .slice ao ln cap) (e30 : a.eval (.tmp 30) = .int .i64 kk) (e31 : a.eval (.tmp 31) = .int .i64 i) (hi : i ≤ 1000) (hK : ∀ a', a'.tmps.size = 369 → a'.defers = [] → a'.eval (.tmp 12) = .slice (some ⟨ga, 0, none⟩) gl gc → a'.eval (.tmp 26) = .int .i64 71 → a'.eval (.tmp 28) = .int .i64 71 → a'.eval (.tmp 29) = .slice ao ln cap → a'.eval (.tmp 30) = .int .i64 kk → a'.eval (.tmp 31) = .int .i64 (i + 1 : Nat) → K a' w) : (atc Try.f3.body [1, 1, 1, 1, 1, 1, 1, 1, 1, 1, 1, 1, 1, 1, 1, 0, 1, 0, 0, 1, 1]).wp Try.prog (Exit.then K Q) a w := by
  obtain ⟨c, rfl, hc⟩ := expand hs hd
  have x12 : c 12 = .slice (some ⟨ga, 0, none⟩) gl gc := (hc 12 (by omega)).trans e12
  have x26 : c 26 = .int .i64 71 := (hc 26 (by omega)).trans e26
  have x28 : c 28 = .int .i64 71 := (hc 28 (by omega)).trans e28
  have x29 : c 29 = .slice ao ln cap := (hc 29 (by omega)).trans e29
  have x30 : c 30 = .int .i64 kk := (hc 30 (by omega)).trans e30
  have x31 : c 31 = .int .i64 i := (hc 31 (by omega)).trans e31
  clear hc hs hd e12 e26 e28 e29 e30 e31
  conv => arg 2; whnf
  unfold litOf
  simp only [x12, x26, x28, x29, x30, x31]
  clear x12 x26 x28 x29 x30 x31
  go_wp2
  exact hK _ rfl rfl rfl rfl rfl rfl rfl rfl
set_option maxRecDepth 100000 in
set_option maxHeartbeats 4000000 in
theorem p54 {ao : Option Addr} {ln cap : Nat} (hs : a.tmps.size = 369) (hd : a.defers = []) (e26 : a.eval (.tmp 26) = .int .i64 71) (e28 : a.eval (.tmp 28) = .int .i64 71) (e29 : a.eval (.tmp 29) = .slice ao ln cap) (e30 : a.eval (.tmp 30) = .int .i64 ln)  (hK : ∀ a' w', a'.tmps.size = 369 → a'.defers = [] → a'.eval (.tmp 4) = .bool true → Below w.heap.size w w' → K a' w') : (atc Try.f3.body [1, 1, 1, 1, 1, 1, 1, 1, 1, 1, 1, 1, 1, 1, 1, 1, 0]).wp Try.prog (Exit.then K Q) a w := by
  obtain ⟨c, rfl, hc⟩ := expand hs hd
  have x26 : c 26 = .int .i64 71 := (hc 26 (by omega)).trans e26
  have x28 : c 28 = .int .i64 71 := (hc 28 (by omega)).trans e28
  have x29 : c 29 = .slice ao ln cap := (hc 29 (by omega)).trans e29
  have x30 : c 30 = .int .i64 ln := (hc 30 (by omega)).trans e30
  clear hc hs hd e26 e28 e29 e30
  conv => arg 2; whnf
  unfold litOf
  simp only [x26, x28, x29, x30]
  clear x26 x28 x29 x30
  go_wp2_with (go_at_call 18; refine (cSizes w).mono ?_; rintro e' w' ⟨rfl, hB⟩)
  exact hK _ _ rfl rfl rfl hB
end
end Go.Proofs.Ytogcjdbggihbpaa

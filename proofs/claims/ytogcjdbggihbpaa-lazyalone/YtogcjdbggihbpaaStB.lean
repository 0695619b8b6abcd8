/- The second loop's statements. -/
import Derived.Test.YtogcjdbggihbpaaStmt
import Derived.Deep.RegionHeld3
namespace Go.Proofs.Ytogcjdbggihbpaa
open Go.RowKit Go.Conc Go.MuLone
structure PB where
  mb : Nat
  mo : Nat
  k : Nat
  mc : Nat
  la : Option Addr
  m : Nat
  lc : Nat
  g0 : Nat
  g1 : Nat
  g3 : Nat
  g4 : Nat
  g5 : Nat
  g6 : Nat
  g7 : Nat
  c0 : Nat
  c1 : Nat
  c3 : Nat
  c4 : Nat
  c5 : Nat
  c6 : Nat
  c7 : Nat
  z : Nat
  N : Nat
/-- The slots that stay from the first loop on. -/
structure FB (B : PB) (a : Act) : Prop where
  size : a.tmps.size = 369
  defers : a.defers = []
  s0 : a.eval (.tmp 0) = .slice (some ⟨B.mb, B.mo, none⟩) B.k B.mc
  s1 : a.eval (.tmp 1) = .slice B.la B.m B.lc
  s5 : a.eval (.tmp 5) = .slice (some ⟨B.g3, 0, none⟩) B.k B.c3
  s6 : a.eval (.tmp 6) = .slice (some ⟨B.g4, 0, none⟩) B.k B.c4
  s7 : a.eval (.tmp 7) = .slice (some ⟨B.g0, 0, none⟩) B.k B.c0
  s8 : a.eval (.tmp 8) = .slice (some ⟨B.g1, 0, none⟩) B.k B.c1
  s9 : a.eval (.tmp 9) = ptr B.z
  s10 : a.eval (.tmp 10) = .slice (some ⟨B.g5, 0, none⟩) B.k B.c5
  s11 : a.eval (.tmp 11) = .slice (some ⟨B.g6, 0, none⟩) B.k B.c6
  s12 : a.eval (.tmp 12) = .slice (some ⟨B.g7, 0, none⟩) B.k B.c7
  s17 : a.eval (.tmp 17) = .pointer (some ⟨B.N + 2, 0, none⟩)
theorem FB.lit {B : PB} {a : Act} (h : FB B a) : ∃ c : Nat → Value, a = ⟨litOf c, []⟩ ∧ c 0 = .slice (some ⟨B.mb, B.mo, none⟩) B.k B.mc ∧ c 1 = .slice B.la B.m B.lc ∧ c 5 = .slice (some ⟨B.g3, 0, none⟩) B.k B.c3 ∧ c 6 = .slice (some ⟨B.g4, 0, none⟩) B.k B.c4 ∧ c 7 = .slice (some ⟨B.g0, 0, none⟩) B.k B.c0 ∧ c 8 = .slice (some ⟨B.g1, 0, none⟩) B.k B.c1 ∧ c 9 = ptr B.z ∧ c 10 = .slice (some ⟨B.g5, 0, none⟩) B.k B.c5 ∧ c 11 = .slice (some ⟨B.g6, 0, none⟩) B.k B.c6 ∧ c 12 = .slice (some ⟨B.g7, 0, none⟩) B.k B.c7 ∧ c 17 = .pointer (some ⟨B.N + 2, 0, none⟩) ∧ ∀ s, s < 369 → c s = a.eval (.tmp s) := by
  obtain ⟨c, hc, h2⟩ := expand h.size h.defers
  exact ⟨c, hc, (h2 0 (by omega)).trans h.s0, (h2 1 (by omega)).trans h.s1, (h2 5 (by omega)).trans h.s5, (h2 6 (by omega)).trans h.s6, (h2 7 (by omega)).trans h.s7, (h2 8 (by omega)).trans h.s8, (h2 9 (by omega)).trans h.s9, (h2 10 (by omega)).trans h.s10, (h2 11 (by omega)).trans h.s11, (h2 12 (by omega)).trans h.s12, (h2 17 (by omega)).trans h.s17, h2⟩
def pB : List Nat := [1, 1, 1, 1, 1, 1, 1, 1, 1, 1, 0, 1, 0, 0]
section
variable {B : PB} {a : Act} {w : World} {K : Act → World → Prop} {Q : Exit → Act → World → Prop}
set_option maxRecDepth 100000 in
set_option maxHeartbeats 1600000 in
theorem s24 {q lb lo : Nat} {A : Int} (F : FB B a) (e19 : a.eval (.tmp 19) = .int .i64 q) (hq : q < B.m) (hla : B.la = some ⟨lb, lo, none⟩) (hk : 1 ≤ B.k) (hk2 : B.k ≤ 30) (hf : w.cell? ⟨lb, lo + q * 5 + 1, none⟩ = some (.int .i64 A)) (hK : ∀ a', FB B a' → a'.eval (.tmp 19) = .int .i64 q → a'.eval (.tmp 20) = .int .i64 (A.tmod B.k) → K a' w) : (atc Try.f3.body (pB ++ [1, 0, 0, 0])).wp Try.prog (Exit.then K Q) a w := by
  obtain ⟨c, rfl, h0, h1, h5, h6, h7, h8, h9, h10, h11, h12, h17, hc⟩ := F.lit
  have x19 : c 19 = .int .i64 q := (hc 19 (by omega)).trans e19
  clear hc e19 F
  conv => arg 2; whnf
  unfold litOf
  simp only [h0, h1, h5, h6, h7, h8, h9, h10, h11, h12, h17, x19]
  go_wp2
  exact hK _ ⟨rfl, rfl, rfl, rfl, rfl, rfl, rfl, rfl, rfl, rfl, rfl, rfl, rfl⟩ rfl rfl
set_option maxRecDepth 100000 in
set_option maxHeartbeats 1600000 in
theorem s22lt {q : Nat} (F : FB B a) (e19 : a.eval (.tmp 19) = .int .i64 q) (hq : q < B.m) (hK : ∀ a', FB B a' → a'.eval (.tmp 19) = .int .i64 q → K a' w) : (atc Try.f3.body (pB ++ [0])).wp Try.prog (Exit.then K Q) a w := by
  obtain ⟨c, rfl, h0, h1, h5, h6, h7, h8, h9, h10, h11, h12, h17, hc⟩ := F.lit
  have x19 : c 19 = .int .i64 q := (hc 19 (by omega)).trans e19
  clear hc e19 F
  conv => arg 2; whnf
  unfold litOf
  simp only [h0, h1, h5, h6, h7, h8, h9, h10, h11, h12, h17, x19]
  go_wp2
  exact hK _ ⟨rfl, rfl, rfl, rfl, rfl, rfl, rfl, rfl, rfl, rfl, rfl, rfl, rfl⟩ rfl
set_option maxRecDepth 100000 in
set_option maxHeartbeats 1600000 in
theorem s22ge {q : Nat} (F : FB B a) (e19 : a.eval (.tmp 19) = .int .i64 q) (hq : ¬ q < B.m) (hQ : ∀ a', FB B a' → Q (.exit 2) a' w) : (atc Try.f3.body (pB ++ [0])).wp Try.prog (Exit.then K Q) a w := by
  obtain ⟨c, rfl, h0, h1, h5, h6, h7, h8, h9, h10, h11, h12, h17, hc⟩ := F.lit
  have x19 : c 19 = .int .i64 q := (hc 19 (by omega)).trans e19
  clear hc e19 F
  conv => arg 2; whnf
  unfold litOf
  simp only [h0, h1, h5, h6, h7, h8, h9, h10, h11, h12, h17, x19]
  go_wp2
  exact ⟨rfl, rfl, rfl, rfl, rfl, rfl, rfl, rfl, rfl, rfl, rfl, rfl, rfl⟩
set_option maxRecDepth 100000 in
set_option maxHeartbeats 1600000 in
theorem s25 {q j : Nat} {r : Int} (F : FB B a) (e19 : a.eval (.tmp 19) = .int .i64 q) (e20 : a.eval (.tmp 20) = .int .i64 r) (hr : (r = j ∧ ¬ r < 0) ∨ (r < 0 ∧ r + B.k = j)) (hk2 : B.k ≤ 30) (hr2 : -100 ≤ r) (hK : ∀ a', FB B a' → a'.eval (.tmp 19) = .int .i64 q → a'.eval (.tmp 20) = .int .i64 j → K a' w) : (atc Try.f3.body (pB ++ [1, 0, 0, 1, 0])).wp Try.prog (Exit.then K Q) a w := by
  obtain ⟨c, rfl, h0, h1, h5, h6, h7, h8, h9, h10, h11, h12, h17, hc⟩ := F.lit
  have x19 : c 19 = .int .i64 q := (hc 19 (by omega)).trans e19
  have x20 : c 20 = .int .i64 r := (hc 20 (by omega)).trans e20
  clear hc e19 e20 F
  conv => arg 2; whnf
  unfold litOf
  simp only [h0, h1, h5, h6, h7, h8, h9, h10, h11, h12, h17, x19, x20]
  rcases hr with ⟨h1, h2⟩ | ⟨h1, h2⟩
  · subst h1
    go_wp2
    exact hK _ ⟨rfl, rfl, rfl, rfl, rfl, rfl, rfl, rfl, rfl, rfl, rfl, rfl, rfl⟩ rfl rfl
  · have h3 : r + (B.k : Int) = j := h2
    clear h2
    go_wp2
    exact hK _ ⟨rfl, rfl, rfl, rfl, rfl, rfl, rfl, rfl, rfl, rfl, rfl, rfl, rfl⟩ rfl rfl
set_option maxRecDepth 100000 in
set_option maxHeartbeats 1600000 in
theorem s27 {q j e4 e6 : Nat} (F : FB B a) (e19 : a.eval (.tmp 19) = .int .i64 q) (e20 : a.eval (.tmp 20) = .int .i64 j) (hj : j < B.k) (r3 : w.cell? ⟨B.g3, j, none⟩ = some (ptr e4)) (r4 : w.cell? ⟨B.g4, j, none⟩ = some (ptr e6)) (hK : ∀ a', FB B a' → a'.eval (.tmp 19) = .int .i64 q → a'.eval (.tmp 20) = .int .i64 j → K a' w) : (atc Try.f3.body (pB ++ [1, 0, 0, 1, 1, 0])).wp Try.prog (Exit.then K Q) a w := by
  obtain ⟨c, rfl, h0, h1, h5, h6, h7, h8, h9, h10, h11, h12, h17, hc⟩ := F.lit
  have x19 : c 19 = .int .i64 q := (hc 19 (by omega)).trans e19
  have x20 : c 20 = .int .i64 j := (hc 20 (by omega)).trans e20
  clear hc e19 e20 F
  conv => arg 2; whnf
  unfold litOf
  simp only [h0, h1, h5, h6, h7, h8, h9, h10, h11, h12, h17, x19, x20]
  go_wp2
  exact hK _ ⟨rfl, rfl, rfl, rfl, rfl, rfl, rfl, rfl, rfl, rfl, rfl, rfl, rfl⟩ rfl rfl
set_option maxRecDepth 100000 in
set_option maxHeartbeats 1600000 in
theorem s29 {q j : Nat} (F : FB B a) (e19 : a.eval (.tmp 19) = .int .i64 q) (e20 : a.eval (.tmp 20) = .int .i64 j)  (hK : ∀ a', FB B a' → a'.eval (.tmp 19) = .int .i64 q → a'.eval (.tmp 20) = .int .i64 j → a'.eval (.tmp 21) = .int .i64 0 → a'.eval (.tmp 22) = .int .i64 0 → K a' w) : (atc Try.f3.body (pB ++ [1, 0, 0, 1, 1, 1, 0])).wp Try.prog (Exit.then K Q) a w := by
  obtain ⟨c, rfl, h0, h1, h5, h6, h7, h8, h9, h10, h11, h12, h17, hc⟩ := F.lit
  have x19 : c 19 = .int .i64 q := (hc 19 (by omega)).trans e19
  have x20 : c 20 = .int .i64 j := (hc 20 (by omega)).trans e20
  clear hc e19 e20 F
  conv => arg 2; whnf
  unfold litOf
  simp only [h0, h1, h5, h6, h7, h8, h9, h10, h11, h12, h17, x19, x20]
  go_wp2
  exact hK _ ⟨rfl, rfl, rfl, rfl, rfl, rfl, rfl, rfl, rfl, rfl, rfl, rfl, rfl⟩ rfl rfl rfl rfl
set_option maxRecDepth 100000 in
set_option maxHeartbeats 1600000 in
theorem s30 {q j : Nat} (F : FB B a) (e19 : a.eval (.tmp 19) = .int .i64 q) (e20 : a.eval (.tmp 20) = .int .i64 j) (e21 : a.eval (.tmp 21) = .int .i64 0) (e22 : a.eval (.tmp 22) = .int .i64 0)  (hK : ∀ a', FB B a' → a'.eval (.tmp 19) = .int .i64 q → a'.eval (.tmp 20) = .int .i64 j → a'.eval (.tmp 21) = .int .i64 0 → a'.eval (.tmp 22) = .int .i64 0 → a'.eval (.tmp 23) = .int .i64 0 → a'.eval (.tmp 24) = .int .i64 0 → K a' w) : (atc Try.f3.body (pB ++ [1, 0, 0, 1, 1, 1, 1, 0])).wp Try.prog (Exit.then K Q) a w := by
  obtain ⟨c, rfl, h0, h1, h5, h6, h7, h8, h9, h10, h11, h12, h17, hc⟩ := F.lit
  have x19 : c 19 = .int .i64 q := (hc 19 (by omega)).trans e19
  have x20 : c 20 = .int .i64 j := (hc 20 (by omega)).trans e20
  have x21 : c 21 = .int .i64 0 := (hc 21 (by omega)).trans e21
  have x22 : c 22 = .int .i64 0 := (hc 22 (by omega)).trans e22
  clear hc e19 e20 e21 e22 F
  conv => arg 2; whnf
  unfold litOf
  simp only [h0, h1, h5, h6, h7, h8, h9, h10, h11, h12, h17, x19, x20, x21, x22]
  go_wp2
  exact hK _ ⟨rfl, rfl, rfl, rfl, rfl, rfl, rfl, rfl, rfl, rfl, rfl, rfl, rfl⟩ rfl rfl rfl rfl rfl rfl
set_option maxRecDepth 100000 in
set_option maxHeartbeats 1600000 in
theorem s31 {q j lb lo : Nat} {Kd : Int} (F : FB B a) (e19 : a.eval (.tmp 19) = .int .i64 q) (e20 : a.eval (.tmp 20) = .int .i64 j) (e21 : a.eval (.tmp 21) = .int .i64 0) (e22 : a.eval (.tmp 22) = .int .i64 0) (e23 : a.eval (.tmp 23) = .int .i64 0) (e24 : a.eval (.tmp 24) = .int .i64 0) (hq : q < B.m) (hla : B.la = some ⟨lb, lo, none⟩) (hf : w.cell? ⟨lb, lo + q * 5, none⟩ = some (.int .i64 Kd)) (hK : ∀ a', FB B a' → a'.eval (.tmp 19) = .int .i64 q → a'.eval (.tmp 20) = .int .i64 j → a'.eval (.tmp 21) = .int .i64 0 → a'.eval (.tmp 22) = .int .i64 0 → a'.eval (.tmp 23) = .int .i64 0 → a'.eval (.tmp 24) = .int .i64 0 → a'.eval (.tmp 171) = .int .i64 Kd → K a' w) : (atc Try.f3.body (pB ++ [1, 0, 0, 1, 1, 1, 1, 1, 0, 0])).wp Try.prog (Exit.then K Q) a w := by
  obtain ⟨c, rfl, h0, h1, h5, h6, h7, h8, h9, h10, h11, h12, h17, hc⟩ := F.lit
  have x19 : c 19 = .int .i64 q := (hc 19 (by omega)).trans e19
  have x20 : c 20 = .int .i64 j := (hc 20 (by omega)).trans e20
  have x21 : c 21 = .int .i64 0 := (hc 21 (by omega)).trans e21
  have x22 : c 22 = .int .i64 0 := (hc 22 (by omega)).trans e22
  have x23 : c 23 = .int .i64 0 := (hc 23 (by omega)).trans e23
  have x24 : c 24 = .int .i64 0 := (hc 24 (by omega)).trans e24
  clear hc e19 e20 e21 e22 e23 e24 F
  conv => arg 2; whnf
  unfold litOf
  simp only [h0, h1, h5, h6, h7, h8, h9, h10, h11, h12, h17, x19, x20, x21, x22, x23, x24]
  go_wp2
  exact hK _ ⟨rfl, rfl, rfl, rfl, rfl, rfl, rfl, rfl, rfl, rfl, rfl, rfl, rfl⟩ rfl rfl rfl rfl rfl rfl rfl
set_option maxRecDepth 100000 in
set_option maxHeartbeats 1600000 in
theorem s23 {q : Nat} (F : FB B a) (e19 : a.eval (.tmp 19) = .int .i64 q) (hq : q ≤ 500) (hK : ∀ a', FB B a' → a'.eval (.tmp 19) = .int .i64 (q + 1 : Nat) → K a' w) : (atc Try.f3.body (pB ++ [1, 1])).wp Try.prog (Exit.then K Q) a w := by
  obtain ⟨c, rfl, h0, h1, h5, h6, h7, h8, h9, h10, h11, h12, h17, hc⟩ := F.lit
  have x19 : c 19 = .int .i64 q := (hc 19 (by omega)).trans e19
  clear hc e19 F
  conv => arg 2; whnf
  unfold litOf
  simp only [h0, h1, h5, h6, h7, h8, h9, h10, h11, h12, h17, x19]
  go_wp2
  exact hK _ ⟨rfl, rfl, rfl, rfl, rfl, rfl, rfl, rfl, rfl, rfl, rfl, rfl, rfl⟩ rfl
set_option maxRecDepth 100000 in
set_option maxHeartbeats 1600000 in
theorem sw1 {q j e1 e2 : Nat} {v f : Int} {R : World → Prop} (F : FB B a) (e19 : a.eval (.tmp 19) = .int .i64 q) (e20 : a.eval (.tmp 20) = .int .i64 j) (e21 : a.eval (.tmp 21) = .int .i64 0) (e22 : a.eval (.tmp 22) = .int .i64 0) (e23 : a.eval (.tmp 23) = .int .i64 0) (e24 : a.eval (.tmp 24) = .int .i64 0) (e171 : a.eval (.tmp 171) = .int .i64 1) (hj : j < B.k) (r1 : w.cell? ⟨B.g3, j, none⟩ = some (ptr e1)) (hcall : Calls Try.prog 11 #[ptr e1, .pointer none] w fun e w' => e = .returned (.tuple #[.int .i64 v, .int .i64 f]) ∧ Hid (w'.cell? ⟨B.g5, j, none⟩ = some (ptr e2) ∧ Calls Try.prog 12 #[ptr e2] w' fun e w2 => e = .returned (.tuple #[.int .i64 v, .int .i64 f]) ∧ R w2)) (hK : ∀ a' w2, FB B a' → a'.eval (.tmp 19) = .int .i64 q → a'.eval (.tmp 20) = .int .i64 j → a'.eval (.tmp 21) = .int .i64 v → a'.eval (.tmp 22) = .int .i64 f → a'.eval (.tmp 23) = .int .i64 v → a'.eval (.tmp 24) = .int .i64 f → R w2 → K a' w2) : (atc Try.f3.body (pB ++ [1, 0, 0, 1, 1, 1, 1, 1, 0, 1])).wp Try.prog (Exit.then K Q) a w := by
  obtain ⟨c, rfl, h0, h1, h5, h6, h7, h8, h9, h10, h11, h12, h17, hc⟩ := F.lit
  have x19 : c 19 = .int .i64 q := (hc 19 (by omega)).trans e19
  have x20 : c 20 = .int .i64 j := (hc 20 (by omega)).trans e20
  have x21 : c 21 = .int .i64 0 := (hc 21 (by omega)).trans e21
  have x22 : c 22 = .int .i64 0 := (hc 22 (by omega)).trans e22
  have x23 : c 23 = .int .i64 0 := (hc 23 (by omega)).trans e23
  have x24 : c 24 = .int .i64 0 := (hc 24 (by omega)).trans e24
  have x171 : c 171 = .int .i64 1 := (hc 171 (by omega)).trans e171
  clear hc e19 e20 e21 e22 e23 e24 e171 F
  conv => arg 2; whnf
  unfold litOf
  simp only [h0, h1, h5, h6, h7, h8, h9, h10, h11, h12, h17, x19, x20, x21, x22, x23, x24, x171]
  go_wp2_with (first
    | (go_at_call 11; refine hcall.mono ?_; rintro e' w1 ⟨rfl, hP⟩; have rq := hP.out.1)
    | (go_at_call 12; refine hP.out.2.mono ?_; rintro e' w2 ⟨rfl, hR⟩))
  exact hK _ _ ⟨rfl, rfl, rfl, rfl, rfl, rfl, rfl, rfl, rfl, rfl, rfl, rfl, rfl⟩ rfl rfl rfl rfl rfl rfl hR
set_option maxRecDepth 100000 in
set_option maxHeartbeats 1600000 in
theorem sw2 {q j e1 e2 : Nat} {v f : Int} {R : World → Prop} (F : FB B a) (e19 : a.eval (.tmp 19) = .int .i64 q) (e20 : a.eval (.tmp 20) = .int .i64 j) (e21 : a.eval (.tmp 21) = .int .i64 0) (e22 : a.eval (.tmp 22) = .int .i64 0) (e23 : a.eval (.tmp 23) = .int .i64 0) (e24 : a.eval (.tmp 24) = .int .i64 0) (e171 : a.eval (.tmp 171) = .int .i64 2) (hj : j < B.k) (r1 : w.cell? ⟨B.g4, j, none⟩ = some (ptr e1)) (hcall : Calls Try.prog 13 #[ptr e1, .pointer none] w fun e w' => e = .returned (.tuple #[.int .i64 v, .int .i64 f]) ∧ Hid (w'.cell? ⟨B.g6, j, none⟩ = some (ptr e2) ∧ Calls Try.prog 12 #[ptr e2] w' fun e w2 => e = .returned (.tuple #[.int .i64 v, .int .i64 f]) ∧ R w2)) (hK : ∀ a' w2, FB B a' → a'.eval (.tmp 19) = .int .i64 q → a'.eval (.tmp 20) = .int .i64 j → a'.eval (.tmp 21) = .int .i64 v → a'.eval (.tmp 22) = .int .i64 f → a'.eval (.tmp 23) = .int .i64 v → a'.eval (.tmp 24) = .int .i64 f → R w2 → K a' w2) : (atc Try.f3.body (pB ++ [1, 0, 0, 1, 1, 1, 1, 1, 0, 1])).wp Try.prog (Exit.then K Q) a w := by
  obtain ⟨c, rfl, h0, h1, h5, h6, h7, h8, h9, h10, h11, h12, h17, hc⟩ := F.lit
  have x19 : c 19 = .int .i64 q := (hc 19 (by omega)).trans e19
  have x20 : c 20 = .int .i64 j := (hc 20 (by omega)).trans e20
  have x21 : c 21 = .int .i64 0 := (hc 21 (by omega)).trans e21
  have x22 : c 22 = .int .i64 0 := (hc 22 (by omega)).trans e22
  have x23 : c 23 = .int .i64 0 := (hc 23 (by omega)).trans e23
  have x24 : c 24 = .int .i64 0 := (hc 24 (by omega)).trans e24
  have x171 : c 171 = .int .i64 2 := (hc 171 (by omega)).trans e171
  clear hc e19 e20 e21 e22 e23 e24 e171 F
  conv => arg 2; whnf
  unfold litOf
  simp only [h0, h1, h5, h6, h7, h8, h9, h10, h11, h12, h17, x19, x20, x21, x22, x23, x24, x171]
  go_wp2_with (first
    | (go_at_call 13; refine hcall.mono ?_; rintro e' w1 ⟨rfl, hP⟩; have rq := hP.out.1)
    | (go_at_call 12; refine hP.out.2.mono ?_; rintro e' w2 ⟨rfl, hR⟩))
  exact hK _ _ ⟨rfl, rfl, rfl, rfl, rfl, rfl, rfl, rfl, rfl, rfl, rfl, rfl, rfl⟩ rfl rfl rfl rfl rfl rfl hR
set_option maxRecDepth 100000 in
set_option maxHeartbeats 1600000 in
theorem sw3 {q j e2 : Nat} {v f : Int} {R : World → Prop} (F : FB B a) (e19 : a.eval (.tmp 19) = .int .i64 q) (e20 : a.eval (.tmp 20) = .int .i64 j) (e21 : a.eval (.tmp 21) = .int .i64 0) (e22 : a.eval (.tmp 22) = .int .i64 0) (e23 : a.eval (.tmp 23) = .int .i64 0) (e24 : a.eval (.tmp 24) = .int .i64 0) (e171 : a.eval (.tmp 171) = .int .i64 3) (hj : j < B.k) (hcall : Calls Try.prog 14 #[.pointer (some ⟨B.N + 2, 0, none⟩), .pointer none, .int .i64 j] w fun e w' => e = .returned (.tuple #[.int .i64 v, .int .i64 f]) ∧ Hid (w'.cell? ⟨B.g7, j, none⟩ = some (ptr e2) ∧ Calls Try.prog 12 #[ptr e2] w' fun e w2 => e = .returned (.tuple #[.int .i64 v, .int .i64 f]) ∧ R w2)) (hK : ∀ a' w2, FB B a' → a'.eval (.tmp 19) = .int .i64 q → a'.eval (.tmp 20) = .int .i64 j → a'.eval (.tmp 21) = .int .i64 v → a'.eval (.tmp 22) = .int .i64 f → a'.eval (.tmp 23) = .int .i64 v → a'.eval (.tmp 24) = .int .i64 f → R w2 → K a' w2) : (atc Try.f3.body (pB ++ [1, 0, 0, 1, 1, 1, 1, 1, 0, 1])).wp Try.prog (Exit.then K Q) a w := by
  obtain ⟨c, rfl, h0, h1, h5, h6, h7, h8, h9, h10, h11, h12, h17, hc⟩ := F.lit
  have x19 : c 19 = .int .i64 q := (hc 19 (by omega)).trans e19
  have x20 : c 20 = .int .i64 j := (hc 20 (by omega)).trans e20
  have x21 : c 21 = .int .i64 0 := (hc 21 (by omega)).trans e21
  have x22 : c 22 = .int .i64 0 := (hc 22 (by omega)).trans e22
  have x23 : c 23 = .int .i64 0 := (hc 23 (by omega)).trans e23
  have x24 : c 24 = .int .i64 0 := (hc 24 (by omega)).trans e24
  have x171 : c 171 = .int .i64 3 := (hc 171 (by omega)).trans e171
  clear hc e19 e20 e21 e22 e23 e24 e171 F
  conv => arg 2; whnf
  unfold litOf
  simp only [h0, h1, h5, h6, h7, h8, h9, h10, h11, h12, h17, x19, x20, x21, x22, x23, x24, x171]
  go_wp2_with (first
    | (go_at_call 14; refine hcall.mono ?_; rintro e' w1 ⟨rfl, hP⟩; have rq := hP.out.1)
    | (go_at_call 12; refine hP.out.2.mono ?_; rintro e' w2 ⟨rfl, hR⟩))
  exact hK _ _ ⟨rfl, rfl, rfl, rfl, rfl, rfl, rfl, rfl, rfl, rfl, rfl, rfl, rfl⟩ rfl rfl rfl rfl rfl rfl hR
set_option maxRecDepth 100000 in
set_option maxHeartbeats 1600000 in
theorem sw0 {q j : Nat} {Kd : Int} (F : FB B a) (e19 : a.eval (.tmp 19) = .int .i64 q) (e20 : a.eval (.tmp 20) = .int .i64 j) (e21 : a.eval (.tmp 21) = .int .i64 0) (e22 : a.eval (.tmp 22) = .int .i64 0) (e23 : a.eval (.tmp 23) = .int .i64 0) (e24 : a.eval (.tmp 24) = .int .i64 0) (e171 : a.eval (.tmp 171) = .int .i64 Kd) (hk1 : ¬ Kd = 1) (hk2 : ¬ Kd = 2) (hk3 : ¬ Kd = 3) (hK : ∀ a', FB B a' → a'.eval (.tmp 19) = .int .i64 q → a'.eval (.tmp 20) = .int .i64 j → a'.eval (.tmp 21) = .int .i64 0 → a'.eval (.tmp 22) = .int .i64 0 → a'.eval (.tmp 23) = .int .i64 0 → a'.eval (.tmp 24) = .int .i64 0 → K a' w) : (atc Try.f3.body (pB ++ [1, 0, 0, 1, 1, 1, 1, 1, 0, 1])).wp Try.prog (Exit.then K Q) a w := by
  obtain ⟨c, rfl, h0, h1, h5, h6, h7, h8, h9, h10, h11, h12, h17, hc⟩ := F.lit
  have x19 : c 19 = .int .i64 q := (hc 19 (by omega)).trans e19
  have x20 : c 20 = .int .i64 j := (hc 20 (by omega)).trans e20
  have x21 : c 21 = .int .i64 0 := (hc 21 (by omega)).trans e21
  have x22 : c 22 = .int .i64 0 := (hc 22 (by omega)).trans e22
  have x23 : c 23 = .int .i64 0 := (hc 23 (by omega)).trans e23
  have x24 : c 24 = .int .i64 0 := (hc 24 (by omega)).trans e24
  have x171 : c 171 = .int .i64 Kd := (hc 171 (by omega)).trans e171
  clear hc e19 e20 e21 e22 e23 e24 e171 F
  conv => arg 2; whnf
  unfold litOf
  simp only [h0, h1, h5, h6, h7, h8, h9, h10, h11, h12, h17, x19, x20, x21, x22, x23, x24, x171]
  go_wp2
  exact hK _ ⟨rfl, rfl, rfl, rfl, rfl, rfl, rfl, rfl, rfl, rfl, rfl, rfl, rfl⟩ rfl rfl rfl rfl rfl rfl
end
end Go.Proofs.Ytogcjdbggihbpaa

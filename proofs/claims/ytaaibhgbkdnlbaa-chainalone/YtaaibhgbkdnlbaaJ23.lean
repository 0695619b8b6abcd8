/- The ways through ChainAlone: its beginning, kinds 1 and 2. (Written by tools/gen/genchl.py.) -/
import Derived.Test.YtaaibhgbkdnlbaaJ22
namespace Go.Proofs.Ytaaibhgbkdnlbaa
open Go.RowKit
def opO (kd oa od : Int) (sa : Option Addr) (sl sc : Nat) : Obj := .cells #[.int .i64 kd, .int .i64 oa, .int .i64 od, .slice sa sl sc] 45 (0, 0)
theorem op_cells {x : World} {ob : Nat} {kd oa od : Int} {sa : Option Addr} {sl sc : Nat} (h : x.heap[ob]? = some (opO kd oa od sa sl sc)) : x.cell? ⟨ob, 0, none⟩ = some (.int .i64 kd) ∧ x.cell? ⟨ob, 1, none⟩ = some (.int .i64 oa) ∧ x.cell? ⟨ob, 2, none⟩ = some (.int .i64 od) ∧ x.cell? ⟨ob, 3, none⟩ = some (.slice sa sl sc) :=
  ⟨cell_at h 0, cell_at h 1, cell_at h 2, cell_at h 3⟩
section
variable {W x : World} {n p kb c c2 used it ct i k : Nat} {now : Int} {G : Int → List Int} {L : List Ver} {N : List Nat} {ta : Option Addr} {Lc tc g rl rc ob vb qb qo : Nat} {kd oa od : Int} {sa va : Option Addr} {sl sc vl vc : Nat} {lh old nh : Int} {R : List VRow} {t : Bool} {a : Act} {K : Act → World → Prop} {Q : Exit → Act → World → Prop}
set_option maxRecDepth 100000 in
set_option maxHeartbeats 1600000 in
theorem ch_in (hs : a.tmps.size = 477) (hd : a.defers = []) (x0 : a.eval (.tmp 0) = .int .i64 n) (x1 : a.eval (.tmp 1) = .slice ta Lc tc) (x5 : a.eval (.tmp 5) = .pointer (some ⟨p, 0, none⟩)) (x7 : a.eval (.tmp 7) = .pointer (some ⟨kb, 0, none⟩)) (x9 : a.eval (.tmp 9) = .pointer (some ⟨c, 0, none⟩)) (x10 : a.eval (.tmp 10) = .pointer (some ⟨c2, 0, none⟩)) (x15 : a.eval (.tmp 15) = .slice (some ⟨g, 0, none⟩) rl rc) (x16 : a.eval (.tmp 16) = .int .i64 now) (x17 : a.eval (.tmp 17) = .int .i64 used) (x18 : a.eval (.tmp 18) = .int .i64 ct) (x19 : a.eval (.tmp 19) = .int .i64 i)
    (hi : (i : Int) < Lc)
    (hK : ∀ a', a'.tmps.size = 477 → a'.defers = [] → a'.eval (.tmp 0) = .int .i64 n → a'.eval (.tmp 1) = .slice ta Lc tc → a'.eval (.tmp 5) = .pointer (some ⟨p, 0, none⟩) → a'.eval (.tmp 7) = .pointer (some ⟨kb, 0, none⟩) → a'.eval (.tmp 9) = .pointer (some ⟨c, 0, none⟩) → a'.eval (.tmp 10) = .pointer (some ⟨c2, 0, none⟩) → a'.eval (.tmp 15) = .slice (some ⟨g, 0, none⟩) rl rc → a'.eval (.tmp 16) = .int .i64 now → a'.eval (.tmp 17) = .int .i64 used → a'.eval (.tmp 18) = .int .i64 ct → a'.eval (.tmp 19) = .int .i64 i →  K a' x) : (atc Try.f3.body [1, 1, 1, 1, 1, 1, 1, 1, 1, 1, 1, 1, 1, 1, 0, 1, 0, 0, 0]).wp Try.prog (Exit.then K Q) a x := by
  obtain ⟨cc, hcc, hce⟩ := expand477 hs hd
  have g0 := (hce 0).trans x0
  have g1 := (hce 1).trans x1
  have g5 := (hce 5).trans x5
  have g7 := (hce 7).trans x7
  have g9 := (hce 9).trans x9
  have g10 := (hce 10).trans x10
  have g15 := (hce 15).trans x15
  have g16 := (hce 16).trans x16
  have g17 := (hce 17).trans x17
  have g18 := (hce 18).trans x18
  have g19 := (hce 19).trans x19
  clear hce hs hd x0 x1 x5 x7 x9 x10 x15 x16 x17 x18 x19
  subst hcc
  conv => arg 2; whnf
  simp only [lit477, g0, g1, g5, g7, g9, g10, g15, g16, g17, g18, g19]
  clear g0 g1 g5 g7 g9 g10 g15 g16 g17 g18 g19
  have HK : Hid _ := hK
  clear hK
  go_wp2
  exact HK.out _ rfl rfl rfl rfl rfl rfl rfl rfl rfl rfl rfl rfl rfl 
set_option maxRecDepth 100000 in
set_option maxHeartbeats 1600000 in
theorem ch_out (hs : a.tmps.size = 477) (hd : a.defers = []) (x0 : a.eval (.tmp 0) = .int .i64 n) (x1 : a.eval (.tmp 1) = .slice ta Lc tc) (x5 : a.eval (.tmp 5) = .pointer (some ⟨p, 0, none⟩)) (x7 : a.eval (.tmp 7) = .pointer (some ⟨kb, 0, none⟩)) (x9 : a.eval (.tmp 9) = .pointer (some ⟨c, 0, none⟩)) (x10 : a.eval (.tmp 10) = .pointer (some ⟨c2, 0, none⟩)) (x15 : a.eval (.tmp 15) = .slice (some ⟨g, 0, none⟩) rl rc) (x16 : a.eval (.tmp 16) = .int .i64 now) (x17 : a.eval (.tmp 17) = .int .i64 used) (x18 : a.eval (.tmp 18) = .int .i64 ct) (x19 : a.eval (.tmp 19) = .int .i64 i)
    (hi : ¬ (i : Int) < Lc)
    (hQ : ∀ a', a'.tmps.size = 477 → a'.defers = [] → a'.eval (.tmp 0) = .int .i64 n → a'.eval (.tmp 1) = .slice ta Lc tc → a'.eval (.tmp 5) = .pointer (some ⟨p, 0, none⟩) → a'.eval (.tmp 7) = .pointer (some ⟨kb, 0, none⟩) → a'.eval (.tmp 9) = .pointer (some ⟨c, 0, none⟩) → a'.eval (.tmp 10) = .pointer (some ⟨c2, 0, none⟩) → a'.eval (.tmp 15) = .slice (some ⟨g, 0, none⟩) rl rc → a'.eval (.tmp 16) = .int .i64 now → a'.eval (.tmp 17) = .int .i64 used → a'.eval (.tmp 18) = .int .i64 ct → a'.eval (.tmp 19) = .int .i64 i →  Q (.exit 0) a' x) : (atc Try.f3.body [1, 1, 1, 1, 1, 1, 1, 1, 1, 1, 1, 1, 1, 1, 0, 1, 0, 0, 0]).wp Try.prog (Exit.then K Q) a x := by
  obtain ⟨cc, hcc, hce⟩ := expand477 hs hd
  have g0 := (hce 0).trans x0
  have g1 := (hce 1).trans x1
  have g5 := (hce 5).trans x5
  have g7 := (hce 7).trans x7
  have g9 := (hce 9).trans x9
  have g10 := (hce 10).trans x10
  have g15 := (hce 15).trans x15
  have g16 := (hce 16).trans x16
  have g17 := (hce 17).trans x17
  have g18 := (hce 18).trans x18
  have g19 := (hce 19).trans x19
  clear hce hs hd x0 x1 x5 x7 x9 x10 x15 x16 x17 x18 x19
  subst hcc
  conv => arg 2; whnf
  simp only [lit477, g0, g1, g5, g7, g9, g10, g15, g16, g17, g18, g19]
  clear g0 g1 g5 g7 g9 g10 g15 g16 g17 g18 g19
  have HK : Hid _ := hQ
  clear hQ
  go_wp2
  exact HK.out _ rfl rfl rfl rfl rfl rfl rfl rfl rfl rfl rfl rfl rfl 
set_option maxRecDepth 100000 in
set_option maxHeartbeats 1600000 in
theorem ch_22 (hs : a.tmps.size = 477) (hd : a.defers = []) (x0 : a.eval (.tmp 0) = .int .i64 n) (x1 : a.eval (.tmp 1) = .slice (some ⟨qb, qo, none⟩) Lc tc) (x5 : a.eval (.tmp 5) = .pointer (some ⟨p, 0, none⟩)) (x7 : a.eval (.tmp 7) = .pointer (some ⟨kb, 0, none⟩)) (x9 : a.eval (.tmp 9) = .pointer (some ⟨c, 0, none⟩)) (x10 : a.eval (.tmp 10) = .pointer (some ⟨c2, 0, none⟩)) (x15 : a.eval (.tmp 15) = .slice (some ⟨g, 0, none⟩) rl rc) (x16 : a.eval (.tmp 16) = .int .i64 now) (x17 : a.eval (.tmp 17) = .int .i64 used) (x18 : a.eval (.tmp 18) = .int .i64 ct) (x19 : a.eval (.tmp 19) = .int .i64 i)
    (hi : (i : Int) < Lc) (h0 : x.cell? ⟨qb, qo + i * 4, none⟩ = some (.int .i64 kd)) (h1 : x.cell? ⟨qb, qo + i * 4 + 1, none⟩ = some (.int .i64 oa)) (h2 : x.cell? ⟨qb, qo + i * 4 + 2, none⟩ = some (.int .i64 od)) (h3 : x.cell? ⟨qb, qo + i * 4 + 3, none⟩ = some (.slice sa sl sc))
    (hK : ∀ a' y, a'.tmps.size = 477 → a'.defers = [] → a'.eval (.tmp 0) = .int .i64 n → a'.eval (.tmp 1) = .slice (some ⟨qb, qo, none⟩) Lc tc → a'.eval (.tmp 5) = .pointer (some ⟨p, 0, none⟩) → a'.eval (.tmp 7) = .pointer (some ⟨kb, 0, none⟩) → a'.eval (.tmp 9) = .pointer (some ⟨c, 0, none⟩) → a'.eval (.tmp 10) = .pointer (some ⟨c2, 0, none⟩) → a'.eval (.tmp 15) = .slice (some ⟨g, 0, none⟩) rl rc → a'.eval (.tmp 16) = .int .i64 now → a'.eval (.tmp 17) = .int .i64 used → a'.eval (.tmp 18) = .int .i64 ct → a'.eval (.tmp 19) = .int .i64 i → a'.eval (.tmp 20) = .pointer (some ⟨x.heap.size, 0, none⟩) → y = x.alloc (opO kd oa od sa sl sc) → K a' y) : (atc Try.f3.body [1, 1, 1, 1, 1, 1, 1, 1, 1, 1, 1, 1, 1, 1, 0, 1, 0, 0, 1, 0, 0, 0]).wp Try.prog (Exit.then K Q) a x := by
  obtain ⟨cc, hcc, hce⟩ := expand477 hs hd
  have g0 := (hce 0).trans x0
  have g1 := (hce 1).trans x1
  have g5 := (hce 5).trans x5
  have g7 := (hce 7).trans x7
  have g9 := (hce 9).trans x9
  have g10 := (hce 10).trans x10
  have g15 := (hce 15).trans x15
  have g16 := (hce 16).trans x16
  have g17 := (hce 17).trans x17
  have g18 := (hce 18).trans x18
  have g19 := (hce 19).trans x19
  clear hce hs hd x0 x1 x5 x7 x9 x10 x15 x16 x17 x18 x19
  subst hcc
  conv => arg 2; whnf
  simp only [lit477, g0, g1, g5, g7, g9, g10, g15, g16, g17, g18, g19]
  clear g0 g1 g5 g7 g9 g10 g15 g16 g17 g18 g19
  have HK : Hid _ := hK
  clear hK
  go_wp2
  exact HK.out _ _ rfl rfl rfl rfl rfl rfl rfl rfl rfl rfl rfl rfl rfl rfl rfl
set_option maxRecDepth 100000 in
set_option maxHeartbeats 1600000 in
theorem ch_23 (hs : a.tmps.size = 477) (hd : a.defers = []) (x0 : a.eval (.tmp 0) = .int .i64 n) (x1 : a.eval (.tmp 1) = .slice ta Lc tc) (x5 : a.eval (.tmp 5) = .pointer (some ⟨p, 0, none⟩)) (x7 : a.eval (.tmp 7) = .pointer (some ⟨kb, 0, none⟩)) (x9 : a.eval (.tmp 9) = .pointer (some ⟨c, 0, none⟩)) (x10 : a.eval (.tmp 10) = .pointer (some ⟨c2, 0, none⟩)) (x15 : a.eval (.tmp 15) = .slice (some ⟨g, 0, none⟩) rl rc) (x16 : a.eval (.tmp 16) = .int .i64 now) (x17 : a.eval (.tmp 17) = .int .i64 used) (x18 : a.eval (.tmp 18) = .int .i64 ct) (x19 : a.eval (.tmp 19) = .int .i64 i) (x20 : a.eval (.tmp 20) = .pointer (some ⟨ob, 0, none⟩))
    (hob : x.heap[ob]? = some (opO kd oa od sa sl sc))
    (hK : ∀ a', a'.tmps.size = 477 → a'.defers = [] → a'.eval (.tmp 0) = .int .i64 n → a'.eval (.tmp 1) = .slice ta Lc tc → a'.eval (.tmp 5) = .pointer (some ⟨p, 0, none⟩) → a'.eval (.tmp 7) = .pointer (some ⟨kb, 0, none⟩) → a'.eval (.tmp 9) = .pointer (some ⟨c, 0, none⟩) → a'.eval (.tmp 10) = .pointer (some ⟨c2, 0, none⟩) → a'.eval (.tmp 15) = .slice (some ⟨g, 0, none⟩) rl rc → a'.eval (.tmp 16) = .int .i64 now → a'.eval (.tmp 17) = .int .i64 used → a'.eval (.tmp 18) = .int .i64 ct → a'.eval (.tmp 19) = .int .i64 i → a'.eval (.tmp 20) = .pointer (some ⟨ob, 0, none⟩) → a'.eval (.tmp 132) = .int .i64 kd →  K a' x) : (atc Try.f3.body [1, 1, 1, 1, 1, 1, 1, 1, 1, 1, 1, 1, 1, 1, 0, 1, 0, 0, 1, 0, 0, 1, 0, 0]).wp Try.prog (Exit.then K Q) a x := by
  obtain ⟨cc, hcc, hce⟩ := expand477 hs hd
  have g0 := (hce 0).trans x0
  have g1 := (hce 1).trans x1
  have g5 := (hce 5).trans x5
  have g7 := (hce 7).trans x7
  have g9 := (hce 9).trans x9
  have g10 := (hce 10).trans x10
  have g15 := (hce 15).trans x15
  have g16 := (hce 16).trans x16
  have g17 := (hce 17).trans x17
  have g18 := (hce 18).trans x18
  have g19 := (hce 19).trans x19
  have g20 := (hce 20).trans x20
  clear hce hs hd x0 x1 x5 x7 x9 x10 x15 x16 x17 x18 x19 x20
  subst hcc
  conv => arg 2; whnf
  simp only [lit477, g0, g1, g5, g7, g9, g10, g15, g16, g17, g18, g19, g20]
  clear g0 g1 g5 g7 g9 g10 g15 g16 g17 g18 g19 g20
  obtain ⟨o0, o1, o2, o3⟩ := op_cells hob
  clear hob
  have HK : Hid _ := hK
  clear hK
  go_wp2
  exact HK.out _ rfl rfl rfl rfl rfl rfl rfl rfl rfl rfl rfl rfl rfl rfl rfl 
set_option maxRecDepth 100000 in
set_option maxHeartbeats 1600000 in
theorem ch_24 (hs : a.tmps.size = 477) (hd : a.defers = []) (x0 : a.eval (.tmp 0) = .int .i64 n) (x1 : a.eval (.tmp 1) = .slice ta Lc tc) (x5 : a.eval (.tmp 5) = .pointer (some ⟨p, 0, none⟩)) (x7 : a.eval (.tmp 7) = .pointer (some ⟨kb, 0, none⟩)) (x9 : a.eval (.tmp 9) = .pointer (some ⟨c, 0, none⟩)) (x10 : a.eval (.tmp 10) = .pointer (some ⟨c2, 0, none⟩)) (x15 : a.eval (.tmp 15) = .slice (some ⟨g, 0, none⟩) rl rc) (x16 : a.eval (.tmp 16) = .int .i64 now) (x17 : a.eval (.tmp 17) = .int .i64 used) (x18 : a.eval (.tmp 18) = .int .i64 ct) (x19 : a.eval (.tmp 19) = .int .i64 i) (x20 : a.eval (.tmp 20) = .pointer (some ⟨ob, 0, none⟩)) (x132 : a.eval (.tmp 132) = .int .i64 kd)
    (ht : (kd == 1) = t)
    (hK : ∀ a', a'.tmps.size = 477 → a'.defers = [] → a'.eval (.tmp 0) = .int .i64 n → a'.eval (.tmp 1) = .slice ta Lc tc → a'.eval (.tmp 5) = .pointer (some ⟨p, 0, none⟩) → a'.eval (.tmp 7) = .pointer (some ⟨kb, 0, none⟩) → a'.eval (.tmp 9) = .pointer (some ⟨c, 0, none⟩) → a'.eval (.tmp 10) = .pointer (some ⟨c2, 0, none⟩) → a'.eval (.tmp 15) = .slice (some ⟨g, 0, none⟩) rl rc → a'.eval (.tmp 16) = .int .i64 now → a'.eval (.tmp 17) = .int .i64 used → a'.eval (.tmp 18) = .int .i64 ct → a'.eval (.tmp 19) = .int .i64 i → a'.eval (.tmp 20) = .pointer (some ⟨ob, 0, none⟩) → a'.eval (.tmp 132) = .int .i64 kd → a'.eval (.tmp 133) = .bool t →  K a' x) : (atc Try.f3.body [1, 1, 1, 1, 1, 1, 1, 1, 1, 1, 1, 1, 1, 1, 0, 1, 0, 0, 1, 0, 0, 1, 0, 1, 0, 0]).wp Try.prog (Exit.then K Q) a x := by
  obtain ⟨cc, hcc, hce⟩ := expand477 hs hd
  have g0 := (hce 0).trans x0
  have g1 := (hce 1).trans x1
  have g5 := (hce 5).trans x5
  have g7 := (hce 7).trans x7
  have g9 := (hce 9).trans x9
  have g10 := (hce 10).trans x10
  have g15 := (hce 15).trans x15
  have g16 := (hce 16).trans x16
  have g17 := (hce 17).trans x17
  have g18 := (hce 18).trans x18
  have g19 := (hce 19).trans x19
  have g20 := (hce 20).trans x20
  have g132 := (hce 132).trans x132
  clear hce hs hd x0 x1 x5 x7 x9 x10 x15 x16 x17 x18 x19 x20 x132
  subst hcc
  conv => arg 2; whnf
  simp only [lit477, g0, g1, g5, g7, g9, g10, g15, g16, g17, g18, g19, g20, g132]
  clear g0 g1 g5 g7 g9 g10 g15 g16 g17 g18 g19 g20 g132
  have HK : Hid _ := hK
  clear hK
  go_wp2
  exact HK.out _ rfl rfl rfl rfl rfl rfl rfl rfl rfl rfl rfl rfl rfl rfl rfl rfl 
set_option maxRecDepth 100000 in
set_option maxHeartbeats 1600000 in
theorem ch_43 (hs : a.tmps.size = 477) (hd : a.defers = []) (x0 : a.eval (.tmp 0) = .int .i64 n) (x1 : a.eval (.tmp 1) = .slice ta Lc tc) (x5 : a.eval (.tmp 5) = .pointer (some ⟨p, 0, none⟩)) (x7 : a.eval (.tmp 7) = .pointer (some ⟨kb, 0, none⟩)) (x9 : a.eval (.tmp 9) = .pointer (some ⟨c, 0, none⟩)) (x10 : a.eval (.tmp 10) = .pointer (some ⟨c2, 0, none⟩)) (x15 : a.eval (.tmp 15) = .slice (some ⟨g, 0, none⟩) rl rc) (x16 : a.eval (.tmp 16) = .int .i64 now) (x17 : a.eval (.tmp 17) = .int .i64 used) (x18 : a.eval (.tmp 18) = .int .i64 ct) (x19 : a.eval (.tmp 19) = .int .i64 i) (x20 : a.eval (.tmp 20) = .pointer (some ⟨ob, 0, none⟩)) (x132 : a.eval (.tmp 132) = .int .i64 kd)
    (ht : (kd == 2) = t)
    (hK : ∀ a', a'.tmps.size = 477 → a'.defers = [] → a'.eval (.tmp 0) = .int .i64 n → a'.eval (.tmp 1) = .slice ta Lc tc → a'.eval (.tmp 5) = .pointer (some ⟨p, 0, none⟩) → a'.eval (.tmp 7) = .pointer (some ⟨kb, 0, none⟩) → a'.eval (.tmp 9) = .pointer (some ⟨c, 0, none⟩) → a'.eval (.tmp 10) = .pointer (some ⟨c2, 0, none⟩) → a'.eval (.tmp 15) = .slice (some ⟨g, 0, none⟩) rl rc → a'.eval (.tmp 16) = .int .i64 now → a'.eval (.tmp 17) = .int .i64 used → a'.eval (.tmp 18) = .int .i64 ct → a'.eval (.tmp 19) = .int .i64 i → a'.eval (.tmp 20) = .pointer (some ⟨ob, 0, none⟩) → a'.eval (.tmp 132) = .int .i64 kd → a'.eval (.tmp 222) = .bool t →  K a' x) : (atc Try.f3.body [1, 1, 1, 1, 1, 1, 1, 1, 1, 1, 1, 1, 1, 1, 0, 1, 0, 0, 1, 0, 0, 1, 0, 1, 0, 1, 1, 0]).wp Try.prog (Exit.then K Q) a x := by
  obtain ⟨cc, hcc, hce⟩ := expand477 hs hd
  have g0 := (hce 0).trans x0
  have g1 := (hce 1).trans x1
  have g5 := (hce 5).trans x5
  have g7 := (hce 7).trans x7
  have g9 := (hce 9).trans x9
  have g10 := (hce 10).trans x10
  have g15 := (hce 15).trans x15
  have g16 := (hce 16).trans x16
  have g17 := (hce 17).trans x17
  have g18 := (hce 18).trans x18
  have g19 := (hce 19).trans x19
  have g20 := (hce 20).trans x20
  have g132 := (hce 132).trans x132
  clear hce hs hd x0 x1 x5 x7 x9 x10 x15 x16 x17 x18 x19 x20 x132
  subst hcc
  conv => arg 2; whnf
  simp only [lit477, g0, g1, g5, g7, g9, g10, g15, g16, g17, g18, g19, g20, g132]
  clear g0 g1 g5 g7 g9 g10 g15 g16 g17 g18 g19 g20 g132
  have HK : Hid _ := hK
  clear hK
  go_wp2
  exact HK.out _ rfl rfl rfl rfl rfl rfl rfl rfl rfl rfl rfl rfl rfl rfl rfl rfl 
set_option maxRecDepth 100000 in
set_option maxHeartbeats 1600000 in
theorem ch_47 (hs : a.tmps.size = 477) (hd : a.defers = []) (x0 : a.eval (.tmp 0) = .int .i64 n) (x1 : a.eval (.tmp 1) = .slice ta Lc tc) (x5 : a.eval (.tmp 5) = .pointer (some ⟨p, 0, none⟩)) (x7 : a.eval (.tmp 7) = .pointer (some ⟨kb, 0, none⟩)) (x9 : a.eval (.tmp 9) = .pointer (some ⟨c, 0, none⟩)) (x10 : a.eval (.tmp 10) = .pointer (some ⟨c2, 0, none⟩)) (x15 : a.eval (.tmp 15) = .slice (some ⟨g, 0, none⟩) rl rc) (x16 : a.eval (.tmp 16) = .int .i64 now) (x17 : a.eval (.tmp 17) = .int .i64 used) (x18 : a.eval (.tmp 18) = .int .i64 ct) (x19 : a.eval (.tmp 19) = .int .i64 i) (x20 : a.eval (.tmp 20) = .pointer (some ⟨ob, 0, none⟩)) (x132 : a.eval (.tmp 132) = .int .i64 kd)
    (ht : (kd == 3) = t)
    (hK : ∀ a', a'.tmps.size = 477 → a'.defers = [] → a'.eval (.tmp 0) = .int .i64 n → a'.eval (.tmp 1) = .slice ta Lc tc → a'.eval (.tmp 5) = .pointer (some ⟨p, 0, none⟩) → a'.eval (.tmp 7) = .pointer (some ⟨kb, 0, none⟩) → a'.eval (.tmp 9) = .pointer (some ⟨c, 0, none⟩) → a'.eval (.tmp 10) = .pointer (some ⟨c2, 0, none⟩) → a'.eval (.tmp 15) = .slice (some ⟨g, 0, none⟩) rl rc → a'.eval (.tmp 16) = .int .i64 now → a'.eval (.tmp 17) = .int .i64 used → a'.eval (.tmp 18) = .int .i64 ct → a'.eval (.tmp 19) = .int .i64 i → a'.eval (.tmp 20) = .pointer (some ⟨ob, 0, none⟩) → a'.eval (.tmp 132) = .int .i64 kd → a'.eval (.tmp 248) = .bool t →  K a' x) : (atc Try.f3.body [1, 1, 1, 1, 1, 1, 1, 1, 1, 1, 1, 1, 1, 1, 0, 1, 0, 0, 1, 0, 0, 1, 0, 1, 0, 1, 1, 1, 1, 0]).wp Try.prog (Exit.then K Q) a x := by
  obtain ⟨cc, hcc, hce⟩ := expand477 hs hd
  have g0 := (hce 0).trans x0
  have g1 := (hce 1).trans x1
  have g5 := (hce 5).trans x5
  have g7 := (hce 7).trans x7
  have g9 := (hce 9).trans x9
  have g10 := (hce 10).trans x10
  have g15 := (hce 15).trans x15
  have g16 := (hce 16).trans x16
  have g17 := (hce 17).trans x17
  have g18 := (hce 18).trans x18
  have g19 := (hce 19).trans x19
  have g20 := (hce 20).trans x20
  have g132 := (hce 132).trans x132
  clear hce hs hd x0 x1 x5 x7 x9 x10 x15 x16 x17 x18 x19 x20 x132
  subst hcc
  conv => arg 2; whnf
  simp only [lit477, g0, g1, g5, g7, g9, g10, g15, g16, g17, g18, g19, g20, g132]
  clear g0 g1 g5 g7 g9 g10 g15 g16 g17 g18 g19 g20 g132
  have HK : Hid _ := hK
  clear hK
  go_wp2
  exact HK.out _ rfl rfl rfl rfl rfl rfl rfl rfl rfl rfl rfl rfl rfl rfl rfl rfl 
set_option maxRecDepth 100000 in
set_option maxHeartbeats 1600000 in
theorem ch_57 (hs : a.tmps.size = 477) (hd : a.defers = []) (x0 : a.eval (.tmp 0) = .int .i64 n) (x1 : a.eval (.tmp 1) = .slice ta Lc tc) (x5 : a.eval (.tmp 5) = .pointer (some ⟨p, 0, none⟩)) (x7 : a.eval (.tmp 7) = .pointer (some ⟨kb, 0, none⟩)) (x9 : a.eval (.tmp 9) = .pointer (some ⟨c, 0, none⟩)) (x10 : a.eval (.tmp 10) = .pointer (some ⟨c2, 0, none⟩)) (x15 : a.eval (.tmp 15) = .slice (some ⟨g, 0, none⟩) rl rc) (x16 : a.eval (.tmp 16) = .int .i64 now) (x17 : a.eval (.tmp 17) = .int .i64 used) (x18 : a.eval (.tmp 18) = .int .i64 ct) (x19 : a.eval (.tmp 19) = .int .i64 i) (x20 : a.eval (.tmp 20) = .pointer (some ⟨ob, 0, none⟩)) (x132 : a.eval (.tmp 132) = .int .i64 kd)
    (ht : (kd == 4) = t)
    (hK : ∀ a', a'.tmps.size = 477 → a'.defers = [] → a'.eval (.tmp 0) = .int .i64 n → a'.eval (.tmp 1) = .slice ta Lc tc → a'.eval (.tmp 5) = .pointer (some ⟨p, 0, none⟩) → a'.eval (.tmp 7) = .pointer (some ⟨kb, 0, none⟩) → a'.eval (.tmp 9) = .pointer (some ⟨c, 0, none⟩) → a'.eval (.tmp 10) = .pointer (some ⟨c2, 0, none⟩) → a'.eval (.tmp 15) = .slice (some ⟨g, 0, none⟩) rl rc → a'.eval (.tmp 16) = .int .i64 now → a'.eval (.tmp 17) = .int .i64 used → a'.eval (.tmp 18) = .int .i64 ct → a'.eval (.tmp 19) = .int .i64 i → a'.eval (.tmp 20) = .pointer (some ⟨ob, 0, none⟩) → a'.eval (.tmp 132) = .int .i64 kd → a'.eval (.tmp 294) = .bool t →  K a' x) : (atc Try.f3.body [1, 1, 1, 1, 1, 1, 1, 1, 1, 1, 1, 1, 1, 1, 0, 1, 0, 0, 1, 0, 0, 1, 0, 1, 0, 1, 1, 1, 1, 1, 1, 0]).wp Try.prog (Exit.then K Q) a x := by
  obtain ⟨cc, hcc, hce⟩ := expand477 hs hd
  have g0 := (hce 0).trans x0
  have g1 := (hce 1).trans x1
  have g5 := (hce 5).trans x5
  have g7 := (hce 7).trans x7
  have g9 := (hce 9).trans x9
  have g10 := (hce 10).trans x10
  have g15 := (hce 15).trans x15
  have g16 := (hce 16).trans x16
  have g17 := (hce 17).trans x17
  have g18 := (hce 18).trans x18
  have g19 := (hce 19).trans x19
  have g20 := (hce 20).trans x20
  have g132 := (hce 132).trans x132
  clear hce hs hd x0 x1 x5 x7 x9 x10 x15 x16 x17 x18 x19 x20 x132
  subst hcc
  conv => arg 2; whnf
  simp only [lit477, g0, g1, g5, g7, g9, g10, g15, g16, g17, g18, g19, g20, g132]
  clear g0 g1 g5 g7 g9 g10 g15 g16 g17 g18 g19 g20 g132
  have HK : Hid _ := hK
  clear hK
  go_wp2
  exact HK.out _ rfl rfl rfl rfl rfl rfl rfl rfl rfl rfl rfl rfl rfl rfl rfl rfl 
set_option maxRecDepth 100000 in
set_option maxHeartbeats 1600000 in
theorem ch_74 (hs : a.tmps.size = 477) (hd : a.defers = []) (x0 : a.eval (.tmp 0) = .int .i64 n) (x1 : a.eval (.tmp 1) = .slice ta Lc tc) (x5 : a.eval (.tmp 5) = .pointer (some ⟨p, 0, none⟩)) (x7 : a.eval (.tmp 7) = .pointer (some ⟨kb, 0, none⟩)) (x9 : a.eval (.tmp 9) = .pointer (some ⟨c, 0, none⟩)) (x10 : a.eval (.tmp 10) = .pointer (some ⟨c2, 0, none⟩)) (x15 : a.eval (.tmp 15) = .slice (some ⟨g, 0, none⟩) rl rc) (x16 : a.eval (.tmp 16) = .int .i64 now) (x17 : a.eval (.tmp 17) = .int .i64 used) (x18 : a.eval (.tmp 18) = .int .i64 ct) (x19 : a.eval (.tmp 19) = .int .i64 i) (x20 : a.eval (.tmp 20) = .pointer (some ⟨ob, 0, none⟩)) (x132 : a.eval (.tmp 132) = .int .i64 kd)
    (ht : (kd == 5) = t)
    (hK : ∀ a', a'.tmps.size = 477 → a'.defers = [] → a'.eval (.tmp 0) = .int .i64 n → a'.eval (.tmp 1) = .slice ta Lc tc → a'.eval (.tmp 5) = .pointer (some ⟨p, 0, none⟩) → a'.eval (.tmp 7) = .pointer (some ⟨kb, 0, none⟩) → a'.eval (.tmp 9) = .pointer (some ⟨c, 0, none⟩) → a'.eval (.tmp 10) = .pointer (some ⟨c2, 0, none⟩) → a'.eval (.tmp 15) = .slice (some ⟨g, 0, none⟩) rl rc → a'.eval (.tmp 16) = .int .i64 now → a'.eval (.tmp 17) = .int .i64 used → a'.eval (.tmp 18) = .int .i64 ct → a'.eval (.tmp 19) = .int .i64 i → a'.eval (.tmp 20) = .pointer (some ⟨ob, 0, none⟩) → a'.eval (.tmp 132) = .int .i64 kd → a'.eval (.tmp 374) = .bool t →  K a' x) : (atc Try.f3.body [1, 1, 1, 1, 1, 1, 1, 1, 1, 1, 1, 1, 1, 1, 0, 1, 0, 0, 1, 0, 0, 1, 0, 1, 0, 1, 1, 1, 1, 1, 1, 1, 1, 0]).wp Try.prog (Exit.then K Q) a x := by
  obtain ⟨cc, hcc, hce⟩ := expand477 hs hd
  have g0 := (hce 0).trans x0
  have g1 := (hce 1).trans x1
  have g5 := (hce 5).trans x5
  have g7 := (hce 7).trans x7
  have g9 := (hce 9).trans x9
  have g10 := (hce 10).trans x10
  have g15 := (hce 15).trans x15
  have g16 := (hce 16).trans x16
  have g17 := (hce 17).trans x17
  have g18 := (hce 18).trans x18
  have g19 := (hce 19).trans x19
  have g20 := (hce 20).trans x20
  have g132 := (hce 132).trans x132
  clear hce hs hd x0 x1 x5 x7 x9 x10 x15 x16 x17 x18 x19 x20 x132
  subst hcc
  conv => arg 2; whnf
  simp only [lit477, g0, g1, g5, g7, g9, g10, g15, g16, g17, g18, g19, g20, g132]
  clear g0 g1 g5 g7 g9 g10 g15 g16 g17 g18 g19 g20 g132
  have HK : Hid _ := hK
  clear hK
  go_wp2
  exact HK.out _ rfl rfl rfl rfl rfl rfl rfl rfl rfl rfl rfl rfl rfl rfl rfl rfl 
set_option maxRecDepth 100000 in
set_option maxHeartbeats 1600000 in
theorem ch_25 (hs : a.tmps.size = 477) (hd : a.defers = []) (x0 : a.eval (.tmp 0) = .int .i64 n) (x1 : a.eval (.tmp 1) = .slice ta Lc tc) (x5 : a.eval (.tmp 5) = .pointer (some ⟨p, 0, none⟩)) (x7 : a.eval (.tmp 7) = .pointer (some ⟨kb, 0, none⟩)) (x9 : a.eval (.tmp 9) = .pointer (some ⟨c, 0, none⟩)) (x10 : a.eval (.tmp 10) = .pointer (some ⟨c2, 0, none⟩)) (x15 : a.eval (.tmp 15) = .slice (some ⟨g, 0, none⟩) rl rc) (x16 : a.eval (.tmp 16) = .int .i64 now) (x17 : a.eval (.tmp 17) = .int .i64 used) (x18 : a.eval (.tmp 18) = .int .i64 ct) (x19 : a.eval (.tmp 19) = .int .i64 i) (x20 : a.eval (.tmp 20) = .pointer (some ⟨ob, 0, none⟩))
    (hob : x.heap[ob]? = some (opO kd oa od sa sl sc)) (hs1 : ¬ (50 : Int) < sl)
    (hK : ∀ a', a'.tmps.size = 477 → a'.defers = [] → a'.eval (.tmp 0) = .int .i64 n → a'.eval (.tmp 1) = .slice ta Lc tc → a'.eval (.tmp 5) = .pointer (some ⟨p, 0, none⟩) → a'.eval (.tmp 7) = .pointer (some ⟨kb, 0, none⟩) → a'.eval (.tmp 9) = .pointer (some ⟨c, 0, none⟩) → a'.eval (.tmp 10) = .pointer (some ⟨c2, 0, none⟩) → a'.eval (.tmp 15) = .slice (some ⟨g, 0, none⟩) rl rc → a'.eval (.tmp 16) = .int .i64 now → a'.eval (.tmp 17) = .int .i64 used → a'.eval (.tmp 18) = .int .i64 ct → a'.eval (.tmp 19) = .int .i64 i → a'.eval (.tmp 20) = .pointer (some ⟨ob, 0, none⟩) →  K a' x) : (atc Try.f3.body [1, 1, 1, 1, 1, 1, 1, 1, 1, 1, 1, 1, 1, 1, 0, 1, 0, 0, 1, 0, 0, 1, 0, 1, 0, 1, 0, 0]).wp Try.prog (Exit.then K Q) a x := by
  obtain ⟨cc, hcc, hce⟩ := expand477 hs hd
  have g0 := (hce 0).trans x0
  have g1 := (hce 1).trans x1
  have g5 := (hce 5).trans x5
  have g7 := (hce 7).trans x7
  have g9 := (hce 9).trans x9
  have g10 := (hce 10).trans x10
  have g15 := (hce 15).trans x15
  have g16 := (hce 16).trans x16
  have g17 := (hce 17).trans x17
  have g18 := (hce 18).trans x18
  have g19 := (hce 19).trans x19
  have g20 := (hce 20).trans x20
  clear hce hs hd x0 x1 x5 x7 x9 x10 x15 x16 x17 x18 x19 x20
  subst hcc
  conv => arg 2; whnf
  simp only [lit477, g0, g1, g5, g7, g9, g10, g15, g16, g17, g18, g19, g20]
  clear g0 g1 g5 g7 g9 g10 g15 g16 g17 g18 g19 g20
  obtain ⟨o0, o1, o2, o3⟩ := op_cells hob
  clear hob
  have HK : Hid _ := hK
  clear hK
  go_wp2
  exact HK.out _ rfl rfl rfl rfl rfl rfl rfl rfl rfl rfl rfl rfl rfl rfl 
set_option maxRecDepth 100000 in
set_option maxHeartbeats 1600000 in
theorem ch_25x (hs : a.tmps.size = 477) (hd : a.defers = []) (x0 : a.eval (.tmp 0) = .int .i64 n) (x1 : a.eval (.tmp 1) = .slice ta Lc tc) (x5 : a.eval (.tmp 5) = .pointer (some ⟨p, 0, none⟩)) (x7 : a.eval (.tmp 7) = .pointer (some ⟨kb, 0, none⟩)) (x9 : a.eval (.tmp 9) = .pointer (some ⟨c, 0, none⟩)) (x10 : a.eval (.tmp 10) = .pointer (some ⟨c2, 0, none⟩)) (x15 : a.eval (.tmp 15) = .slice (some ⟨g, 0, none⟩) rl rc) (x16 : a.eval (.tmp 16) = .int .i64 now) (x17 : a.eval (.tmp 17) = .int .i64 used) (x18 : a.eval (.tmp 18) = .int .i64 ct) (x19 : a.eval (.tmp 19) = .int .i64 i) (x20 : a.eval (.tmp 20) = .pointer (some ⟨ob, 0, none⟩))
    (hob : x.heap[ob]? = some (opO kd oa od sa sl sc)) (hs1 : (50 : Int) < sl)
    (hQ : ∀ a', a'.tmps.size = 477 → a'.defers = [] → a'.eval (.tmp 0) = .int .i64 n → a'.eval (.tmp 1) = .slice ta Lc tc → a'.eval (.tmp 5) = .pointer (some ⟨p, 0, none⟩) → a'.eval (.tmp 7) = .pointer (some ⟨kb, 0, none⟩) → a'.eval (.tmp 9) = .pointer (some ⟨c, 0, none⟩) → a'.eval (.tmp 10) = .pointer (some ⟨c2, 0, none⟩) → a'.eval (.tmp 15) = .slice (some ⟨g, 0, none⟩) rl rc → a'.eval (.tmp 16) = .int .i64 now → a'.eval (.tmp 17) = .int .i64 used → a'.eval (.tmp 18) = .int .i64 ct → a'.eval (.tmp 19) = .int .i64 i →  Q (.exit 2) a' x) : (atc Try.f3.body [1, 1, 1, 1, 1, 1, 1, 1, 1, 1, 1, 1, 1, 1, 0, 1, 0, 0, 1, 0, 0, 1, 0, 1, 0, 1, 0, 0]).wp Try.prog (Exit.then K Q) a x := by
  obtain ⟨cc, hcc, hce⟩ := expand477 hs hd
  have g0 := (hce 0).trans x0
  have g1 := (hce 1).trans x1
  have g5 := (hce 5).trans x5
  have g7 := (hce 7).trans x7
  have g9 := (hce 9).trans x9
  have g10 := (hce 10).trans x10
  have g15 := (hce 15).trans x15
  have g16 := (hce 16).trans x16
  have g17 := (hce 17).trans x17
  have g18 := (hce 18).trans x18
  have g19 := (hce 19).trans x19
  have g20 := (hce 20).trans x20
  clear hce hs hd x0 x1 x5 x7 x9 x10 x15 x16 x17 x18 x19 x20
  subst hcc
  conv => arg 2; whnf
  simp only [lit477, g0, g1, g5, g7, g9, g10, g15, g16, g17, g18, g19, g20]
  clear g0 g1 g5 g7 g9 g10 g15 g16 g17 g18 g19 g20
  obtain ⟨o0, o1, o2, o3⟩ := op_cells hob
  clear hob
  have HK : Hid _ := hQ
  clear hQ
  go_wp2
  exact HK.out _ rfl rfl rfl rfl rfl rfl rfl rfl rfl rfl rfl rfl rfl 
set_option maxRecDepth 100000 in
set_option maxHeartbeats 1600000 in
theorem ch_26 (hs : a.tmps.size = 477) (hd : a.defers = []) (x0 : a.eval (.tmp 0) = .int .i64 n) (x1 : a.eval (.tmp 1) = .slice ta Lc tc) (x5 : a.eval (.tmp 5) = .pointer (some ⟨p, 0, none⟩)) (x7 : a.eval (.tmp 7) = .pointer (some ⟨kb, 0, none⟩)) (x9 : a.eval (.tmp 9) = .pointer (some ⟨c, 0, none⟩)) (x10 : a.eval (.tmp 10) = .pointer (some ⟨c2, 0, none⟩)) (x15 : a.eval (.tmp 15) = .slice (some ⟨g, 0, none⟩) rl rc) (x16 : a.eval (.tmp 16) = .int .i64 now) (x17 : a.eval (.tmp 17) = .int .i64 used) (x18 : a.eval (.tmp 18) = .int .i64 ct) (x19 : a.eval (.tmp 19) = .int .i64 i) (x20 : a.eval (.tmp 20) = .pointer (some ⟨ob, 0, none⟩))
    (hob : x.heap[ob]? = some (opO kd oa od sa sl sc)) {l : List Int} (hv : IV x (.slice sa sl sc) l) (hl : l.length ≤ 50)
    (hK : ∀ a' y v, a'.tmps.size = 477 → a'.defers = [] → a'.eval (.tmp 0) = .int .i64 n → a'.eval (.tmp 1) = .slice ta Lc tc → a'.eval (.tmp 5) = .pointer (some ⟨p, 0, none⟩) → a'.eval (.tmp 7) = .pointer (some ⟨kb, 0, none⟩) → a'.eval (.tmp 9) = .pointer (some ⟨c, 0, none⟩) → a'.eval (.tmp 10) = .pointer (some ⟨c2, 0, none⟩) → a'.eval (.tmp 15) = .slice (some ⟨g, 0, none⟩) rl rc → a'.eval (.tmp 16) = .int .i64 now → a'.eval (.tmp 17) = .int .i64 used → a'.eval (.tmp 18) = .int .i64 ct → a'.eval (.tmp 19) = .int .i64 i → a'.eval (.tmp 20) = .pointer (some ⟨ob, 0, none⟩) → a'.eval (.tmp 21) = v → IR x.heap.size y v l → Turned [] x y → K a' y) : (atc Try.f3.body [1, 1, 1, 1, 1, 1, 1, 1, 1, 1, 1, 1, 1, 1, 0, 1, 0, 0, 1, 0, 0, 1, 0, 1, 0, 1, 0, 1, 0]).wp Try.prog (Exit.then K Q) a x := by
  obtain ⟨cc, hcc, hce⟩ := expand477 hs hd
  have g0 := (hce 0).trans x0
  have g1 := (hce 1).trans x1
  have g5 := (hce 5).trans x5
  have g7 := (hce 7).trans x7
  have g9 := (hce 9).trans x9
  have g10 := (hce 10).trans x10
  have g15 := (hce 15).trans x15
  have g16 := (hce 16).trans x16
  have g17 := (hce 17).trans x17
  have g18 := (hce 18).trans x18
  have g19 := (hce 19).trans x19
  have g20 := (hce 20).trans x20
  clear hce hs hd x0 x1 x5 x7 x9 x10 x15 x16 x17 x18 x19 x20
  subst hcc
  conv => arg 2; whnf
  simp only [lit477, g0, g1, g5, g7, g9, g10, g15, g16, g17, g18, g19, g20]
  clear g0 g1 g5 g7 g9 g10 g15 g16 g17 g18 g19 g20
  obtain ⟨o0, o1, o2, o3⟩ := op_cells hob
  clear hob
  have HV : Hid _ := And.intro hv hl
  clear hv hl
  have HK : Hid _ := hK
  clear hK
  go_wp2_with (at_builtin; go_loud (refine wpList_apInts (v := .slice none 0 0) (u := .slice sa sl sc) (l := []) (ms := l) (B := x.heap.size) rfl _ _ rfl rfl rfl (IR.nil _ _) rfl HV.out.1 (by simp) (by have := HV.out.2; omega) (Nat.le_refl _) ?_; intro v' w11 hsr ht11 hor; have hsr2 : IR x.heap.size w11 v' l := (by simpa using hsr); have HSR : Hid _ := hsr2; have HT11 : Hid _ := ht11; clear hsr hsr2 ht11 hor))
  exact HK.out _ _ _ rfl rfl rfl rfl rfl rfl rfl rfl rfl rfl rfl rfl rfl rfl rfl HSR.out (HT11.out.mono (by simp [Value.ownBlock]))
set_option maxRecDepth 100000 in
set_option maxHeartbeats 1600000 in
theorem ch_27 (hs : a.tmps.size = 477) (hd : a.defers = []) (x0 : a.eval (.tmp 0) = .int .i64 n) (x1 : a.eval (.tmp 1) = .slice ta Lc tc) (x5 : a.eval (.tmp 5) = .pointer (some ⟨p, 0, none⟩)) (x7 : a.eval (.tmp 7) = .pointer (some ⟨kb, 0, none⟩)) (x9 : a.eval (.tmp 9) = .pointer (some ⟨c, 0, none⟩)) (x10 : a.eval (.tmp 10) = .pointer (some ⟨c2, 0, none⟩)) (x15 : a.eval (.tmp 15) = .slice (some ⟨g, 0, none⟩) rl rc) (x16 : a.eval (.tmp 16) = .int .i64 now) (x17 : a.eval (.tmp 17) = .int .i64 used) (x18 : a.eval (.tmp 18) = .int .i64 ct) (x19 : a.eval (.tmp 19) = .int .i64 i) (x20 : a.eval (.tmp 20) = .pointer (some ⟨ob, 0, none⟩)) (x21 : a.eval (.tmp 21) = .slice va vl vc)
    (hr0 : x.cell? ⟨g, 0, none⟩ = some (.int .i64 lh)) (hrl : (0 : Int) < rl)
    (hK : ∀ a', a'.tmps.size = 477 → a'.defers = [] → a'.eval (.tmp 0) = .int .i64 n → a'.eval (.tmp 1) = .slice ta Lc tc → a'.eval (.tmp 5) = .pointer (some ⟨p, 0, none⟩) → a'.eval (.tmp 7) = .pointer (some ⟨kb, 0, none⟩) → a'.eval (.tmp 9) = .pointer (some ⟨c, 0, none⟩) → a'.eval (.tmp 10) = .pointer (some ⟨c2, 0, none⟩) → a'.eval (.tmp 15) = .slice (some ⟨g, 0, none⟩) rl rc → a'.eval (.tmp 16) = .int .i64 now → a'.eval (.tmp 17) = .int .i64 used → a'.eval (.tmp 18) = .int .i64 ct → a'.eval (.tmp 19) = .int .i64 i → a'.eval (.tmp 20) = .pointer (some ⟨ob, 0, none⟩) → a'.eval (.tmp 21) = .slice va vl vc → a'.eval (.tmp 22) = .int .i64 lh →  K a' x) : (atc Try.f3.body [1, 1, 1, 1, 1, 1, 1, 1, 1, 1, 1, 1, 1, 1, 0, 1, 0, 0, 1, 0, 0, 1, 0, 1, 0, 1, 0, 1, 1, 0]).wp Try.prog (Exit.then K Q) a x := by
  obtain ⟨cc, hcc, hce⟩ := expand477 hs hd
  have g0 := (hce 0).trans x0
  have g1 := (hce 1).trans x1
  have g5 := (hce 5).trans x5
  have g7 := (hce 7).trans x7
  have g9 := (hce 9).trans x9
  have g10 := (hce 10).trans x10
  have g15 := (hce 15).trans x15
  have g16 := (hce 16).trans x16
  have g17 := (hce 17).trans x17
  have g18 := (hce 18).trans x18
  have g19 := (hce 19).trans x19
  have g20 := (hce 20).trans x20
  have g21 := (hce 21).trans x21
  clear hce hs hd x0 x1 x5 x7 x9 x10 x15 x16 x17 x18 x19 x20 x21
  subst hcc
  conv => arg 2; whnf
  simp only [lit477, g0, g1, g5, g7, g9, g10, g15, g16, g17, g18, g19, g20, g21]
  clear g0 g1 g5 g7 g9 g10 g15 g16 g17 g18 g19 g20 g21
  have HK : Hid _ := hK
  clear hK
  go_wp2
  exact HK.out _ rfl rfl rfl rfl rfl rfl rfl rfl rfl rfl rfl rfl rfl rfl rfl rfl 
set_option maxRecDepth 100000 in
set_option maxHeartbeats 1600000 in
theorem ch_28z (hs : a.tmps.size = 477) (hd : a.defers = []) (x0 : a.eval (.tmp 0) = .int .i64 n) (x1 : a.eval (.tmp 1) = .slice ta Lc tc) (x5 : a.eval (.tmp 5) = .pointer (some ⟨p, 0, none⟩)) (x7 : a.eval (.tmp 7) = .pointer (some ⟨kb, 0, none⟩)) (x9 : a.eval (.tmp 9) = .pointer (some ⟨c, 0, none⟩)) (x10 : a.eval (.tmp 10) = .pointer (some ⟨c2, 0, none⟩)) (x15 : a.eval (.tmp 15) = .slice (some ⟨g, 0, none⟩) rl rc) (x16 : a.eval (.tmp 16) = .int .i64 now) (x17 : a.eval (.tmp 17) = .int .i64 used) (x18 : a.eval (.tmp 18) = .int .i64 ct) (x19 : a.eval (.tmp 19) = .int .i64 i) (x20 : a.eval (.tmp 20) = .pointer (some ⟨ob, 0, none⟩)) (x21 : a.eval (.tmp 21) = .slice va vl vc) (x22 : a.eval (.tmp 22) = .int .i64 lh)
    (hob : x.heap[ob]? = some (opO kd oa od sa sl sc)) (hz : od = 0)
    (hK : ∀ a', a'.tmps.size = 477 → a'.defers = [] → a'.eval (.tmp 0) = .int .i64 n → a'.eval (.tmp 1) = .slice ta Lc tc → a'.eval (.tmp 5) = .pointer (some ⟨p, 0, none⟩) → a'.eval (.tmp 7) = .pointer (some ⟨kb, 0, none⟩) → a'.eval (.tmp 9) = .pointer (some ⟨c, 0, none⟩) → a'.eval (.tmp 10) = .pointer (some ⟨c2, 0, none⟩) → a'.eval (.tmp 15) = .slice (some ⟨g, 0, none⟩) rl rc → a'.eval (.tmp 16) = .int .i64 now → a'.eval (.tmp 17) = .int .i64 used → a'.eval (.tmp 18) = .int .i64 ct → a'.eval (.tmp 19) = .int .i64 i → a'.eval (.tmp 20) = .pointer (some ⟨ob, 0, none⟩) → a'.eval (.tmp 21) = .slice va vl vc → a'.eval (.tmp 22) = .int .i64 lh →  K a' x) : (atc Try.f3.body [1, 1, 1, 1, 1, 1, 1, 1, 1, 1, 1, 1, 1, 1, 0, 1, 0, 0, 1, 0, 0, 1, 0, 1, 0, 1, 0, 1, 1, 1, 0]).wp Try.prog (Exit.then K Q) a x := by
  obtain ⟨cc, hcc, hce⟩ := expand477 hs hd
  have g0 := (hce 0).trans x0
  have g1 := (hce 1).trans x1
  have g5 := (hce 5).trans x5
  have g7 := (hce 7).trans x7
  have g9 := (hce 9).trans x9
  have g10 := (hce 10).trans x10
  have g15 := (hce 15).trans x15
  have g16 := (hce 16).trans x16
  have g17 := (hce 17).trans x17
  have g18 := (hce 18).trans x18
  have g19 := (hce 19).trans x19
  have g20 := (hce 20).trans x20
  have g21 := (hce 21).trans x21
  have g22 := (hce 22).trans x22
  clear hce hs hd x0 x1 x5 x7 x9 x10 x15 x16 x17 x18 x19 x20 x21 x22
  subst hcc
  conv => arg 2; whnf
  simp only [lit477, g0, g1, g5, g7, g9, g10, g15, g16, g17, g18, g19, g20, g21, g22]
  clear g0 g1 g5 g7 g9 g10 g15 g16 g17 g18 g19 g20 g21 g22
  subst hz
  obtain ⟨o0, o1, o2, o3⟩ := op_cells hob
  clear hob
  have HK : Hid _ := hK
  clear hK
  go_wp2
  exact HK.out _ rfl rfl rfl rfl rfl rfl rfl rfl rfl rfl rfl rfl rfl rfl rfl rfl 
set_option maxRecDepth 100000 in
set_option maxHeartbeats 1600000 in
theorem ch_28n (hs : a.tmps.size = 477) (hd : a.defers = []) (x0 : a.eval (.tmp 0) = .int .i64 n) (x1 : a.eval (.tmp 1) = .slice ta Lc tc) (x5 : a.eval (.tmp 5) = .pointer (some ⟨p, 0, none⟩)) (x7 : a.eval (.tmp 7) = .pointer (some ⟨kb, 0, none⟩)) (x9 : a.eval (.tmp 9) = .pointer (some ⟨c, 0, none⟩)) (x10 : a.eval (.tmp 10) = .pointer (some ⟨c2, 0, none⟩)) (x15 : a.eval (.tmp 15) = .slice (some ⟨g, 0, none⟩) rl rc) (x16 : a.eval (.tmp 16) = .int .i64 now) (x17 : a.eval (.tmp 17) = .int .i64 used) (x18 : a.eval (.tmp 18) = .int .i64 ct) (x19 : a.eval (.tmp 19) = .int .i64 i) (x20 : a.eval (.tmp 20) = .pointer (some ⟨ob, 0, none⟩)) (x21 : a.eval (.tmp 21) = .slice va vl vc) (x22 : a.eval (.tmp 22) = .int .i64 lh)
    (hob : x.heap[ob]? = some (opO kd oa od sa sl sc)) (hz : (od == 0) = false)
    (hK : ∀ a', a'.tmps.size = 477 → a'.defers = [] → a'.eval (.tmp 0) = .int .i64 n → a'.eval (.tmp 1) = .slice ta Lc tc → a'.eval (.tmp 5) = .pointer (some ⟨p, 0, none⟩) → a'.eval (.tmp 7) = .pointer (some ⟨kb, 0, none⟩) → a'.eval (.tmp 9) = .pointer (some ⟨c, 0, none⟩) → a'.eval (.tmp 10) = .pointer (some ⟨c2, 0, none⟩) → a'.eval (.tmp 15) = .slice (some ⟨g, 0, none⟩) rl rc → a'.eval (.tmp 16) = .int .i64 now → a'.eval (.tmp 17) = .int .i64 used → a'.eval (.tmp 18) = .int .i64 ct → a'.eval (.tmp 19) = .int .i64 i → a'.eval (.tmp 20) = .pointer (some ⟨ob, 0, none⟩) → a'.eval (.tmp 21) = .slice va vl vc → a'.eval (.tmp 22) = .int .i64 od →  K a' x) : (atc Try.f3.body [1, 1, 1, 1, 1, 1, 1, 1, 1, 1, 1, 1, 1, 1, 0, 1, 0, 0, 1, 0, 0, 1, 0, 1, 0, 1, 0, 1, 1, 1, 0]).wp Try.prog (Exit.then K Q) a x := by
  obtain ⟨cc, hcc, hce⟩ := expand477 hs hd
  have g0 := (hce 0).trans x0
  have g1 := (hce 1).trans x1
  have g5 := (hce 5).trans x5
  have g7 := (hce 7).trans x7
  have g9 := (hce 9).trans x9
  have g10 := (hce 10).trans x10
  have g15 := (hce 15).trans x15
  have g16 := (hce 16).trans x16
  have g17 := (hce 17).trans x17
  have g18 := (hce 18).trans x18
  have g19 := (hce 19).trans x19
  have g20 := (hce 20).trans x20
  have g21 := (hce 21).trans x21
  have g22 := (hce 22).trans x22
  clear hce hs hd x0 x1 x5 x7 x9 x10 x15 x16 x17 x18 x19 x20 x21 x22
  subst hcc
  conv => arg 2; whnf
  simp only [lit477, g0, g1, g5, g7, g9, g10, g15, g16, g17, g18, g19, g20, g21, g22]
  clear g0 g1 g5 g7 g9 g10 g15 g16 g17 g18 g19 g20 g21 g22
  obtain ⟨o0, o1, o2, o3⟩ := op_cells hob
  clear hob
  have HK : Hid _ := hK
  clear hK
  go_wp2
  exact HK.out _ rfl rfl rfl rfl rfl rfl rfl rfl rfl rfl rfl rfl rfl rfl rfl rfl 
set_option maxRecDepth 100000 in
set_option maxHeartbeats 1600000 in
theorem ch_30 (hs : a.tmps.size = 477) (hd : a.defers = []) (x0 : a.eval (.tmp 0) = .int .i64 n) (x1 : a.eval (.tmp 1) = .slice ta Lc tc) (x5 : a.eval (.tmp 5) = .pointer (some ⟨p, 0, none⟩)) (x7 : a.eval (.tmp 7) = .pointer (some ⟨kb, 0, none⟩)) (x9 : a.eval (.tmp 9) = .pointer (some ⟨c, 0, none⟩)) (x10 : a.eval (.tmp 10) = .pointer (some ⟨c2, 0, none⟩)) (x15 : a.eval (.tmp 15) = .slice (some ⟨g, 0, none⟩) rl rc) (x16 : a.eval (.tmp 16) = .int .i64 now) (x17 : a.eval (.tmp 17) = .int .i64 used) (x18 : a.eval (.tmp 18) = .int .i64 ct) (x19 : a.eval (.tmp 19) = .int .i64 i) (x20 : a.eval (.tmp 20) = .pointer (some ⟨ob, 0, none⟩)) (x21 : a.eval (.tmp 21) = .slice va vl vc) (x22 : a.eval (.tmp 22) = .int .i64 old)
    (hob : x.heap[ob]? = some (opO kd oa od sa sl sc)) {er : Int} {PP : Int → World → Prop} (HP : Calls Try.prog 11 #[pp c, .pointer none, .int .i64 old, .agg #[.int .i64 oa, .int .i64 i, .int .i64 0, .int .i64 0], .slice va vl vc] x fun e x' => ∃ h', e = .returned (.tuple #[.int .i64 h', .bool t, .int .i64 er]) ∧ PP h' x')
    (hK : ∀ a' y nh, a'.tmps.size = 477 → a'.defers = [] → a'.eval (.tmp 0) = .int .i64 n → a'.eval (.tmp 1) = .slice ta Lc tc → a'.eval (.tmp 5) = .pointer (some ⟨p, 0, none⟩) → a'.eval (.tmp 7) = .pointer (some ⟨kb, 0, none⟩) → a'.eval (.tmp 9) = .pointer (some ⟨c, 0, none⟩) → a'.eval (.tmp 10) = .pointer (some ⟨c2, 0, none⟩) → a'.eval (.tmp 15) = .slice (some ⟨g, 0, none⟩) rl rc → a'.eval (.tmp 16) = .int .i64 now → a'.eval (.tmp 17) = .int .i64 used → a'.eval (.tmp 18) = .int .i64 ct → a'.eval (.tmp 19) = .int .i64 i → a'.eval (.tmp 20) = .pointer (some ⟨ob, 0, none⟩) → a'.eval (.tmp 21) = .slice va vl vc → a'.eval (.tmp 22) = .int .i64 old → a'.eval (.tmp 23) = .int .i64 nh → a'.eval (.tmp 24) = .bool t → a'.eval (.tmp 25) = .int .i64 er → PP nh y → K a' y) : (atc Try.f3.body [1, 1, 1, 1, 1, 1, 1, 1, 1, 1, 1, 1, 1, 1, 0, 1, 0, 0, 1, 0, 0, 1, 0, 1, 0, 1, 0, 1, 1, 1, 1, 0]).wp Try.prog (Exit.then K Q) a x := by
  obtain ⟨cc, hcc, hce⟩ := expand477 hs hd
  have g0 := (hce 0).trans x0
  have g1 := (hce 1).trans x1
  have g5 := (hce 5).trans x5
  have g7 := (hce 7).trans x7
  have g9 := (hce 9).trans x9
  have g10 := (hce 10).trans x10
  have g15 := (hce 15).trans x15
  have g16 := (hce 16).trans x16
  have g17 := (hce 17).trans x17
  have g18 := (hce 18).trans x18
  have g19 := (hce 19).trans x19
  have g20 := (hce 20).trans x20
  have g21 := (hce 21).trans x21
  have g22 := (hce 22).trans x22
  clear hce hs hd x0 x1 x5 x7 x9 x10 x15 x16 x17 x18 x19 x20 x21 x22
  subst hcc
  conv => arg 2; whnf
  simp only [lit477, g0, g1, g5, g7, g9, g10, g15, g16, g17, g18, g19, g20, g21, g22]
  clear g0 g1 g5 g7 g9 g10 g15 g16 g17 g18 g19 g20 g21 g22
  obtain ⟨o0, o1, o2, o3⟩ := op_cells hob
  clear hob
  have HK : Hid _ := hK
  clear hK
  go_wp2_with (go_at_call 11; refine HP.mono ?_; rintro e w1 ⟨h', rfl, hp⟩; have HPP : Hid _ := hp; clear hp HP)
  exact HK.out _ _ _ rfl rfl rfl rfl rfl rfl rfl rfl rfl rfl rfl rfl rfl rfl rfl rfl rfl rfl rfl HPP.out
set_option maxRecDepth 100000 in
set_option maxHeartbeats 1600000 in
theorem ch_31f (hs : a.tmps.size = 477) (hd : a.defers = []) (x0 : a.eval (.tmp 0) = .int .i64 n) (x1 : a.eval (.tmp 1) = .slice ta Lc tc) (x5 : a.eval (.tmp 5) = .pointer (some ⟨p, 0, none⟩)) (x7 : a.eval (.tmp 7) = .pointer (some ⟨kb, 0, none⟩)) (x9 : a.eval (.tmp 9) = .pointer (some ⟨c, 0, none⟩)) (x10 : a.eval (.tmp 10) = .pointer (some ⟨c2, 0, none⟩)) (x15 : a.eval (.tmp 15) = .slice (some ⟨g, 0, none⟩) rl rc) (x16 : a.eval (.tmp 16) = .int .i64 now) (x17 : a.eval (.tmp 17) = .int .i64 used) (x18 : a.eval (.tmp 18) = .int .i64 ct) (x19 : a.eval (.tmp 19) = .int .i64 i) (x23 : a.eval (.tmp 23) = .int .i64 0) (x24 : a.eval (.tmp 24) = .bool false) (x25 : a.eval (.tmp 25) = .int .i64 102)
    (hu : used = n)
    (hQ : ∀ a', a'.tmps.size = 477 → a'.defers = [] → a'.eval (.tmp 0) = .int .i64 n → a'.eval (.tmp 1) = .slice ta Lc tc → a'.eval (.tmp 5) = .pointer (some ⟨p, 0, none⟩) → a'.eval (.tmp 7) = .pointer (some ⟨kb, 0, none⟩) → a'.eval (.tmp 9) = .pointer (some ⟨c, 0, none⟩) → a'.eval (.tmp 10) = .pointer (some ⟨c2, 0, none⟩) → a'.eval (.tmp 15) = .slice (some ⟨g, 0, none⟩) rl rc → a'.eval (.tmp 16) = .int .i64 now → a'.eval (.tmp 17) = .int .i64 used → a'.eval (.tmp 18) = .int .i64 ct → a'.eval (.tmp 19) = .int .i64 i →  Q (.exit 2) a' x) : (atc Try.f3.body [1, 1, 1, 1, 1, 1, 1, 1, 1, 1, 1, 1, 1, 1, 0, 1, 0, 0, 1, 0, 0, 1, 0, 1, 0, 1, 0, 1, 1, 1, 1, 1, 0]).wp Try.prog (Exit.then K Q) a x := by
  obtain ⟨cc, hcc, hce⟩ := expand477 hs hd
  have g0 := (hce 0).trans x0
  have g1 := (hce 1).trans x1
  have g5 := (hce 5).trans x5
  have g7 := (hce 7).trans x7
  have g9 := (hce 9).trans x9
  have g10 := (hce 10).trans x10
  have g15 := (hce 15).trans x15
  have g16 := (hce 16).trans x16
  have g17 := (hce 17).trans x17
  have g18 := (hce 18).trans x18
  have g19 := (hce 19).trans x19
  have g23 := (hce 23).trans x23
  have g24 := (hce 24).trans x24
  have g25 := (hce 25).trans x25
  clear hce hs hd x0 x1 x5 x7 x9 x10 x15 x16 x17 x18 x19 x23 x24 x25
  subst hcc
  conv => arg 2; whnf
  simp only [lit477, g0, g1, g5, g7, g9, g10, g15, g16, g17, g18, g19, g23, g24, g25]
  clear g0 g1 g5 g7 g9 g10 g15 g16 g17 g18 g19 g23 g24 g25
  subst hu
  have HK : Hid _ := hQ
  clear hQ
  go_wp2
  exact HK.out _ rfl rfl rfl rfl rfl rfl rfl rfl rfl rfl rfl rfl rfl 
set_option maxRecDepth 100000 in
set_option maxHeartbeats 1600000 in
theorem ch_31 (hs : a.tmps.size = 477) (hd : a.defers = []) (x0 : a.eval (.tmp 0) = .int .i64 n) (x1 : a.eval (.tmp 1) = .slice ta Lc tc) (x5 : a.eval (.tmp 5) = .pointer (some ⟨p, 0, none⟩)) (x7 : a.eval (.tmp 7) = .pointer (some ⟨kb, 0, none⟩)) (x9 : a.eval (.tmp 9) = .pointer (some ⟨c, 0, none⟩)) (x10 : a.eval (.tmp 10) = .pointer (some ⟨c2, 0, none⟩)) (x15 : a.eval (.tmp 15) = .slice (some ⟨g, 0, none⟩) rl rc) (x16 : a.eval (.tmp 16) = .int .i64 now) (x17 : a.eval (.tmp 17) = .int .i64 used) (x18 : a.eval (.tmp 18) = .int .i64 ct) (x19 : a.eval (.tmp 19) = .int .i64 i) (x20 : a.eval (.tmp 20) = .pointer (some ⟨ob, 0, none⟩)) (x21 : a.eval (.tmp 21) = .slice va vl vc) (x22 : a.eval (.tmp 22) = .int .i64 old) (x23 : a.eval (.tmp 23) = .int .i64 nh) (x24 : a.eval (.tmp 24) = .bool t) (x25 : a.eval (.tmp 25) = .int .i64 0)
    (hu : ((used : Int) == n) = false)
    (hK : ∀ a', a'.tmps.size = 477 → a'.defers = [] → a'.eval (.tmp 0) = .int .i64 n → a'.eval (.tmp 1) = .slice ta Lc tc → a'.eval (.tmp 5) = .pointer (some ⟨p, 0, none⟩) → a'.eval (.tmp 7) = .pointer (some ⟨kb, 0, none⟩) → a'.eval (.tmp 9) = .pointer (some ⟨c, 0, none⟩) → a'.eval (.tmp 10) = .pointer (some ⟨c2, 0, none⟩) → a'.eval (.tmp 15) = .slice (some ⟨g, 0, none⟩) rl rc → a'.eval (.tmp 16) = .int .i64 now → a'.eval (.tmp 17) = .int .i64 used → a'.eval (.tmp 18) = .int .i64 ct → a'.eval (.tmp 19) = .int .i64 i → a'.eval (.tmp 20) = .pointer (some ⟨ob, 0, none⟩) → a'.eval (.tmp 21) = .slice va vl vc → a'.eval (.tmp 22) = .int .i64 old → a'.eval (.tmp 23) = .int .i64 nh → a'.eval (.tmp 24) = .bool t → a'.eval (.tmp 25) = .int .i64 0 →  K a' x) : (atc Try.f3.body [1, 1, 1, 1, 1, 1, 1, 1, 1, 1, 1, 1, 1, 1, 0, 1, 0, 0, 1, 0, 0, 1, 0, 1, 0, 1, 0, 1, 1, 1, 1, 1, 0]).wp Try.prog (Exit.then K Q) a x := by
  obtain ⟨cc, hcc, hce⟩ := expand477 hs hd
  have g0 := (hce 0).trans x0
  have g1 := (hce 1).trans x1
  have g5 := (hce 5).trans x5
  have g7 := (hce 7).trans x7
  have g9 := (hce 9).trans x9
  have g10 := (hce 10).trans x10
  have g15 := (hce 15).trans x15
  have g16 := (hce 16).trans x16
  have g17 := (hce 17).trans x17
  have g18 := (hce 18).trans x18
  have g19 := (hce 19).trans x19
  have g20 := (hce 20).trans x20
  have g21 := (hce 21).trans x21
  have g22 := (hce 22).trans x22
  have g23 := (hce 23).trans x23
  have g24 := (hce 24).trans x24
  have g25 := (hce 25).trans x25
  clear hce hs hd x0 x1 x5 x7 x9 x10 x15 x16 x17 x18 x19 x20 x21 x22 x23 x24 x25
  subst hcc
  conv => arg 2; whnf
  simp only [lit477, g0, g1, g5, g7, g9, g10, g15, g16, g17, g18, g19, g20, g21, g22, g23, g24, g25]
  clear g0 g1 g5 g7 g9 g10 g15 g16 g17 g18 g19 g20 g21 g22 g23 g24 g25
  have HK : Hid _ := hK
  clear hK
  go_wp2
  exact HK.out _ rfl rfl rfl rfl rfl rfl rfl rfl rfl rfl rfl rfl rfl rfl rfl rfl rfl rfl rfl 
set_option maxRecDepth 100000 in
set_option maxHeartbeats 1600000 in
theorem ch_34t (hs : a.tmps.size = 477) (hd : a.defers = []) (x0 : a.eval (.tmp 0) = .int .i64 n) (x1 : a.eval (.tmp 1) = .slice ta Lc tc) (x5 : a.eval (.tmp 5) = .pointer (some ⟨p, 0, none⟩)) (x7 : a.eval (.tmp 7) = .pointer (some ⟨kb, 0, none⟩)) (x9 : a.eval (.tmp 9) = .pointer (some ⟨c, 0, none⟩)) (x10 : a.eval (.tmp 10) = .pointer (some ⟨c2, 0, none⟩)) (x15 : a.eval (.tmp 15) = .slice (some ⟨g, 0, none⟩) rl rc) (x16 : a.eval (.tmp 16) = .int .i64 now) (x17 : a.eval (.tmp 17) = .int .i64 used) (x18 : a.eval (.tmp 18) = .int .i64 ct) (x19 : a.eval (.tmp 19) = .int .i64 i) (x20 : a.eval (.tmp 20) = .pointer (some ⟨ob, 0, none⟩)) (x21 : a.eval (.tmp 21) = .slice va vl vc) (x22 : a.eval (.tmp 22) = .int .i64 lh) (x23 : a.eval (.tmp 23) = .int .i64 nh) (x24 : a.eval (.tmp 24) = .bool true) (x25 : a.eval (.tmp 25) = .int .i64 0)
    (hob : x.heap[ob]? = some (opO kd oa od sa sl sc)) (hr0 : x.cell? ⟨g, 0, none⟩ = some (.int .i64 lh)) (hrl : (0 : Int) < rl)  (h2 : (nh == 0) = false) (HI : Calls Try.prog 12 #[.slice va vl vc, .slice sa sl sc] x fun e x' => e = .returned (.bool true) ∧ Turned [] x x')
    (hK : ∀ a' y, a'.tmps.size = 477 → a'.defers = [] → a'.eval (.tmp 0) = .int .i64 n → a'.eval (.tmp 1) = .slice ta Lc tc → a'.eval (.tmp 5) = .pointer (some ⟨p, 0, none⟩) → a'.eval (.tmp 7) = .pointer (some ⟨kb, 0, none⟩) → a'.eval (.tmp 9) = .pointer (some ⟨c, 0, none⟩) → a'.eval (.tmp 10) = .pointer (some ⟨c2, 0, none⟩) → a'.eval (.tmp 15) = .slice (some ⟨g, 0, none⟩) rl rc → a'.eval (.tmp 16) = .int .i64 now → a'.eval (.tmp 17) = .int .i64 used → a'.eval (.tmp 18) = .int .i64 ct → a'.eval (.tmp 19) = .int .i64 i → a'.eval (.tmp 20) = .pointer (some ⟨ob, 0, none⟩) → a'.eval (.tmp 21) = .slice va vl vc → a'.eval (.tmp 23) = .int .i64 nh → a'.eval (.tmp 24) = .bool true → Turned [] x y → K a' y) : (atc Try.f3.body [1, 1, 1, 1, 1, 1, 1, 1, 1, 1, 1, 1, 1, 1, 0, 1, 0, 0, 1, 0, 0, 1, 0, 1, 0, 1, 0, 1, 1, 1, 1, 1, 1, 0]).wp Try.prog (Exit.then K Q) a x := by
  obtain ⟨cc, hcc, hce⟩ := expand477 hs hd
  have g0 := (hce 0).trans x0
  have g1 := (hce 1).trans x1
  have g5 := (hce 5).trans x5
  have g7 := (hce 7).trans x7
  have g9 := (hce 9).trans x9
  have g10 := (hce 10).trans x10
  have g15 := (hce 15).trans x15
  have g16 := (hce 16).trans x16
  have g17 := (hce 17).trans x17
  have g18 := (hce 18).trans x18
  have g19 := (hce 19).trans x19
  have g20 := (hce 20).trans x20
  have g21 := (hce 21).trans x21
  have g22 := (hce 22).trans x22
  have g23 := (hce 23).trans x23
  have g24 := (hce 24).trans x24
  have g25 := (hce 25).trans x25
  clear hce hs hd x0 x1 x5 x7 x9 x10 x15 x16 x17 x18 x19 x20 x21 x22 x23 x24 x25
  subst hcc
  conv => arg 2; whnf
  simp only [lit477, g0, g1, g5, g7, g9, g10, g15, g16, g17, g18, g19, g20, g21, g22, g23, g24, g25]
  clear g0 g1 g5 g7 g9 g10 g15 g16 g17 g18 g19 g20 g21 g22 g23 g24 g25
  obtain ⟨o0, o1, o2, o3⟩ := op_cells hob
  clear hob
  have HK : Hid _ := hK
  clear hK
  go_wp2_with (go_at_call 12; refine HI.mono ?_; rintro e w1 ⟨rfl, ht1⟩; have HT1 : Hid _ := ht1; clear ht1 HI)
  · rename_i h; rw [h] at h2; simp at h2
  · rename_i h; have h3 : nh = 0 := by simpa using h
    rw [h3] at h2; simp at h2
  exact HK.out _ _ rfl rfl rfl rfl rfl rfl rfl rfl rfl rfl rfl rfl rfl rfl rfl rfl rfl HT1.out
set_option maxRecDepth 100000 in
set_option maxHeartbeats 1600000 in
theorem ch_34f (hs : a.tmps.size = 477) (hd : a.defers = []) (x0 : a.eval (.tmp 0) = .int .i64 n) (x1 : a.eval (.tmp 1) = .slice ta Lc tc) (x5 : a.eval (.tmp 5) = .pointer (some ⟨p, 0, none⟩)) (x7 : a.eval (.tmp 7) = .pointer (some ⟨kb, 0, none⟩)) (x9 : a.eval (.tmp 9) = .pointer (some ⟨c, 0, none⟩)) (x10 : a.eval (.tmp 10) = .pointer (some ⟨c2, 0, none⟩)) (x15 : a.eval (.tmp 15) = .slice (some ⟨g, 0, none⟩) rl rc) (x16 : a.eval (.tmp 16) = .int .i64 now) (x17 : a.eval (.tmp 17) = .int .i64 used) (x18 : a.eval (.tmp 18) = .int .i64 ct) (x19 : a.eval (.tmp 19) = .int .i64 i) (x20 : a.eval (.tmp 20) = .pointer (some ⟨ob, 0, none⟩)) (x21 : a.eval (.tmp 21) = .slice va vl vc) (x22 : a.eval (.tmp 22) = .int .i64 old) (x23 : a.eval (.tmp 23) = .int .i64 nh) (x24 : a.eval (.tmp 24) = .bool false) (x25 : a.eval (.tmp 25) = .int .i64 0)
    (hob : x.heap[ob]? = some (opO kd oa od sa sl sc)) (hr0 : x.cell? ⟨g, 0, none⟩ = some (.int .i64 lh)) (hrl : (0 : Int) < rl) (h1 : (old == lh) = false) (h2 : nh = 0) (HI : Calls Try.prog 12 #[.slice va vl vc, .slice sa sl sc] x fun e x' => e = .returned (.bool true) ∧ Turned [] x x')
    (hK : ∀ a' y, a'.tmps.size = 477 → a'.defers = [] → a'.eval (.tmp 0) = .int .i64 n → a'.eval (.tmp 1) = .slice ta Lc tc → a'.eval (.tmp 5) = .pointer (some ⟨p, 0, none⟩) → a'.eval (.tmp 7) = .pointer (some ⟨kb, 0, none⟩) → a'.eval (.tmp 9) = .pointer (some ⟨c, 0, none⟩) → a'.eval (.tmp 10) = .pointer (some ⟨c2, 0, none⟩) → a'.eval (.tmp 15) = .slice (some ⟨g, 0, none⟩) rl rc → a'.eval (.tmp 16) = .int .i64 now → a'.eval (.tmp 17) = .int .i64 used → a'.eval (.tmp 18) = .int .i64 ct → a'.eval (.tmp 19) = .int .i64 i → a'.eval (.tmp 20) = .pointer (some ⟨ob, 0, none⟩) → a'.eval (.tmp 21) = .slice va vl vc → a'.eval (.tmp 23) = .int .i64 nh → a'.eval (.tmp 24) = .bool false → Turned [] x y → K a' y) : (atc Try.f3.body [1, 1, 1, 1, 1, 1, 1, 1, 1, 1, 1, 1, 1, 1, 0, 1, 0, 0, 1, 0, 0, 1, 0, 1, 0, 1, 0, 1, 1, 1, 1, 1, 1, 0]).wp Try.prog (Exit.then K Q) a x := by
  obtain ⟨cc, hcc, hce⟩ := expand477 hs hd
  have g0 := (hce 0).trans x0
  have g1 := (hce 1).trans x1
  have g5 := (hce 5).trans x5
  have g7 := (hce 7).trans x7
  have g9 := (hce 9).trans x9
  have g10 := (hce 10).trans x10
  have g15 := (hce 15).trans x15
  have g16 := (hce 16).trans x16
  have g17 := (hce 17).trans x17
  have g18 := (hce 18).trans x18
  have g19 := (hce 19).trans x19
  have g20 := (hce 20).trans x20
  have g21 := (hce 21).trans x21
  have g22 := (hce 22).trans x22
  have g23 := (hce 23).trans x23
  have g24 := (hce 24).trans x24
  have g25 := (hce 25).trans x25
  clear hce hs hd x0 x1 x5 x7 x9 x10 x15 x16 x17 x18 x19 x20 x21 x22 x23 x24 x25
  subst hcc
  conv => arg 2; whnf
  simp only [lit477, g0, g1, g5, g7, g9, g10, g15, g16, g17, g18, g19, g20, g21, g22, g23, g24, g25]
  clear g0 g1 g5 g7 g9 g10 g15 g16 g17 g18 g19 g20 g21 g22 g23 g24 g25
  obtain ⟨o0, o1, o2, o3⟩ := op_cells hob
  clear hob
  subst h2
  have HK : Hid _ := hK
  clear hK
  go_wp2_with (go_at_call 12; refine HI.mono ?_; rintro e w1 ⟨rfl, ht1⟩; have HT1 : Hid _ := ht1; clear ht1 HI)
  exact HK.out _ _ rfl rfl rfl rfl rfl rfl rfl rfl rfl rfl rfl rfl rfl rfl rfl rfl rfl HT1.out
set_option maxRecDepth 100000 in
set_option maxHeartbeats 1600000 in
theorem ch_36 (hs : a.tmps.size = 477) (hd : a.defers = []) (x0 : a.eval (.tmp 0) = .int .i64 n) (x1 : a.eval (.tmp 1) = .slice ta Lc tc) (x5 : a.eval (.tmp 5) = .pointer (some ⟨p, 0, none⟩)) (x7 : a.eval (.tmp 7) = .pointer (some ⟨kb, 0, none⟩)) (x9 : a.eval (.tmp 9) = .pointer (some ⟨c, 0, none⟩)) (x10 : a.eval (.tmp 10) = .pointer (some ⟨c2, 0, none⟩)) (x15 : a.eval (.tmp 15) = .slice (some ⟨g, 0, none⟩) rl rc) (x16 : a.eval (.tmp 16) = .int .i64 now) (x17 : a.eval (.tmp 17) = .int .i64 used) (x18 : a.eval (.tmp 18) = .int .i64 ct) (x19 : a.eval (.tmp 19) = .int .i64 i) (x20 : a.eval (.tmp 20) = .pointer (some ⟨ob, 0, none⟩)) (x21 : a.eval (.tmp 21) = .slice va vl vc) (x23 : a.eval (.tmp 23) = .int .i64 nh) (x24 : a.eval (.tmp 24) = .bool t)
    
    (hK : ∀ a', a'.tmps.size = 477 → a'.defers = [] → a'.eval (.tmp 0) = .int .i64 n → a'.eval (.tmp 1) = .slice ta Lc tc → a'.eval (.tmp 5) = .pointer (some ⟨p, 0, none⟩) → a'.eval (.tmp 7) = .pointer (some ⟨kb, 0, none⟩) → a'.eval (.tmp 9) = .pointer (some ⟨c, 0, none⟩) → a'.eval (.tmp 10) = .pointer (some ⟨c2, 0, none⟩) → a'.eval (.tmp 15) = .slice (some ⟨g, 0, none⟩) rl rc → a'.eval (.tmp 16) = .int .i64 now → a'.eval (.tmp 17) = .int .i64 used → a'.eval (.tmp 18) = .int .i64 ct → a'.eval (.tmp 19) = .int .i64 i → a'.eval (.tmp 20) = .pointer (some ⟨ob, 0, none⟩) → a'.eval (.tmp 21) = .slice va vl vc → a'.eval (.tmp 23) = .int .i64 nh → a'.eval (.tmp 24) = .bool t → a'.eval (.tmp 26) = .int .i64 0 →  K a' x) : (atc Try.f3.body [1, 1, 1, 1, 1, 1, 1, 1, 1, 1, 1, 1, 1, 1, 0, 1, 0, 0, 1, 0, 0, 1, 0, 1, 0, 1, 0, 1, 1, 1, 1, 1, 1, 1, 0, 0]).wp Try.prog (Exit.then K Q) a x := by
  obtain ⟨cc, hcc, hce⟩ := expand477 hs hd
  have g0 := (hce 0).trans x0
  have g1 := (hce 1).trans x1
  have g5 := (hce 5).trans x5
  have g7 := (hce 7).trans x7
  have g9 := (hce 9).trans x9
  have g10 := (hce 10).trans x10
  have g15 := (hce 15).trans x15
  have g16 := (hce 16).trans x16
  have g17 := (hce 17).trans x17
  have g18 := (hce 18).trans x18
  have g19 := (hce 19).trans x19
  have g20 := (hce 20).trans x20
  have g21 := (hce 21).trans x21
  have g23 := (hce 23).trans x23
  have g24 := (hce 24).trans x24
  clear hce hs hd x0 x1 x5 x7 x9 x10 x15 x16 x17 x18 x19 x20 x21 x23 x24
  subst hcc
  conv => arg 2; whnf
  simp only [lit477, g0, g1, g5, g7, g9, g10, g15, g16, g17, g18, g19, g20, g21, g23, g24]
  clear g0 g1 g5 g7 g9 g10 g15 g16 g17 g18 g19 g20 g21 g23 g24
  have HK : Hid _ := hK
  clear hK
  go_wp2
  exact HK.out _ rfl rfl rfl rfl rfl rfl rfl rfl rfl rfl rfl rfl rfl rfl rfl rfl rfl rfl 
set_option maxRecDepth 100000 in
set_option maxHeartbeats 1600000 in
theorem ch_37go (hs : a.tmps.size = 477) (hd : a.defers = []) (x0 : a.eval (.tmp 0) = .int .i64 n) (x1 : a.eval (.tmp 1) = .slice ta Lc tc) (x5 : a.eval (.tmp 5) = .pointer (some ⟨p, 0, none⟩)) (x7 : a.eval (.tmp 7) = .pointer (some ⟨kb, 0, none⟩)) (x9 : a.eval (.tmp 9) = .pointer (some ⟨c, 0, none⟩)) (x10 : a.eval (.tmp 10) = .pointer (some ⟨c2, 0, none⟩)) (x15 : a.eval (.tmp 15) = .slice (some ⟨g, 0, none⟩) rl rc) (x16 : a.eval (.tmp 16) = .int .i64 now) (x17 : a.eval (.tmp 17) = .int .i64 used) (x18 : a.eval (.tmp 18) = .int .i64 ct) (x19 : a.eval (.tmp 19) = .int .i64 i) (x20 : a.eval (.tmp 20) = .pointer (some ⟨ob, 0, none⟩)) (x21 : a.eval (.tmp 21) = .slice (some ⟨vb, 0, none⟩) vl vc) (x23 : a.eval (.tmp 23) = .int .i64 nh) (x24 : a.eval (.tmp 24) = .bool t) (x26 : a.eval (.tmp 26) = .int .i64 k)
    {z : Int} (hk : (k : Int) < vl) (hv : vl ≤ 10000) (hc : x.cell? ⟨vb, k, none⟩ = some (.int .i64 z)) (hz : x.frozen? ⟨vb, k, none⟩ = false)
    (hK : ∀ a' y, a'.tmps.size = 477 → a'.defers = [] → a'.eval (.tmp 0) = .int .i64 n → a'.eval (.tmp 1) = .slice ta Lc tc → a'.eval (.tmp 5) = .pointer (some ⟨p, 0, none⟩) → a'.eval (.tmp 7) = .pointer (some ⟨kb, 0, none⟩) → a'.eval (.tmp 9) = .pointer (some ⟨c, 0, none⟩) → a'.eval (.tmp 10) = .pointer (some ⟨c2, 0, none⟩) → a'.eval (.tmp 15) = .slice (some ⟨g, 0, none⟩) rl rc → a'.eval (.tmp 16) = .int .i64 now → a'.eval (.tmp 17) = .int .i64 used → a'.eval (.tmp 18) = .int .i64 ct → a'.eval (.tmp 19) = .int .i64 i → a'.eval (.tmp 20) = .pointer (some ⟨ob, 0, none⟩) → a'.eval (.tmp 21) = .slice (some ⟨vb, 0, none⟩) vl vc → a'.eval (.tmp 23) = .int .i64 nh → a'.eval (.tmp 24) = .bool t → a'.eval (.tmp 26) = .int .i64 ((k + 1 : Nat) : Int) → y = x.setCell ⟨vb, k, none⟩ (.int .i64 (-44)) → K a' y) : (atc Try.f3.body [1, 1, 1, 1, 1, 1, 1, 1, 1, 1, 1, 1, 1, 1, 0, 1, 0, 0, 1, 0, 0, 1, 0, 1, 0, 1, 0, 1, 1, 1, 1, 1, 1, 1, 0, 1, 0, 0]).wp Try.prog (Exit.then K Q) a x := by
  obtain ⟨cc, hcc, hce⟩ := expand477 hs hd
  have g0 := (hce 0).trans x0
  have g1 := (hce 1).trans x1
  have g5 := (hce 5).trans x5
  have g7 := (hce 7).trans x7
  have g9 := (hce 9).trans x9
  have g10 := (hce 10).trans x10
  have g15 := (hce 15).trans x15
  have g16 := (hce 16).trans x16
  have g17 := (hce 17).trans x17
  have g18 := (hce 18).trans x18
  have g19 := (hce 19).trans x19
  have g20 := (hce 20).trans x20
  have g21 := (hce 21).trans x21
  have g23 := (hce 23).trans x23
  have g24 := (hce 24).trans x24
  have g26 := (hce 26).trans x26
  clear hce hs hd x0 x1 x5 x7 x9 x10 x15 x16 x17 x18 x19 x20 x21 x23 x24 x26
  subst hcc
  conv => arg 2; whnf
  simp only [lit477, g0, g1, g5, g7, g9, g10, g15, g16, g17, g18, g19, g20, g21, g23, g24, g26]
  clear g0 g1 g5 g7 g9 g10 g15 g16 g17 g18 g19 g20 g21 g23 g24 g26
  have HK : Hid _ := hK
  clear hK
  go_wp2
  exact HK.out _ _ rfl rfl rfl rfl rfl rfl rfl rfl rfl rfl rfl rfl rfl rfl rfl rfl rfl rfl rfl
set_option maxRecDepth 100000 in
set_option maxHeartbeats 1600000 in
theorem ch_37end (hs : a.tmps.size = 477) (hd : a.defers = []) (x0 : a.eval (.tmp 0) = .int .i64 n) (x1 : a.eval (.tmp 1) = .slice ta Lc tc) (x5 : a.eval (.tmp 5) = .pointer (some ⟨p, 0, none⟩)) (x7 : a.eval (.tmp 7) = .pointer (some ⟨kb, 0, none⟩)) (x9 : a.eval (.tmp 9) = .pointer (some ⟨c, 0, none⟩)) (x10 : a.eval (.tmp 10) = .pointer (some ⟨c2, 0, none⟩)) (x15 : a.eval (.tmp 15) = .slice (some ⟨g, 0, none⟩) rl rc) (x16 : a.eval (.tmp 16) = .int .i64 now) (x17 : a.eval (.tmp 17) = .int .i64 used) (x18 : a.eval (.tmp 18) = .int .i64 ct) (x19 : a.eval (.tmp 19) = .int .i64 i) (x20 : a.eval (.tmp 20) = .pointer (some ⟨ob, 0, none⟩)) (x21 : a.eval (.tmp 21) = .slice va vl vc) (x23 : a.eval (.tmp 23) = .int .i64 nh) (x24 : a.eval (.tmp 24) = .bool t) (x26 : a.eval (.tmp 26) = .int .i64 vl)
    
    (hQ : ∀ a', a'.tmps.size = 477 → a'.defers = [] → a'.eval (.tmp 0) = .int .i64 n → a'.eval (.tmp 1) = .slice ta Lc tc → a'.eval (.tmp 5) = .pointer (some ⟨p, 0, none⟩) → a'.eval (.tmp 7) = .pointer (some ⟨kb, 0, none⟩) → a'.eval (.tmp 9) = .pointer (some ⟨c, 0, none⟩) → a'.eval (.tmp 10) = .pointer (some ⟨c2, 0, none⟩) → a'.eval (.tmp 15) = .slice (some ⟨g, 0, none⟩) rl rc → a'.eval (.tmp 16) = .int .i64 now → a'.eval (.tmp 17) = .int .i64 used → a'.eval (.tmp 18) = .int .i64 ct → a'.eval (.tmp 19) = .int .i64 i → a'.eval (.tmp 20) = .pointer (some ⟨ob, 0, none⟩) → a'.eval (.tmp 21) = .slice va vl vc → a'.eval (.tmp 23) = .int .i64 nh → a'.eval (.tmp 24) = .bool t →  Q (.exit 3) a' x) : (atc Try.f3.body [1, 1, 1, 1, 1, 1, 1, 1, 1, 1, 1, 1, 1, 1, 0, 1, 0, 0, 1, 0, 0, 1, 0, 1, 0, 1, 0, 1, 1, 1, 1, 1, 1, 1, 0, 1, 0, 0]).wp Try.prog (Exit.then K Q) a x := by
  obtain ⟨cc, hcc, hce⟩ := expand477 hs hd
  have g0 := (hce 0).trans x0
  have g1 := (hce 1).trans x1
  have g5 := (hce 5).trans x5
  have g7 := (hce 7).trans x7
  have g9 := (hce 9).trans x9
  have g10 := (hce 10).trans x10
  have g15 := (hce 15).trans x15
  have g16 := (hce 16).trans x16
  have g17 := (hce 17).trans x17
  have g18 := (hce 18).trans x18
  have g19 := (hce 19).trans x19
  have g20 := (hce 20).trans x20
  have g21 := (hce 21).trans x21
  have g23 := (hce 23).trans x23
  have g24 := (hce 24).trans x24
  have g26 := (hce 26).trans x26
  clear hce hs hd x0 x1 x5 x7 x9 x10 x15 x16 x17 x18 x19 x20 x21 x23 x24 x26
  subst hcc
  conv => arg 2; whnf
  simp only [lit477, g0, g1, g5, g7, g9, g10, g15, g16, g17, g18, g19, g20, g21, g23, g24, g26]
  clear g0 g1 g5 g7 g9 g10 g15 g16 g17 g18 g19 g20 g21 g23 g24 g26
  have hk : ¬ (vl : Int) < vl := by omega
  have HK : Hid _ := hQ
  clear hQ
  go_wp2
  exact HK.out _ rfl rfl rfl rfl rfl rfl rfl rfl rfl rfl rfl rfl rfl rfl rfl rfl rfl 
set_option maxRecDepth 100000 in
set_option maxHeartbeats 1600000 in
theorem ch_40f (hs : a.tmps.size = 477) (hd : a.defers = []) (x0 : a.eval (.tmp 0) = .int .i64 n) (x1 : a.eval (.tmp 1) = .slice ta Lc tc) (x5 : a.eval (.tmp 5) = .pointer (some ⟨p, 0, none⟩)) (x7 : a.eval (.tmp 7) = .pointer (some ⟨kb, 0, none⟩)) (x9 : a.eval (.tmp 9) = .pointer (some ⟨c, 0, none⟩)) (x10 : a.eval (.tmp 10) = .pointer (some ⟨c2, 0, none⟩)) (x15 : a.eval (.tmp 15) = .slice (some ⟨g, 0, none⟩) rl rc) (x16 : a.eval (.tmp 16) = .int .i64 now) (x17 : a.eval (.tmp 17) = .int .i64 used) (x18 : a.eval (.tmp 18) = .int .i64 ct) (x19 : a.eval (.tmp 19) = .int .i64 i) (x24 : a.eval (.tmp 24) = .bool false)
    
    (hK : ∀ a', a'.tmps.size = 477 → a'.defers = [] → a'.eval (.tmp 0) = .int .i64 n → a'.eval (.tmp 1) = .slice ta Lc tc → a'.eval (.tmp 5) = .pointer (some ⟨p, 0, none⟩) → a'.eval (.tmp 7) = .pointer (some ⟨kb, 0, none⟩) → a'.eval (.tmp 9) = .pointer (some ⟨c, 0, none⟩) → a'.eval (.tmp 10) = .pointer (some ⟨c2, 0, none⟩) → a'.eval (.tmp 15) = .slice (some ⟨g, 0, none⟩) rl rc → a'.eval (.tmp 16) = .int .i64 now → a'.eval (.tmp 17) = .int .i64 used → a'.eval (.tmp 18) = .int .i64 ct → a'.eval (.tmp 19) = .int .i64 i →  K a' x) : (atc Try.f3.body [1, 1, 1, 1, 1, 1, 1, 1, 1, 1, 1, 1, 1, 1, 0, 1, 0, 0, 1, 0, 0, 1, 0, 1, 0, 1, 0, 1, 1, 1, 1, 1, 1, 1, 1]).wp Try.prog (Exit.then K Q) a x := by
  obtain ⟨cc, hcc, hce⟩ := expand477 hs hd
  have g0 := (hce 0).trans x0
  have g1 := (hce 1).trans x1
  have g5 := (hce 5).trans x5
  have g7 := (hce 7).trans x7
  have g9 := (hce 9).trans x9
  have g10 := (hce 10).trans x10
  have g15 := (hce 15).trans x15
  have g16 := (hce 16).trans x16
  have g17 := (hce 17).trans x17
  have g18 := (hce 18).trans x18
  have g19 := (hce 19).trans x19
  have g24 := (hce 24).trans x24
  clear hce hs hd x0 x1 x5 x7 x9 x10 x15 x16 x17 x18 x19 x24
  subst hcc
  conv => arg 2; whnf
  simp only [lit477, g0, g1, g5, g7, g9, g10, g15, g16, g17, g18, g19, g24]
  clear g0 g1 g5 g7 g9 g10 g15 g16 g17 g18 g19 g24
  have HK : Hid _ := hK
  clear hK
  go_wp2
  exact HK.out _ rfl rfl rfl rfl rfl rfl rfl rfl rfl rfl rfl rfl rfl 
set_option maxRecDepth 100000 in
set_option maxHeartbeats 1600000 in
theorem ch_40t (hs : a.tmps.size = 477) (hd : a.defers = []) (x0 : a.eval (.tmp 0) = .int .i64 n) (x1 : a.eval (.tmp 1) = .slice ta Lc tc) (x5 : a.eval (.tmp 5) = .pointer (some ⟨p, 0, none⟩)) (x7 : a.eval (.tmp 7) = .pointer (some ⟨kb, 0, none⟩)) (x9 : a.eval (.tmp 9) = .pointer (some ⟨c, 0, none⟩)) (x10 : a.eval (.tmp 10) = .pointer (some ⟨c2, 0, none⟩)) (x15 : a.eval (.tmp 15) = .slice (some ⟨g, 0, none⟩) R.length rc) (x16 : a.eval (.tmp 16) = .int .i64 now) (x17 : a.eval (.tmp 17) = .int .i64 used) (x18 : a.eval (.tmp 18) = .int .i64 ct) (x19 : a.eval (.tmp 19) = .int .i64 i) (x20 : a.eval (.tmp 20) = .pointer (some ⟨ob, 0, none⟩)) (x23 : a.eval (.tmp 23) = .int .i64 nh) (x24 : a.eval (.tmp 24) = .bool true)
    (hob : x.heap[ob]? = some (opO kd oa od sa sl sc)) {B B2 : Nat} (hR : VR B x (.slice (some ⟨g, 0, none⟩) R.length rc) R) (hl : R.length ≤ 300) (hu : used ≤ 4096) (hB : B2 ≤ x.heap.size)
    (hK : ∀ a' y v, a'.tmps.size = 477 → a'.defers = [] → a'.eval (.tmp 0) = .int .i64 n → a'.eval (.tmp 1) = .slice ta Lc tc → a'.eval (.tmp 5) = .pointer (some ⟨p, 0, none⟩) → a'.eval (.tmp 7) = .pointer (some ⟨kb, 0, none⟩) → a'.eval (.tmp 9) = .pointer (some ⟨c, 0, none⟩) → a'.eval (.tmp 10) = .pointer (some ⟨c2, 0, none⟩) → a'.eval (.tmp 15) = v → a'.eval (.tmp 16) = .int .i64 now → a'.eval (.tmp 17) = .int .i64 ((used + 1 : Nat) : Int) → a'.eval (.tmp 18) = .int .i64 ct → a'.eval (.tmp 19) = .int .i64 i → VR B2 y v (⟨⟨nh, oa, now⟩, .slice sa sl sc⟩ :: R) → Turned [] x y → K a' y) : (atc Try.f3.body [1, 1, 1, 1, 1, 1, 1, 1, 1, 1, 1, 1, 1, 1, 0, 1, 0, 0, 1, 0, 0, 1, 0, 1, 0, 1, 0, 1, 1, 1, 1, 1, 1, 1, 1]).wp Try.prog (Exit.then K Q) a x := by
  obtain ⟨cc, hcc, hce⟩ := expand477 hs hd
  have g0 := (hce 0).trans x0
  have g1 := (hce 1).trans x1
  have g5 := (hce 5).trans x5
  have g7 := (hce 7).trans x7
  have g9 := (hce 9).trans x9
  have g10 := (hce 10).trans x10
  have g15 := (hce 15).trans x15
  have g16 := (hce 16).trans x16
  have g17 := (hce 17).trans x17
  have g18 := (hce 18).trans x18
  have g19 := (hce 19).trans x19
  have g20 := (hce 20).trans x20
  have g23 := (hce 23).trans x23
  have g24 := (hce 24).trans x24
  clear hce hs hd x0 x1 x5 x7 x9 x10 x15 x16 x17 x18 x19 x20 x23 x24
  subst hcc
  conv => arg 2; whnf
  simp only [lit477, g0, g1, g5, g7, g9, g10, g15, g16, g17, g18, g19, g20, g23, g24]
  clear g0 g1 g5 g7 g9 g10 g15 g16 g17 g18 g19 g20 g23 g24
  obtain ⟨o0, o1, o2, o3⟩ := op_cells hob
  clear hob
  have HV : Hid _ := And.intro hR (And.intro hl hB)
  clear hR hl hB
  have HK : Hid _ := hK
  clear hK
  go_wp2_with (at_builtin; go_loud (refine wpList_apRow (v := .slice (some ⟨x.heap.size, 0, none⟩) 1 1) (r := ⟨⟨nh, oa, now⟩, .slice sa sl sc⟩) (R := R) (B := B2) rfl _ _ rfl rfl ⟨⟨rfl, .inr ⟨_, 1, _, rfl, HV.out.2.2, blk_new _ _, by simp, by decide, rfl, rfl⟩⟩, fun r hr => by simp at hr; subst hr; rfl⟩ rfl (HV.out.1.still ((Turned.refl [] _).alloc _)) (by have := HV.out.2.1; omega) (by have := HV.out.2.2; simp; omega) ?_; intro v' w11 hsr ht11 hor; have HSR : Hid _ := hsr; have HT11 : Hid _ := ht11; clear hsr ht11 hor))
  exact HK.out _ _ _ rfl rfl rfl rfl rfl rfl rfl rfl rfl rfl rfl rfl rfl HSR.out (((Turned.refl [] _).alloc _).inner HT11.out (fun z hz => by simp [Value.ownBlock] at hz; subst hz; exact .inr (Nat.le_refl _)))
set_option maxRecDepth 100000 in
set_option maxHeartbeats 1600000 in
theorem ch_44 (hs : a.tmps.size = 477) (hd : a.defers = []) (x0 : a.eval (.tmp 0) = .int .i64 n) (x1 : a.eval (.tmp 1) = .slice ta Lc tc) (x5 : a.eval (.tmp 5) = .pointer (some ⟨p, 0, none⟩)) (x7 : a.eval (.tmp 7) = .pointer (some ⟨kb, 0, none⟩)) (x9 : a.eval (.tmp 9) = .pointer (some ⟨c, 0, none⟩)) (x10 : a.eval (.tmp 10) = .pointer (some ⟨c2, 0, none⟩)) (x15 : a.eval (.tmp 15) = .slice (some ⟨g, 0, none⟩) rl rc) (x16 : a.eval (.tmp 16) = .int .i64 now) (x17 : a.eval (.tmp 17) = .int .i64 used) (x18 : a.eval (.tmp 18) = .int .i64 ct) (x19 : a.eval (.tmp 19) = .int .i64 i)
    {is : Int} {PP : World → Prop} (HP : Calls Try.prog 8 #[pp c, .pointer none] x fun e x' => e = .returned (.tuple #[.int .i64 lh, .int .i64 is, .int .i64 0]) ∧ PP x')
    (hK : ∀ a' y, a'.tmps.size = 477 → a'.defers = [] → a'.eval (.tmp 0) = .int .i64 n → a'.eval (.tmp 1) = .slice ta Lc tc → a'.eval (.tmp 5) = .pointer (some ⟨p, 0, none⟩) → a'.eval (.tmp 7) = .pointer (some ⟨kb, 0, none⟩) → a'.eval (.tmp 9) = .pointer (some ⟨c, 0, none⟩) → a'.eval (.tmp 10) = .pointer (some ⟨c2, 0, none⟩) → a'.eval (.tmp 15) = .slice (some ⟨g, 0, none⟩) rl rc → a'.eval (.tmp 16) = .int .i64 now → a'.eval (.tmp 17) = .int .i64 used → a'.eval (.tmp 18) = .int .i64 ct → a'.eval (.tmp 19) = .int .i64 i → a'.eval (.tmp 27) = .int .i64 lh → a'.eval (.tmp 28) = .int .i64 is → a'.eval (.tmp 29) = .int .i64 0 → PP y → K a' y) : (atc Try.f3.body [1, 1, 1, 1, 1, 1, 1, 1, 1, 1, 1, 1, 1, 1, 0, 1, 0, 0, 1, 0, 0, 1, 0, 1, 0, 1, 1, 1, 0, 0]).wp Try.prog (Exit.then K Q) a x := by
  obtain ⟨cc, hcc, hce⟩ := expand477 hs hd
  have g0 := (hce 0).trans x0
  have g1 := (hce 1).trans x1
  have g5 := (hce 5).trans x5
  have g7 := (hce 7).trans x7
  have g9 := (hce 9).trans x9
  have g10 := (hce 10).trans x10
  have g15 := (hce 15).trans x15
  have g16 := (hce 16).trans x16
  have g17 := (hce 17).trans x17
  have g18 := (hce 18).trans x18
  have g19 := (hce 19).trans x19
  clear hce hs hd x0 x1 x5 x7 x9 x10 x15 x16 x17 x18 x19
  subst hcc
  conv => arg 2; whnf
  simp only [lit477, g0, g1, g5, g7, g9, g10, g15, g16, g17, g18, g19]
  clear g0 g1 g5 g7 g9 g10 g15 g16 g17 g18 g19
  have HK : Hid _ := hK
  clear hK
  go_wp2_with (go_at_call 8; refine HP.mono ?_; rintro e w1 ⟨rfl, hp⟩; have HPP : Hid _ := hp; clear hp HP)
  exact HK.out _ _ rfl rfl rfl rfl rfl rfl rfl rfl rfl rfl rfl rfl rfl rfl rfl rfl HPP.out
set_option maxRecDepth 100000 in
set_option maxHeartbeats 1600000 in
theorem ch_45 {is : Int} (hs : a.tmps.size = 477) (hd : a.defers = []) (x0 : a.eval (.tmp 0) = .int .i64 n) (x1 : a.eval (.tmp 1) = .slice ta Lc tc) (x5 : a.eval (.tmp 5) = .pointer (some ⟨p, 0, none⟩)) (x7 : a.eval (.tmp 7) = .pointer (some ⟨kb, 0, none⟩)) (x9 : a.eval (.tmp 9) = .pointer (some ⟨c, 0, none⟩)) (x10 : a.eval (.tmp 10) = .pointer (some ⟨c2, 0, none⟩)) (x15 : a.eval (.tmp 15) = .slice (some ⟨g, 0, none⟩) rl rc) (x16 : a.eval (.tmp 16) = .int .i64 now) (x17 : a.eval (.tmp 17) = .int .i64 used) (x18 : a.eval (.tmp 18) = .int .i64 ct) (x19 : a.eval (.tmp 19) = .int .i64 i) (x27 : a.eval (.tmp 27) = .int .i64 lh) (x28 : a.eval (.tmp 28) = .int .i64 is) (x29 : a.eval (.tmp 29) = .int .i64 0)
    (hr0 : x.cell? ⟨g, 0, none⟩ = some (.int .i64 lh)) (hrl : (0 : Int) < rl) (hr2 : x.cell? ⟨g, 2, none⟩ = some (.int .i64 is))
    (hK : ∀ a', a'.tmps.size = 477 → a'.defers = [] → a'.eval (.tmp 0) = .int .i64 n → a'.eval (.tmp 1) = .slice ta Lc tc → a'.eval (.tmp 5) = .pointer (some ⟨p, 0, none⟩) → a'.eval (.tmp 7) = .pointer (some ⟨kb, 0, none⟩) → a'.eval (.tmp 9) = .pointer (some ⟨c, 0, none⟩) → a'.eval (.tmp 10) = .pointer (some ⟨c2, 0, none⟩) → a'.eval (.tmp 15) = .slice (some ⟨g, 0, none⟩) rl rc → a'.eval (.tmp 16) = .int .i64 now → a'.eval (.tmp 17) = .int .i64 used → a'.eval (.tmp 18) = .int .i64 ct → a'.eval (.tmp 19) = .int .i64 i →  K a' x) : (atc Try.f3.body [1, 1, 1, 1, 1, 1, 1, 1, 1, 1, 1, 1, 1, 1, 0, 1, 0, 0, 1, 0, 0, 1, 0, 1, 0, 1, 1, 1, 0, 1]).wp Try.prog (Exit.then K Q) a x := by
  obtain ⟨cc, hcc, hce⟩ := expand477 hs hd
  have g0 := (hce 0).trans x0
  have g1 := (hce 1).trans x1
  have g5 := (hce 5).trans x5
  have g7 := (hce 7).trans x7
  have g9 := (hce 9).trans x9
  have g10 := (hce 10).trans x10
  have g15 := (hce 15).trans x15
  have g16 := (hce 16).trans x16
  have g17 := (hce 17).trans x17
  have g18 := (hce 18).trans x18
  have g19 := (hce 19).trans x19
  have g27 := (hce 27).trans x27
  have g28 := (hce 28).trans x28
  have g29 := (hce 29).trans x29
  clear hce hs hd x0 x1 x5 x7 x9 x10 x15 x16 x17 x18 x19 x27 x28 x29
  subst hcc
  conv => arg 2; whnf
  simp only [lit477, g0, g1, g5, g7, g9, g10, g15, g16, g17, g18, g19, g27, g28, g29]
  clear g0 g1 g5 g7 g9 g10 g15 g16 g17 g18 g19 g27 g28 g29
  have HK : Hid _ := hK
  clear hK
  go_wp2
  exact HK.out _ rfl rfl rfl rfl rfl rfl rfl rfl rfl rfl rfl rfl rfl 
end
end Go.Proofs.Ytaaibhgbkdnlbaa

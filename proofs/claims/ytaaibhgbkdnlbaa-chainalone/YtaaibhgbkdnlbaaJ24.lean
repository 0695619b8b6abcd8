/- The ways through ChainAlone: kinds 3, 4, 5. (Written by tools/gen/genchl.py.) -/
import Derived.Test.YtaaibhgbkdnlbaaJ23
namespace Go.Proofs.Ytaaibhgbkdnlbaa
open Go.RowKit
theorem turned_drewN (w : World) (n : Nat) : Turned [] w (w.drewN n) := ⟨rfl, rfl, rfl, Nat.le_refl _, fun _ _ _ => rfl⟩
section
variable {W x : World} {n p kb c c2 used it ct i k : Nat} {now : Int} {G : Int → List Int} {L : List Ver} {N : List Nat} {ta : Option Addr} {Lc tc g rl rc ob vb qb qo : Nat} {kd oa od : Int} {sa va : Option Addr} {sl sc vl vc : Nat} {zh zs lh old nh : Int} {R : List VRow} {t : Bool} {a : Act} {K : Act → World → Prop} {Q : Exit → Act → World → Prop}
set_option maxRecDepth 100000 in
set_option maxHeartbeats 1600000 in
theorem ch_48 (hs : a.tmps.size = 477) (hd : a.defers = []) (x0 : a.eval (.tmp 0) = .int .i64 n) (x1 : a.eval (.tmp 1) = .slice ta Lc tc) (x5 : a.eval (.tmp 5) = .pointer (some ⟨p, 0, none⟩)) (x7 : a.eval (.tmp 7) = .pointer (some ⟨kb, 0, none⟩)) (x9 : a.eval (.tmp 9) = .pointer (some ⟨c, 0, none⟩)) (x10 : a.eval (.tmp 10) = .pointer (some ⟨c2, 0, none⟩)) (x15 : a.eval (.tmp 15) = .slice (some ⟨g, 0, none⟩) rl rc) (x16 : a.eval (.tmp 16) = .int .i64 now) (x17 : a.eval (.tmp 17) = .int .i64 used) (x18 : a.eval (.tmp 18) = .int .i64 ct) (x19 : a.eval (.tmp 19) = .int .i64 i) (x20 : a.eval (.tmp 20) = .pointer (some ⟨ob, 0, none⟩))
    (hob : x.heap[ob]? = some (opO kd oa od sa sl sc)) {er : Int} {PP : World → Prop} (HP : Calls Try.prog 9 #[pp c, .pointer none, .int .i64 oa] x fun e x' => e = .returned (.tuple #[.int .i64 nh, .int .i64 er]) ∧ PP x')
    (hK : ∀ a' y, a'.tmps.size = 477 → a'.defers = [] → a'.eval (.tmp 0) = .int .i64 n → a'.eval (.tmp 1) = .slice ta Lc tc → a'.eval (.tmp 5) = .pointer (some ⟨p, 0, none⟩) → a'.eval (.tmp 7) = .pointer (some ⟨kb, 0, none⟩) → a'.eval (.tmp 9) = .pointer (some ⟨c, 0, none⟩) → a'.eval (.tmp 10) = .pointer (some ⟨c2, 0, none⟩) → a'.eval (.tmp 15) = .slice (some ⟨g, 0, none⟩) rl rc → a'.eval (.tmp 16) = .int .i64 now → a'.eval (.tmp 17) = .int .i64 used → a'.eval (.tmp 18) = .int .i64 ct → a'.eval (.tmp 19) = .int .i64 i → a'.eval (.tmp 20) = .pointer (some ⟨ob, 0, none⟩) → a'.eval (.tmp 30) = .int .i64 nh → a'.eval (.tmp 31) = .int .i64 er → PP y → K a' y) : (atc Try.f3.body [1, 1, 1, 1, 1, 1, 1, 1, 1, 1, 1, 1, 1, 1, 0, 1, 0, 0, 1, 0, 0, 1, 0, 1, 0, 1, 1, 1, 1, 1, 0, 0]).wp Try.prog (Exit.then K Q) a x := by
  obtain ⟨cc, hcc, hce⟩ := expand477 hs hd
  have g0 := (hce 0).trans x0
  have g1 := (hce 1).trans x1
  have g5 := (hce 5).trans x5
  have g7 := (hce 7).trans x7
  have g9 := (hce 9).trans x9
  have g10 := (hce 10).trans x10
  have g15 := (hce 15).trans x15
  have g16 := (hce 16).trans x16
  have g17 := (hce 17).trans x17
  have g18 := (hce 18).trans x18
  have g19 := (hce 19).trans x19
  have g20 := (hce 20).trans x20
  clear hce hs hd x0 x1 x5 x7 x9 x10 x15 x16 x17 x18 x19 x20
  subst hcc
  conv => arg 2; whnf
  simp only [lit477, g0, g1, g5, g7, g9, g10, g15, g16, g17, g18, g19, g20]
  clear g0 g1 g5 g7 g9 g10 g15 g16 g17 g18 g19 g20
  obtain ⟨o0, o1, o2, o3⟩ := op_cells hob
  clear hob
  have HK : Hid _ := hK
  clear hK
  go_wp2_with (go_at_call 9; refine HP.mono ?_; rintro e w1 ⟨rfl, hp⟩; have HPP : Hid _ := hp; clear hp HP)
  exact HK.out _ _ rfl rfl rfl rfl rfl rfl rfl rfl rfl rfl rfl rfl rfl rfl rfl rfl HPP.out
set_option maxRecDepth 100000 in
set_option maxHeartbeats 1600000 in
theorem ch_49 (hs : a.tmps.size = 477) (hd : a.defers = []) (x0 : a.eval (.tmp 0) = .int .i64 n) (x1 : a.eval (.tmp 1) = .slice ta Lc tc) (x5 : a.eval (.tmp 5) = .pointer (some ⟨p, 0, none⟩)) (x7 : a.eval (.tmp 7) = .pointer (some ⟨kb, 0, none⟩)) (x9 : a.eval (.tmp 9) = .pointer (some ⟨c, 0, none⟩)) (x10 : a.eval (.tmp 10) = .pointer (some ⟨c2, 0, none⟩)) (x15 : a.eval (.tmp 15) = .slice (some ⟨g, 0, none⟩) rl rc) (x16 : a.eval (.tmp 16) = .int .i64 now) (x17 : a.eval (.tmp 17) = .int .i64 used) (x18 : a.eval (.tmp 18) = .int .i64 ct) (x19 : a.eval (.tmp 19) = .int .i64 i) (x20 : a.eval (.tmp 20) = .pointer (some ⟨ob, 0, none⟩)) (x30 : a.eval (.tmp 30) = .int .i64 nh) (x31 : a.eval (.tmp 31) = .int .i64 old)
    
    (hK : ∀ a', a'.tmps.size = 477 → a'.defers = [] → a'.eval (.tmp 0) = .int .i64 n → a'.eval (.tmp 1) = .slice ta Lc tc → a'.eval (.tmp 5) = .pointer (some ⟨p, 0, none⟩) → a'.eval (.tmp 7) = .pointer (some ⟨kb, 0, none⟩) → a'.eval (.tmp 9) = .pointer (some ⟨c, 0, none⟩) → a'.eval (.tmp 10) = .pointer (some ⟨c2, 0, none⟩) → a'.eval (.tmp 15) = .slice (some ⟨g, 0, none⟩) rl rc → a'.eval (.tmp 16) = .int .i64 now → a'.eval (.tmp 17) = .int .i64 used → a'.eval (.tmp 18) = .int .i64 ct → a'.eval (.tmp 19) = .int .i64 i → a'.eval (.tmp 20) = .pointer (some ⟨ob, 0, none⟩) → a'.eval (.tmp 30) = .int .i64 nh → a'.eval (.tmp 31) = .int .i64 old → a'.eval (.tmp 32) = .int .i64 0 →  K a' x) : (atc Try.f3.body [1, 1, 1, 1, 1, 1, 1, 1, 1, 1, 1, 1, 1, 1, 0, 1, 0, 0, 1, 0, 0, 1, 0, 1, 0, 1, 1, 1, 1, 1, 0, 1, 0]).wp Try.prog (Exit.then K Q) a x := by
  obtain ⟨cc, hcc, hce⟩ := expand477 hs hd
  have g0 := (hce 0).trans x0
  have g1 := (hce 1).trans x1
  have g5 := (hce 5).trans x5
  have g7 := (hce 7).trans x7
  have g9 := (hce 9).trans x9
  have g10 := (hce 10).trans x10
  have g15 := (hce 15).trans x15
  have g16 := (hce 16).trans x16
  have g17 := (hce 17).trans x17
  have g18 := (hce 18).trans x18
  have g19 := (hce 19).trans x19
  have g20 := (hce 20).trans x20
  have g30 := (hce 30).trans x30
  have g31 := (hce 31).trans x31
  clear hce hs hd x0 x1 x5 x7 x9 x10 x15 x16 x17 x18 x19 x20 x30 x31
  subst hcc
  conv => arg 2; whnf
  simp only [lit477, g0, g1, g5, g7, g9, g10, g15, g16, g17, g18, g19, g20, g30, g31]
  clear g0 g1 g5 g7 g9 g10 g15 g16 g17 g18 g19 g20 g30 g31
  have HK : Hid _ := hK
  clear hK
  go_wp2
  exact HK.out _ rfl rfl rfl rfl rfl rfl rfl rfl rfl rfl rfl rfl rfl rfl rfl rfl rfl 
set_option maxRecDepth 100000 in
set_option maxHeartbeats 1600000 in
theorem ch_50go (hs : a.tmps.size = 477) (hd : a.defers = []) (x0 : a.eval (.tmp 0) = .int .i64 n) (x1 : a.eval (.tmp 1) = .slice ta Lc tc) (x5 : a.eval (.tmp 5) = .pointer (some ⟨p, 0, none⟩)) (x7 : a.eval (.tmp 7) = .pointer (some ⟨kb, 0, none⟩)) (x9 : a.eval (.tmp 9) = .pointer (some ⟨c, 0, none⟩)) (x10 : a.eval (.tmp 10) = .pointer (some ⟨c2, 0, none⟩)) (x15 : a.eval (.tmp 15) = .slice (some ⟨g, 0, none⟩) rl rc) (x16 : a.eval (.tmp 16) = .int .i64 now) (x17 : a.eval (.tmp 17) = .int .i64 used) (x18 : a.eval (.tmp 18) = .int .i64 ct) (x19 : a.eval (.tmp 19) = .int .i64 i) (x20 : a.eval (.tmp 20) = .pointer (some ⟨ob, 0, none⟩)) (x30 : a.eval (.tmp 30) = .int .i64 nh) (x31 : a.eval (.tmp 31) = .int .i64 old) (x32 : a.eval (.tmp 32) = .int .i64 k)
    (hob : x.heap[ob]? = some (opO kd oa od sa sl sc)) (hk : (k : Int) < rl) (hr : rl ≤ 300) (hc : x.cell? ⟨g, k * 4 + 2, none⟩ = some (.int .i64 zs)) (hz : oa < zs)
    (hK : ∀ a' y, a'.tmps.size = 477 → a'.defers = [] → a'.eval (.tmp 0) = .int .i64 n → a'.eval (.tmp 1) = .slice ta Lc tc → a'.eval (.tmp 5) = .pointer (some ⟨p, 0, none⟩) → a'.eval (.tmp 7) = .pointer (some ⟨kb, 0, none⟩) → a'.eval (.tmp 9) = .pointer (some ⟨c, 0, none⟩) → a'.eval (.tmp 10) = .pointer (some ⟨c2, 0, none⟩) → a'.eval (.tmp 15) = .slice (some ⟨g, 0, none⟩) rl rc → a'.eval (.tmp 16) = .int .i64 now → a'.eval (.tmp 17) = .int .i64 used → a'.eval (.tmp 18) = .int .i64 ct → a'.eval (.tmp 19) = .int .i64 i → a'.eval (.tmp 20) = .pointer (some ⟨ob, 0, none⟩) → a'.eval (.tmp 30) = .int .i64 nh → a'.eval (.tmp 31) = .int .i64 old → a'.eval (.tmp 32) = .int .i64 ((k + 1 : Nat) : Int) → Turned [] x y → K a' y) : (atc Try.f3.body [1, 1, 1, 1, 1, 1, 1, 1, 1, 1, 1, 1, 1, 1, 0, 1, 0, 0, 1, 0, 0, 1, 0, 1, 0, 1, 1, 1, 1, 1, 0, 1, 1, 0, 0, 0]).wp Try.prog (Exit.then K Q) a x := by
  obtain ⟨cc, hcc, hce⟩ := expand477 hs hd
  have g0 := (hce 0).trans x0
  have g1 := (hce 1).trans x1
  have g5 := (hce 5).trans x5
  have g7 := (hce 7).trans x7
  have g9 := (hce 9).trans x9
  have g10 := (hce 10).trans x10
  have g15 := (hce 15).trans x15
  have g16 := (hce 16).trans x16
  have g17 := (hce 17).trans x17
  have g18 := (hce 18).trans x18
  have g19 := (hce 19).trans x19
  have g20 := (hce 20).trans x20
  have g30 := (hce 30).trans x30
  have g31 := (hce 31).trans x31
  have g32 := (hce 32).trans x32
  clear hce hs hd x0 x1 x5 x7 x9 x10 x15 x16 x17 x18 x19 x20 x30 x31 x32
  subst hcc
  conv => arg 2; whnf
  simp only [lit477, g0, g1, g5, g7, g9, g10, g15, g16, g17, g18, g19, g20, g30, g31, g32]
  clear g0 g1 g5 g7 g9 g10 g15 g16 g17 g18 g19 g20 g30 g31 g32
  obtain ⟨o0, o1, o2, o3⟩ := op_cells hob
  clear hob
  have HK : Hid _ := hK
  clear hK
  go_wp2
  go_quiet (fail)
  go_wp2
  exact HK.out _ _ rfl rfl rfl rfl rfl rfl rfl rfl rfl rfl rfl rfl rfl rfl rfl rfl rfl (turned_drewN _ _)
set_option maxRecDepth 100000 in
set_option maxHeartbeats 1600000 in
theorem ch_50at (hs : a.tmps.size = 477) (hd : a.defers = []) (x0 : a.eval (.tmp 0) = .int .i64 n) (x1 : a.eval (.tmp 1) = .slice ta Lc tc) (x5 : a.eval (.tmp 5) = .pointer (some ⟨p, 0, none⟩)) (x7 : a.eval (.tmp 7) = .pointer (some ⟨kb, 0, none⟩)) (x9 : a.eval (.tmp 9) = .pointer (some ⟨c, 0, none⟩)) (x10 : a.eval (.tmp 10) = .pointer (some ⟨c2, 0, none⟩)) (x15 : a.eval (.tmp 15) = .slice (some ⟨g, 0, none⟩) rl rc) (x16 : a.eval (.tmp 16) = .int .i64 now) (x17 : a.eval (.tmp 17) = .int .i64 used) (x18 : a.eval (.tmp 18) = .int .i64 ct) (x19 : a.eval (.tmp 19) = .int .i64 i) (x20 : a.eval (.tmp 20) = .pointer (some ⟨ob, 0, none⟩)) (x30 : a.eval (.tmp 30) = .int .i64 nh) (x31 : a.eval (.tmp 31) = .int .i64 old) (x32 : a.eval (.tmp 32) = .int .i64 k)
    (hob : x.heap[ob]? = some (opO kd oa od sa sl sc)) (hk : (k : Int) < rl) (hc : x.cell? ⟨g, k * 4 + 2, none⟩ = some (.int .i64 zs)) (hz : ¬ oa < zs)
    (hQ : ∀ a' y, a'.tmps.size = 477 → a'.defers = [] → a'.eval (.tmp 0) = .int .i64 n → a'.eval (.tmp 1) = .slice ta Lc tc → a'.eval (.tmp 5) = .pointer (some ⟨p, 0, none⟩) → a'.eval (.tmp 7) = .pointer (some ⟨kb, 0, none⟩) → a'.eval (.tmp 9) = .pointer (some ⟨c, 0, none⟩) → a'.eval (.tmp 10) = .pointer (some ⟨c2, 0, none⟩) → a'.eval (.tmp 15) = .slice (some ⟨g, 0, none⟩) rl rc → a'.eval (.tmp 16) = .int .i64 now → a'.eval (.tmp 17) = .int .i64 used → a'.eval (.tmp 18) = .int .i64 ct → a'.eval (.tmp 19) = .int .i64 i → a'.eval (.tmp 20) = .pointer (some ⟨ob, 0, none⟩) → a'.eval (.tmp 30) = .int .i64 nh → a'.eval (.tmp 31) = .int .i64 old → a'.eval (.tmp 32) = .int .i64 k → Turned [] x y → Q (.exit 5) a' y) : (atc Try.f3.body [1, 1, 1, 1, 1, 1, 1, 1, 1, 1, 1, 1, 1, 1, 0, 1, 0, 0, 1, 0, 0, 1, 0, 1, 0, 1, 1, 1, 1, 1, 0, 1, 1, 0, 0, 0]).wp Try.prog (Exit.then K Q) a x := by
  obtain ⟨cc, hcc, hce⟩ := expand477 hs hd
  have g0 := (hce 0).trans x0
  have g1 := (hce 1).trans x1
  have g5 := (hce 5).trans x5
  have g7 := (hce 7).trans x7
  have g9 := (hce 9).trans x9
  have g10 := (hce 10).trans x10
  have g15 := (hce 15).trans x15
  have g16 := (hce 16).trans x16
  have g17 := (hce 17).trans x17
  have g18 := (hce 18).trans x18
  have g19 := (hce 19).trans x19
  have g20 := (hce 20).trans x20
  have g30 := (hce 30).trans x30
  have g31 := (hce 31).trans x31
  have g32 := (hce 32).trans x32
  clear hce hs hd x0 x1 x5 x7 x9 x10 x15 x16 x17 x18 x19 x20 x30 x31 x32
  subst hcc
  conv => arg 2; whnf
  simp only [lit477, g0, g1, g5, g7, g9, g10, g15, g16, g17, g18, g19, g20, g30, g31, g32]
  clear g0 g1 g5 g7 g9 g10 g15 g16 g17 g18 g19 g20 g30 g31 g32
  obtain ⟨o0, o1, o2, o3⟩ := op_cells hob
  clear hob
  have HK : Hid _ := hQ
  clear hQ
  go_wp2
  go_quiet (fail)
  go_wp2
  exact HK.out _ _ rfl rfl rfl rfl rfl rfl rfl rfl rfl rfl rfl rfl rfl rfl rfl rfl rfl (turned_drewN _ _)
set_option maxRecDepth 100000 in
set_option maxHeartbeats 1600000 in
theorem ch_50end (hs : a.tmps.size = 477) (hd : a.defers = []) (x0 : a.eval (.tmp 0) = .int .i64 n) (x1 : a.eval (.tmp 1) = .slice ta Lc tc) (x5 : a.eval (.tmp 5) = .pointer (some ⟨p, 0, none⟩)) (x7 : a.eval (.tmp 7) = .pointer (some ⟨kb, 0, none⟩)) (x9 : a.eval (.tmp 9) = .pointer (some ⟨c, 0, none⟩)) (x10 : a.eval (.tmp 10) = .pointer (some ⟨c2, 0, none⟩)) (x15 : a.eval (.tmp 15) = .slice (some ⟨g, 0, none⟩) rl rc) (x16 : a.eval (.tmp 16) = .int .i64 now) (x17 : a.eval (.tmp 17) = .int .i64 used) (x18 : a.eval (.tmp 18) = .int .i64 ct) (x19 : a.eval (.tmp 19) = .int .i64 i) (x20 : a.eval (.tmp 20) = .pointer (some ⟨ob, 0, none⟩)) (x30 : a.eval (.tmp 30) = .int .i64 nh) (x31 : a.eval (.tmp 31) = .int .i64 old) (x32 : a.eval (.tmp 32) = .int .i64 rl)
    
    (hQ : ∀ a' y, a'.tmps.size = 477 → a'.defers = [] → a'.eval (.tmp 0) = .int .i64 n → a'.eval (.tmp 1) = .slice ta Lc tc → a'.eval (.tmp 5) = .pointer (some ⟨p, 0, none⟩) → a'.eval (.tmp 7) = .pointer (some ⟨kb, 0, none⟩) → a'.eval (.tmp 9) = .pointer (some ⟨c, 0, none⟩) → a'.eval (.tmp 10) = .pointer (some ⟨c2, 0, none⟩) → a'.eval (.tmp 15) = .slice (some ⟨g, 0, none⟩) rl rc → a'.eval (.tmp 16) = .int .i64 now → a'.eval (.tmp 17) = .int .i64 used → a'.eval (.tmp 18) = .int .i64 ct → a'.eval (.tmp 19) = .int .i64 i → a'.eval (.tmp 20) = .pointer (some ⟨ob, 0, none⟩) → a'.eval (.tmp 30) = .int .i64 nh → a'.eval (.tmp 31) = .int .i64 old → a'.eval (.tmp 32) = .int .i64 rl → Turned [] x y → Q (.exit 5) a' y) : (atc Try.f3.body [1, 1, 1, 1, 1, 1, 1, 1, 1, 1, 1, 1, 1, 1, 0, 1, 0, 0, 1, 0, 0, 1, 0, 1, 0, 1, 1, 1, 1, 1, 0, 1, 1, 0, 0, 0]).wp Try.prog (Exit.then K Q) a x := by
  obtain ⟨cc, hcc, hce⟩ := expand477 hs hd
  have g0 := (hce 0).trans x0
  have g1 := (hce 1).trans x1
  have g5 := (hce 5).trans x5
  have g7 := (hce 7).trans x7
  have g9 := (hce 9).trans x9
  have g10 := (hce 10).trans x10
  have g15 := (hce 15).trans x15
  have g16 := (hce 16).trans x16
  have g17 := (hce 17).trans x17
  have g18 := (hce 18).trans x18
  have g19 := (hce 19).trans x19
  have g20 := (hce 20).trans x20
  have g30 := (hce 30).trans x30
  have g31 := (hce 31).trans x31
  have g32 := (hce 32).trans x32
  clear hce hs hd x0 x1 x5 x7 x9 x10 x15 x16 x17 x18 x19 x20 x30 x31 x32
  subst hcc
  conv => arg 2; whnf
  simp only [lit477, g0, g1, g5, g7, g9, g10, g15, g16, g17, g18, g19, g20, g30, g31, g32]
  clear g0 g1 g5 g7 g9 g10 g15 g16 g17 g18 g19 g20 g30 g31 g32
  have hk : ¬ (rl : Int) < rl := by omega
  have HK : Hid _ := hQ
  clear hQ
  go_wp2
  go_quiet (fail)
  go_wp2
  exact HK.out _ _ rfl rfl rfl rfl rfl rfl rfl rfl rfl rfl rfl rfl rfl rfl rfl rfl rfl (turned_drewN _ _)
set_option maxRecDepth 100000 in
set_option maxHeartbeats 1600000 in
theorem ch_52n (hs : a.tmps.size = 477) (hd : a.defers = []) (x0 : a.eval (.tmp 0) = .int .i64 n) (x1 : a.eval (.tmp 1) = .slice ta Lc tc) (x5 : a.eval (.tmp 5) = .pointer (some ⟨p, 0, none⟩)) (x7 : a.eval (.tmp 7) = .pointer (some ⟨kb, 0, none⟩)) (x9 : a.eval (.tmp 9) = .pointer (some ⟨c, 0, none⟩)) (x10 : a.eval (.tmp 10) = .pointer (some ⟨c2, 0, none⟩)) (x15 : a.eval (.tmp 15) = .slice (some ⟨g, 0, none⟩) rl rc) (x16 : a.eval (.tmp 16) = .int .i64 now) (x17 : a.eval (.tmp 17) = .int .i64 used) (x18 : a.eval (.tmp 18) = .int .i64 ct) (x19 : a.eval (.tmp 19) = .int .i64 i) (x30 : a.eval (.tmp 30) = .int .i64 0) (x31 : a.eval (.tmp 31) = .int .i64 141) (x32 : a.eval (.tmp 32) = .int .i64 rl)
    
    (hK : ∀ a', a'.tmps.size = 477 → a'.defers = [] → a'.eval (.tmp 0) = .int .i64 n → a'.eval (.tmp 1) = .slice ta Lc tc → a'.eval (.tmp 5) = .pointer (some ⟨p, 0, none⟩) → a'.eval (.tmp 7) = .pointer (some ⟨kb, 0, none⟩) → a'.eval (.tmp 9) = .pointer (some ⟨c, 0, none⟩) → a'.eval (.tmp 10) = .pointer (some ⟨c2, 0, none⟩) → a'.eval (.tmp 15) = .slice (some ⟨g, 0, none⟩) rl rc → a'.eval (.tmp 16) = .int .i64 now → a'.eval (.tmp 17) = .int .i64 used → a'.eval (.tmp 18) = .int .i64 ct → a'.eval (.tmp 19) = .int .i64 i →  K a' x) : (atc Try.f3.body [1, 1, 1, 1, 1, 1, 1, 1, 1, 1, 1, 1, 1, 1, 0, 1, 0, 0, 1, 0, 0, 1, 0, 1, 0, 1, 1, 1, 1, 1, 0, 1, 1, 1]).wp Try.prog (Exit.then K Q) a x := by
  obtain ⟨cc, hcc, hce⟩ := expand477 hs hd
  have g0 := (hce 0).trans x0
  have g1 := (hce 1).trans x1
  have g5 := (hce 5).trans x5
  have g7 := (hce 7).trans x7
  have g9 := (hce 9).trans x9
  have g10 := (hce 10).trans x10
  have g15 := (hce 15).trans x15
  have g16 := (hce 16).trans x16
  have g17 := (hce 17).trans x17
  have g18 := (hce 18).trans x18
  have g19 := (hce 19).trans x19
  have g30 := (hce 30).trans x30
  have g31 := (hce 31).trans x31
  have g32 := (hce 32).trans x32
  clear hce hs hd x0 x1 x5 x7 x9 x10 x15 x16 x17 x18 x19 x30 x31 x32
  subst hcc
  conv => arg 2; whnf
  simp only [lit477, g0, g1, g5, g7, g9, g10, g15, g16, g17, g18, g19, g30, g31, g32]
  clear g0 g1 g5 g7 g9 g10 g15 g16 g17 g18 g19 g30 g31 g32
  have HK : Hid _ := hK
  clear hK
  go_wp2
  exact HK.out _ rfl rfl rfl rfl rfl rfl rfl rfl rfl rfl rfl rfl rfl 
set_option maxRecDepth 100000 in
set_option maxHeartbeats 1600000 in
theorem ch_52s (hs : a.tmps.size = 477) (hd : a.defers = []) (x0 : a.eval (.tmp 0) = .int .i64 n) (x1 : a.eval (.tmp 1) = .slice ta Lc tc) (x5 : a.eval (.tmp 5) = .pointer (some ⟨p, 0, none⟩)) (x7 : a.eval (.tmp 7) = .pointer (some ⟨kb, 0, none⟩)) (x9 : a.eval (.tmp 9) = .pointer (some ⟨c, 0, none⟩)) (x10 : a.eval (.tmp 10) = .pointer (some ⟨c2, 0, none⟩)) (x15 : a.eval (.tmp 15) = .slice (some ⟨g, 0, none⟩) rl rc) (x16 : a.eval (.tmp 16) = .int .i64 now) (x17 : a.eval (.tmp 17) = .int .i64 used) (x18 : a.eval (.tmp 18) = .int .i64 ct) (x19 : a.eval (.tmp 19) = .int .i64 i) (x30 : a.eval (.tmp 30) = .int .i64 lh) (x31 : a.eval (.tmp 31) = .int .i64 0) (x32 : a.eval (.tmp 32) = .int .i64 k)
    (hk : (k : Int) < rl) (hk2 : ((k : Int) == rl) = false) (hc : x.cell? ⟨g, k * 4, none⟩ = some (.int .i64 lh))
    (hK : ∀ a', a'.tmps.size = 477 → a'.defers = [] → a'.eval (.tmp 0) = .int .i64 n → a'.eval (.tmp 1) = .slice ta Lc tc → a'.eval (.tmp 5) = .pointer (some ⟨p, 0, none⟩) → a'.eval (.tmp 7) = .pointer (some ⟨kb, 0, none⟩) → a'.eval (.tmp 9) = .pointer (some ⟨c, 0, none⟩) → a'.eval (.tmp 10) = .pointer (some ⟨c2, 0, none⟩) → a'.eval (.tmp 15) = .slice (some ⟨g, 0, none⟩) rl rc → a'.eval (.tmp 16) = .int .i64 now → a'.eval (.tmp 17) = .int .i64 used → a'.eval (.tmp 18) = .int .i64 ct → a'.eval (.tmp 19) = .int .i64 i →  K a' x) : (atc Try.f3.body [1, 1, 1, 1, 1, 1, 1, 1, 1, 1, 1, 1, 1, 1, 0, 1, 0, 0, 1, 0, 0, 1, 0, 1, 0, 1, 1, 1, 1, 1, 0, 1, 1, 1]).wp Try.prog (Exit.then K Q) a x := by
  obtain ⟨cc, hcc, hce⟩ := expand477 hs hd
  have g0 := (hce 0).trans x0
  have g1 := (hce 1).trans x1
  have g5 := (hce 5).trans x5
  have g7 := (hce 7).trans x7
  have g9 := (hce 9).trans x9
  have g10 := (hce 10).trans x10
  have g15 := (hce 15).trans x15
  have g16 := (hce 16).trans x16
  have g17 := (hce 17).trans x17
  have g18 := (hce 18).trans x18
  have g19 := (hce 19).trans x19
  have g30 := (hce 30).trans x30
  have g31 := (hce 31).trans x31
  have g32 := (hce 32).trans x32
  clear hce hs hd x0 x1 x5 x7 x9 x10 x15 x16 x17 x18 x19 x30 x31 x32
  subst hcc
  conv => arg 2; whnf
  simp only [lit477, g0, g1, g5, g7, g9, g10, g15, g16, g17, g18, g19, g30, g31, g32]
  clear g0 g1 g5 g7 g9 g10 g15 g16 g17 g18 g19 g30 g31 g32
  have HK : Hid _ := hK
  clear hK
  go_wp2
  exact HK.out _ rfl rfl rfl rfl rfl rfl rfl rfl rfl rfl rfl rfl rfl 
set_option maxRecDepth 100000 in
set_option maxHeartbeats 1600000 in
theorem ch_58lo (hs : a.tmps.size = 477) (hd : a.defers = []) (x0 : a.eval (.tmp 0) = .int .i64 n) (x1 : a.eval (.tmp 1) = .slice ta Lc tc) (x5 : a.eval (.tmp 5) = .pointer (some ⟨p, 0, none⟩)) (x7 : a.eval (.tmp 7) = .pointer (some ⟨kb, 0, none⟩)) (x9 : a.eval (.tmp 9) = .pointer (some ⟨c, 0, none⟩)) (x10 : a.eval (.tmp 10) = .pointer (some ⟨c2, 0, none⟩)) (x15 : a.eval (.tmp 15) = .slice (some ⟨g, 0, none⟩) rl rc) (x16 : a.eval (.tmp 16) = .int .i64 now) (x17 : a.eval (.tmp 17) = .int .i64 used) (x18 : a.eval (.tmp 18) = .int .i64 ct) (x19 : a.eval (.tmp 19) = .int .i64 i) (x20 : a.eval (.tmp 20) = .pointer (some ⟨ob, 0, none⟩))
    (hob : x.heap[ob]? = some (opO kd oa od sa sl sc)) (h1 : oa < 0)
    (hQ : ∀ a', a'.tmps.size = 477 → a'.defers = [] → a'.eval (.tmp 0) = .int .i64 n → a'.eval (.tmp 1) = .slice ta Lc tc → a'.eval (.tmp 5) = .pointer (some ⟨p, 0, none⟩) → a'.eval (.tmp 7) = .pointer (some ⟨kb, 0, none⟩) → a'.eval (.tmp 9) = .pointer (some ⟨c, 0, none⟩) → a'.eval (.tmp 10) = .pointer (some ⟨c2, 0, none⟩) → a'.eval (.tmp 15) = .slice (some ⟨g, 0, none⟩) rl rc → a'.eval (.tmp 16) = .int .i64 now → a'.eval (.tmp 17) = .int .i64 used → a'.eval (.tmp 18) = .int .i64 ct → a'.eval (.tmp 19) = .int .i64 i →  Q (.exit 2) a' x) : (atc Try.f3.body [1, 1, 1, 1, 1, 1, 1, 1, 1, 1, 1, 1, 1, 1, 0, 1, 0, 0, 1, 0, 0, 1, 0, 1, 0, 1, 1, 1, 1, 1, 1, 1, 0, 0]).wp Try.prog (Exit.then K Q) a x := by
  obtain ⟨cc, hcc, hce⟩ := expand477 hs hd
  have g0 := (hce 0).trans x0
  have g1 := (hce 1).trans x1
  have g5 := (hce 5).trans x5
  have g7 := (hce 7).trans x7
  have g9 := (hce 9).trans x9
  have g10 := (hce 10).trans x10
  have g15 := (hce 15).trans x15
  have g16 := (hce 16).trans x16
  have g17 := (hce 17).trans x17
  have g18 := (hce 18).trans x18
  have g19 := (hce 19).trans x19
  have g20 := (hce 20).trans x20
  clear hce hs hd x0 x1 x5 x7 x9 x10 x15 x16 x17 x18 x19 x20
  subst hcc
  conv => arg 2; whnf
  simp only [lit477, g0, g1, g5, g7, g9, g10, g15, g16, g17, g18, g19, g20]
  clear g0 g1 g5 g7 g9 g10 g15 g16 g17 g18 g19 g20
  obtain ⟨o0, o1, o2, o3⟩ := op_cells hob
  clear hob
  have HK : Hid _ := hQ
  clear hQ
  go_wp2
  exact HK.out _ rfl rfl rfl rfl rfl rfl rfl rfl rfl rfl rfl rfl rfl 
set_option maxRecDepth 100000 in
set_option maxHeartbeats 1600000 in
theorem ch_58hi (hs : a.tmps.size = 477) (hd : a.defers = []) (x0 : a.eval (.tmp 0) = .int .i64 n) (x1 : a.eval (.tmp 1) = .slice ta Lc tc) (x5 : a.eval (.tmp 5) = .pointer (some ⟨p, 0, none⟩)) (x7 : a.eval (.tmp 7) = .pointer (some ⟨kb, 0, none⟩)) (x9 : a.eval (.tmp 9) = .pointer (some ⟨c, 0, none⟩)) (x10 : a.eval (.tmp 10) = .pointer (some ⟨c2, 0, none⟩)) (x15 : a.eval (.tmp 15) = .slice (some ⟨g, 0, none⟩) rl rc) (x16 : a.eval (.tmp 16) = .int .i64 now) (x17 : a.eval (.tmp 17) = .int .i64 used) (x18 : a.eval (.tmp 18) = .int .i64 ct) (x19 : a.eval (.tmp 19) = .int .i64 i) (x20 : a.eval (.tmp 20) = .pointer (some ⟨ob, 0, none⟩))
    (hob : x.heap[ob]? = some (opO kd oa od sa sl sc)) (h1 : ¬ oa < 0) (h2 : (rl : Int) ≤ oa)
    (hQ : ∀ a', a'.tmps.size = 477 → a'.defers = [] → a'.eval (.tmp 0) = .int .i64 n → a'.eval (.tmp 1) = .slice ta Lc tc → a'.eval (.tmp 5) = .pointer (some ⟨p, 0, none⟩) → a'.eval (.tmp 7) = .pointer (some ⟨kb, 0, none⟩) → a'.eval (.tmp 9) = .pointer (some ⟨c, 0, none⟩) → a'.eval (.tmp 10) = .pointer (some ⟨c2, 0, none⟩) → a'.eval (.tmp 15) = .slice (some ⟨g, 0, none⟩) rl rc → a'.eval (.tmp 16) = .int .i64 now → a'.eval (.tmp 17) = .int .i64 used → a'.eval (.tmp 18) = .int .i64 ct → a'.eval (.tmp 19) = .int .i64 i →  Q (.exit 2) a' x) : (atc Try.f3.body [1, 1, 1, 1, 1, 1, 1, 1, 1, 1, 1, 1, 1, 1, 0, 1, 0, 0, 1, 0, 0, 1, 0, 1, 0, 1, 1, 1, 1, 1, 1, 1, 0, 0]).wp Try.prog (Exit.then K Q) a x := by
  obtain ⟨cc, hcc, hce⟩ := expand477 hs hd
  have g0 := (hce 0).trans x0
  have g1 := (hce 1).trans x1
  have g5 := (hce 5).trans x5
  have g7 := (hce 7).trans x7
  have g9 := (hce 9).trans x9
  have g10 := (hce 10).trans x10
  have g15 := (hce 15).trans x15
  have g16 := (hce 16).trans x16
  have g17 := (hce 17).trans x17
  have g18 := (hce 18).trans x18
  have g19 := (hce 19).trans x19
  have g20 := (hce 20).trans x20
  clear hce hs hd x0 x1 x5 x7 x9 x10 x15 x16 x17 x18 x19 x20
  subst hcc
  conv => arg 2; whnf
  simp only [lit477, g0, g1, g5, g7, g9, g10, g15, g16, g17, g18, g19, g20]
  clear g0 g1 g5 g7 g9 g10 g15 g16 g17 g18 g19 g20
  obtain ⟨o0, o1, o2, o3⟩ := op_cells hob
  clear hob
  have HK : Hid _ := hQ
  clear hQ
  go_wp2
  exact HK.out _ rfl rfl rfl rfl rfl rfl rfl rfl rfl rfl rfl rfl rfl 
set_option maxRecDepth 100000 in
set_option maxHeartbeats 1600000 in
theorem ch_58 (hs : a.tmps.size = 477) (hd : a.defers = []) (x0 : a.eval (.tmp 0) = .int .i64 n) (x1 : a.eval (.tmp 1) = .slice ta Lc tc) (x5 : a.eval (.tmp 5) = .pointer (some ⟨p, 0, none⟩)) (x7 : a.eval (.tmp 7) = .pointer (some ⟨kb, 0, none⟩)) (x9 : a.eval (.tmp 9) = .pointer (some ⟨c, 0, none⟩)) (x10 : a.eval (.tmp 10) = .pointer (some ⟨c2, 0, none⟩)) (x15 : a.eval (.tmp 15) = .slice (some ⟨g, 0, none⟩) rl rc) (x16 : a.eval (.tmp 16) = .int .i64 now) (x17 : a.eval (.tmp 17) = .int .i64 used) (x18 : a.eval (.tmp 18) = .int .i64 ct) (x19 : a.eval (.tmp 19) = .int .i64 i) (x20 : a.eval (.tmp 20) = .pointer (some ⟨ob, 0, none⟩))
    (hob : x.heap[ob]? = some (opO kd (k : Int) od sa sl sc)) (hk : (k : Int) < rl)
    (hK : ∀ a', a'.tmps.size = 477 → a'.defers = [] → a'.eval (.tmp 0) = .int .i64 n → a'.eval (.tmp 1) = .slice ta Lc tc → a'.eval (.tmp 5) = .pointer (some ⟨p, 0, none⟩) → a'.eval (.tmp 7) = .pointer (some ⟨kb, 0, none⟩) → a'.eval (.tmp 9) = .pointer (some ⟨c, 0, none⟩) → a'.eval (.tmp 10) = .pointer (some ⟨c2, 0, none⟩) → a'.eval (.tmp 15) = .slice (some ⟨g, 0, none⟩) rl rc → a'.eval (.tmp 16) = .int .i64 now → a'.eval (.tmp 17) = .int .i64 used → a'.eval (.tmp 18) = .int .i64 ct → a'.eval (.tmp 19) = .int .i64 i → a'.eval (.tmp 20) = .pointer (some ⟨ob, 0, none⟩) →  K a' x) : (atc Try.f3.body [1, 1, 1, 1, 1, 1, 1, 1, 1, 1, 1, 1, 1, 1, 0, 1, 0, 0, 1, 0, 0, 1, 0, 1, 0, 1, 1, 1, 1, 1, 1, 1, 0, 0]).wp Try.prog (Exit.then K Q) a x := by
  obtain ⟨cc, hcc, hce⟩ := expand477 hs hd
  have g0 := (hce 0).trans x0
  have g1 := (hce 1).trans x1
  have g5 := (hce 5).trans x5
  have g7 := (hce 7).trans x7
  have g9 := (hce 9).trans x9
  have g10 := (hce 10).trans x10
  have g15 := (hce 15).trans x15
  have g16 := (hce 16).trans x16
  have g17 := (hce 17).trans x17
  have g18 := (hce 18).trans x18
  have g19 := (hce 19).trans x19
  have g20 := (hce 20).trans x20
  clear hce hs hd x0 x1 x5 x7 x9 x10 x15 x16 x17 x18 x19 x20
  subst hcc
  conv => arg 2; whnf
  simp only [lit477, g0, g1, g5, g7, g9, g10, g15, g16, g17, g18, g19, g20]
  clear g0 g1 g5 g7 g9 g10 g15 g16 g17 g18 g19 g20
  obtain ⟨o0, o1, o2, o3⟩ := op_cells hob
  clear hob
  have h1 : ¬ (k : Int) < 0 := by omega
  have h2 : ¬ (rl : Int) ≤ k := by omega
  have HK : Hid _ := hK
  clear hK
  go_wp2
  exact HK.out _ rfl rfl rfl rfl rfl rfl rfl rfl rfl rfl rfl rfl rfl rfl 
set_option maxRecDepth 100000 in
set_option maxHeartbeats 1600000 in
theorem ch_59 (hs : a.tmps.size = 477) (hd : a.defers = []) (x0 : a.eval (.tmp 0) = .int .i64 n) (x1 : a.eval (.tmp 1) = .slice ta Lc tc) (x5 : a.eval (.tmp 5) = .pointer (some ⟨p, 0, none⟩)) (x7 : a.eval (.tmp 7) = .pointer (some ⟨kb, 0, none⟩)) (x9 : a.eval (.tmp 9) = .pointer (some ⟨c, 0, none⟩)) (x10 : a.eval (.tmp 10) = .pointer (some ⟨c2, 0, none⟩)) (x15 : a.eval (.tmp 15) = .slice (some ⟨g, 0, none⟩) rl rc) (x16 : a.eval (.tmp 16) = .int .i64 now) (x17 : a.eval (.tmp 17) = .int .i64 used) (x18 : a.eval (.tmp 18) = .int .i64 ct) (x19 : a.eval (.tmp 19) = .int .i64 i) (x20 : a.eval (.tmp 20) = .pointer (some ⟨ob, 0, none⟩))
    (hob : x.heap[ob]? = some (opO kd (k : Int) od sa sl sc)) (hk : (k : Int) < rl) (hc : x.cell? ⟨g, k * 4, none⟩ = some (.int .i64 lh)) {PP : Value → World → Prop} (HP : Calls Try.prog 13 #[pp c, .pointer none, .int .i64 lh] x fun e x' => ∃ u, e = .returned (.tuple #[.int .i64 nh, u, .int .i64 0]) ∧ PP u x')
    (hK : ∀ a' y u, a'.tmps.size = 477 → a'.defers = [] → a'.eval (.tmp 0) = .int .i64 n → a'.eval (.tmp 1) = .slice ta Lc tc → a'.eval (.tmp 5) = .pointer (some ⟨p, 0, none⟩) → a'.eval (.tmp 7) = .pointer (some ⟨kb, 0, none⟩) → a'.eval (.tmp 9) = .pointer (some ⟨c, 0, none⟩) → a'.eval (.tmp 10) = .pointer (some ⟨c2, 0, none⟩) → a'.eval (.tmp 15) = .slice (some ⟨g, 0, none⟩) rl rc → a'.eval (.tmp 16) = .int .i64 now → a'.eval (.tmp 17) = .int .i64 used → a'.eval (.tmp 18) = .int .i64 ct → a'.eval (.tmp 19) = .int .i64 i → a'.eval (.tmp 20) = .pointer (some ⟨ob, 0, none⟩) → a'.eval (.tmp 33) = .int .i64 nh → a'.eval (.tmp 34) = u → a'.eval (.tmp 35) = .int .i64 0 → PP u y → K a' y) : (atc Try.f3.body [1, 1, 1, 1, 1, 1, 1, 1, 1, 1, 1, 1, 1, 1, 0, 1, 0, 0, 1, 0, 0, 1, 0, 1, 0, 1, 1, 1, 1, 1, 1, 1, 0, 1, 0]).wp Try.prog (Exit.then K Q) a x := by
  obtain ⟨cc, hcc, hce⟩ := expand477 hs hd
  have g0 := (hce 0).trans x0
  have g1 := (hce 1).trans x1
  have g5 := (hce 5).trans x5
  have g7 := (hce 7).trans x7
  have g9 := (hce 9).trans x9
  have g10 := (hce 10).trans x10
  have g15 := (hce 15).trans x15
  have g16 := (hce 16).trans x16
  have g17 := (hce 17).trans x17
  have g18 := (hce 18).trans x18
  have g19 := (hce 19).trans x19
  have g20 := (hce 20).trans x20
  clear hce hs hd x0 x1 x5 x7 x9 x10 x15 x16 x17 x18 x19 x20
  subst hcc
  conv => arg 2; whnf
  simp only [lit477, g0, g1, g5, g7, g9, g10, g15, g16, g17, g18, g19, g20]
  clear g0 g1 g5 g7 g9 g10 g15 g16 g17 g18 g19 g20
  obtain ⟨o0, o1, o2, o3⟩ := op_cells hob
  clear hob
  have HK : Hid _ := hK
  clear hK
  go_wp2_with (go_at_call 13; refine HP.mono ?_; rintro e w1 ⟨u, rfl, hp⟩; have HPP : Hid _ := hp; clear hp HP)
  exact HK.out _ _ _ rfl rfl rfl rfl rfl rfl rfl rfl rfl rfl rfl rfl rfl rfl rfl rfl rfl HPP.out
set_option maxRecDepth 100000 in
set_option maxHeartbeats 1600000 in
theorem ch_60 (hs : a.tmps.size = 477) (hd : a.defers = []) (x0 : a.eval (.tmp 0) = .int .i64 n) (x1 : a.eval (.tmp 1) = .slice ta Lc tc) (x5 : a.eval (.tmp 5) = .pointer (some ⟨p, 0, none⟩)) (x7 : a.eval (.tmp 7) = .pointer (some ⟨kb, 0, none⟩)) (x9 : a.eval (.tmp 9) = .pointer (some ⟨c, 0, none⟩)) (x10 : a.eval (.tmp 10) = .pointer (some ⟨c2, 0, none⟩)) (x15 : a.eval (.tmp 15) = .slice (some ⟨g, 0, none⟩) rl rc) (x16 : a.eval (.tmp 16) = .int .i64 now) (x17 : a.eval (.tmp 17) = .int .i64 used) (x18 : a.eval (.tmp 18) = .int .i64 ct) (x19 : a.eval (.tmp 19) = .int .i64 i) (x20 : a.eval (.tmp 20) = .pointer (some ⟨ob, 0, none⟩)) (x33 : a.eval (.tmp 33) = .int .i64 nh) (x34 : a.eval (.tmp 34) = .slice va vl vc) (x35 : a.eval (.tmp 35) = .int .i64 0)
    
    (hK : ∀ a', a'.tmps.size = 477 → a'.defers = [] → a'.eval (.tmp 0) = .int .i64 n → a'.eval (.tmp 1) = .slice ta Lc tc → a'.eval (.tmp 5) = .pointer (some ⟨p, 0, none⟩) → a'.eval (.tmp 7) = .pointer (some ⟨kb, 0, none⟩) → a'.eval (.tmp 9) = .pointer (some ⟨c, 0, none⟩) → a'.eval (.tmp 10) = .pointer (some ⟨c2, 0, none⟩) → a'.eval (.tmp 15) = .slice (some ⟨g, 0, none⟩) rl rc → a'.eval (.tmp 16) = .int .i64 now → a'.eval (.tmp 17) = .int .i64 used → a'.eval (.tmp 18) = .int .i64 ct → a'.eval (.tmp 19) = .int .i64 i → a'.eval (.tmp 20) = .pointer (some ⟨ob, 0, none⟩) → a'.eval (.tmp 33) = .int .i64 nh → a'.eval (.tmp 34) = .slice va vl vc →  K a' x) : (atc Try.f3.body [1, 1, 1, 1, 1, 1, 1, 1, 1, 1, 1, 1, 1, 1, 0, 1, 0, 0, 1, 0, 0, 1, 0, 1, 0, 1, 1, 1, 1, 1, 1, 1, 0, 1, 1, 0]).wp Try.prog (Exit.then K Q) a x := by
  obtain ⟨cc, hcc, hce⟩ := expand477 hs hd
  have g0 := (hce 0).trans x0
  have g1 := (hce 1).trans x1
  have g5 := (hce 5).trans x5
  have g7 := (hce 7).trans x7
  have g9 := (hce 9).trans x9
  have g10 := (hce 10).trans x10
  have g15 := (hce 15).trans x15
  have g16 := (hce 16).trans x16
  have g17 := (hce 17).trans x17
  have g18 := (hce 18).trans x18
  have g19 := (hce 19).trans x19
  have g20 := (hce 20).trans x20
  have g33 := (hce 33).trans x33
  have g34 := (hce 34).trans x34
  have g35 := (hce 35).trans x35
  clear hce hs hd x0 x1 x5 x7 x9 x10 x15 x16 x17 x18 x19 x20 x33 x34 x35
  subst hcc
  conv => arg 2; whnf
  simp only [lit477, g0, g1, g5, g7, g9, g10, g15, g16, g17, g18, g19, g20, g33, g34, g35]
  clear g0 g1 g5 g7 g9 g10 g15 g16 g17 g18 g19 g20 g33 g34 g35
  have HK : Hid _ := hK
  clear hK
  go_wp2
  exact HK.out _ rfl rfl rfl rfl rfl rfl rfl rfl rfl rfl rfl rfl rfl rfl rfl rfl 
set_option maxRecDepth 100000 in
set_option maxHeartbeats 1600000 in
theorem ch_62x (hs : a.tmps.size = 477) (hd : a.defers = []) (x0 : a.eval (.tmp 0) = .int .i64 n) (x1 : a.eval (.tmp 1) = .slice ta Lc tc) (x5 : a.eval (.tmp 5) = .pointer (some ⟨p, 0, none⟩)) (x7 : a.eval (.tmp 7) = .pointer (some ⟨kb, 0, none⟩)) (x9 : a.eval (.tmp 9) = .pointer (some ⟨c, 0, none⟩)) (x10 : a.eval (.tmp 10) = .pointer (some ⟨c2, 0, none⟩)) (x15 : a.eval (.tmp 15) = .slice (some ⟨g, 0, none⟩) rl rc) (x16 : a.eval (.tmp 16) = .int .i64 now) (x17 : a.eval (.tmp 17) = .int .i64 used) (x18 : a.eval (.tmp 18) = .int .i64 ct) (x19 : a.eval (.tmp 19) = .int .i64 i) (x20 : a.eval (.tmp 20) = .pointer (some ⟨ob, 0, none⟩)) (x33 : a.eval (.tmp 33) = .int .i64 0) (x34 : a.eval (.tmp 34) = .slice va 0 vc)
    (hob : x.heap[ob]? = some (opO kd (k : Int) od sa sl sc)) (hk : rl = k + 1) (hr : k ≤ 300)
    (hQ : ∀ a', a'.tmps.size = 477 → a'.defers = [] → a'.eval (.tmp 0) = .int .i64 n → a'.eval (.tmp 1) = .slice ta Lc tc → a'.eval (.tmp 5) = .pointer (some ⟨p, 0, none⟩) → a'.eval (.tmp 7) = .pointer (some ⟨kb, 0, none⟩) → a'.eval (.tmp 9) = .pointer (some ⟨c, 0, none⟩) → a'.eval (.tmp 10) = .pointer (some ⟨c2, 0, none⟩) → a'.eval (.tmp 15) = .slice (some ⟨g, 0, none⟩) rl rc → a'.eval (.tmp 16) = .int .i64 now → a'.eval (.tmp 17) = .int .i64 used → a'.eval (.tmp 18) = .int .i64 ct → a'.eval (.tmp 19) = .int .i64 i →  Q (.exit 2) a' x) : (atc Try.f3.body [1, 1, 1, 1, 1, 1, 1, 1, 1, 1, 1, 1, 1, 1, 0, 1, 0, 0, 1, 0, 0, 1, 0, 1, 0, 1, 1, 1, 1, 1, 1, 1, 0, 1, 1, 1, 0]).wp Try.prog (Exit.then K Q) a x := by
  obtain ⟨cc, hcc, hce⟩ := expand477 hs hd
  have g0 := (hce 0).trans x0
  have g1 := (hce 1).trans x1
  have g5 := (hce 5).trans x5
  have g7 := (hce 7).trans x7
  have g9 := (hce 9).trans x9
  have g10 := (hce 10).trans x10
  have g15 := (hce 15).trans x15
  have g16 := (hce 16).trans x16
  have g17 := (hce 17).trans x17
  have g18 := (hce 18).trans x18
  have g19 := (hce 19).trans x19
  have g20 := (hce 20).trans x20
  have g33 := (hce 33).trans x33
  have g34 := (hce 34).trans x34
  clear hce hs hd x0 x1 x5 x7 x9 x10 x15 x16 x17 x18 x19 x20 x33 x34
  subst hcc
  conv => arg 2; whnf
  simp only [lit477, g0, g1, g5, g7, g9, g10, g15, g16, g17, g18, g19, g20, g33, g34]
  clear g0 g1 g5 g7 g9 g10 g15 g16 g17 g18 g19 g20 g33 g34
  subst hk
  obtain ⟨o0, o1, o2, o3⟩ := op_cells hob
  clear hob
  have HK : Hid _ := hQ
  clear hQ
  go_wp2
  exact HK.out _ rfl rfl rfl rfl rfl rfl rfl rfl rfl rfl rfl rfl rfl 
set_option maxRecDepth 100000 in
set_option maxHeartbeats 1600000 in
theorem ch_62 (hs : a.tmps.size = 477) (hd : a.defers = []) (x0 : a.eval (.tmp 0) = .int .i64 n) (x1 : a.eval (.tmp 1) = .slice ta Lc tc) (x5 : a.eval (.tmp 5) = .pointer (some ⟨p, 0, none⟩)) (x7 : a.eval (.tmp 7) = .pointer (some ⟨kb, 0, none⟩)) (x9 : a.eval (.tmp 9) = .pointer (some ⟨c, 0, none⟩)) (x10 : a.eval (.tmp 10) = .pointer (some ⟨c2, 0, none⟩)) (x15 : a.eval (.tmp 15) = .slice (some ⟨g, 0, none⟩) rl rc) (x16 : a.eval (.tmp 16) = .int .i64 now) (x17 : a.eval (.tmp 17) = .int .i64 used) (x18 : a.eval (.tmp 18) = .int .i64 ct) (x19 : a.eval (.tmp 19) = .int .i64 i) (x20 : a.eval (.tmp 20) = .pointer (some ⟨ob, 0, none⟩)) (x33 : a.eval (.tmp 33) = .int .i64 nh) (x34 : a.eval (.tmp 34) = .slice va vl vc)
    (hob : x.heap[ob]? = some (opO kd (k : Int) od sa sl sc)) (hk : (k : Int) + 1 < rl) (hr : rl ≤ 300)
    (hK : ∀ a', a'.tmps.size = 477 → a'.defers = [] → a'.eval (.tmp 0) = .int .i64 n → a'.eval (.tmp 1) = .slice ta Lc tc → a'.eval (.tmp 5) = .pointer (some ⟨p, 0, none⟩) → a'.eval (.tmp 7) = .pointer (some ⟨kb, 0, none⟩) → a'.eval (.tmp 9) = .pointer (some ⟨c, 0, none⟩) → a'.eval (.tmp 10) = .pointer (some ⟨c2, 0, none⟩) → a'.eval (.tmp 15) = .slice (some ⟨g, 0, none⟩) rl rc → a'.eval (.tmp 16) = .int .i64 now → a'.eval (.tmp 17) = .int .i64 used → a'.eval (.tmp 18) = .int .i64 ct → a'.eval (.tmp 19) = .int .i64 i → a'.eval (.tmp 20) = .pointer (some ⟨ob, 0, none⟩) → a'.eval (.tmp 33) = .int .i64 nh → a'.eval (.tmp 34) = .slice va vl vc →  K a' x) : (atc Try.f3.body [1, 1, 1, 1, 1, 1, 1, 1, 1, 1, 1, 1, 1, 1, 0, 1, 0, 0, 1, 0, 0, 1, 0, 1, 0, 1, 1, 1, 1, 1, 1, 1, 0, 1, 1, 1, 0]).wp Try.prog (Exit.then K Q) a x := by
  obtain ⟨cc, hcc, hce⟩ := expand477 hs hd
  have g0 := (hce 0).trans x0
  have g1 := (hce 1).trans x1
  have g5 := (hce 5).trans x5
  have g7 := (hce 7).trans x7
  have g9 := (hce 9).trans x9
  have g10 := (hce 10).trans x10
  have g15 := (hce 15).trans x15
  have g16 := (hce 16).trans x16
  have g17 := (hce 17).trans x17
  have g18 := (hce 18).trans x18
  have g19 := (hce 19).trans x19
  have g20 := (hce 20).trans x20
  have g33 := (hce 33).trans x33
  have g34 := (hce 34).trans x34
  clear hce hs hd x0 x1 x5 x7 x9 x10 x15 x16 x17 x18 x19 x20 x33 x34
  subst hcc
  conv => arg 2; whnf
  simp only [lit477, g0, g1, g5, g7, g9, g10, g15, g16, g17, g18, g19, g20, g33, g34]
  clear g0 g1 g5 g7 g9 g10 g15 g16 g17 g18 g19 g20 g33 g34
  obtain ⟨o0, o1, o2, o3⟩ := op_cells hob
  clear hob
  have hk2 : ((k : Int) == (rl : Int) - 1) = false := by simp; omega
  have hk3 : (1 : Int) ≤ rl := by omega
  have HK : Hid _ := hK
  clear hK
  go_wp2
  exact HK.out _ rfl rfl rfl rfl rfl rfl rfl rfl rfl rfl rfl rfl rfl rfl rfl rfl 
set_option maxRecDepth 100000 in
set_option maxHeartbeats 1600000 in
theorem ch_65 {ta2 : Option Addr} {tl2 tc2 : Nat} (hs : a.tmps.size = 477) (hd : a.defers = []) (x0 : a.eval (.tmp 0) = .int .i64 n) (x1 : a.eval (.tmp 1) = .slice ta Lc tc) (x5 : a.eval (.tmp 5) = .pointer (some ⟨p, 0, none⟩)) (x7 : a.eval (.tmp 7) = .pointer (some ⟨kb, 0, none⟩)) (x9 : a.eval (.tmp 9) = .pointer (some ⟨c, 0, none⟩)) (x10 : a.eval (.tmp 10) = .pointer (some ⟨c2, 0, none⟩)) (x15 : a.eval (.tmp 15) = .slice (some ⟨g, 0, none⟩) rl rc) (x16 : a.eval (.tmp 16) = .int .i64 now) (x17 : a.eval (.tmp 17) = .int .i64 used) (x18 : a.eval (.tmp 18) = .int .i64 ct) (x19 : a.eval (.tmp 19) = .int .i64 i) (x20 : a.eval (.tmp 20) = .pointer (some ⟨ob, 0, none⟩)) (x33 : a.eval (.tmp 33) = .int .i64 nh) (x34 : a.eval (.tmp 34) = .slice va vl vc)
    (hob : x.heap[ob]? = some (opO kd (k : Int) od sa sl sc)) (hk : (k : Int) + 1 < rl) (hr : rl ≤ 300) (hc : x.cell? ⟨g, (k + 1) * 4, none⟩ = some (.int .i64 nh)) (hu : x.cell? ⟨g, k * 4 + 3, none⟩ = some (.slice ta2 tl2 tc2)) (HI : Calls Try.prog 12 #[.slice va vl vc, .slice ta2 tl2 tc2] x fun e x' => e = .returned (.bool true) ∧ Turned [] x x')
    (hK : ∀ a' y, a'.tmps.size = 477 → a'.defers = [] → a'.eval (.tmp 0) = .int .i64 n → a'.eval (.tmp 1) = .slice ta Lc tc → a'.eval (.tmp 5) = .pointer (some ⟨p, 0, none⟩) → a'.eval (.tmp 7) = .pointer (some ⟨kb, 0, none⟩) → a'.eval (.tmp 9) = .pointer (some ⟨c, 0, none⟩) → a'.eval (.tmp 10) = .pointer (some ⟨c2, 0, none⟩) → a'.eval (.tmp 15) = .slice (some ⟨g, 0, none⟩) rl rc → a'.eval (.tmp 16) = .int .i64 now → a'.eval (.tmp 17) = .int .i64 used → a'.eval (.tmp 18) = .int .i64 ct → a'.eval (.tmp 19) = .int .i64 i → a'.eval (.tmp 20) = .pointer (some ⟨ob, 0, none⟩) → a'.eval (.tmp 33) = .int .i64 nh → a'.eval (.tmp 34) = .slice va vl vc → Turned [] x y → K a' y) : (atc Try.f3.body [1, 1, 1, 1, 1, 1, 1, 1, 1, 1, 1, 1, 1, 1, 0, 1, 0, 0, 1, 0, 0, 1, 0, 1, 0, 1, 1, 1, 1, 1, 1, 1, 0, 1, 1, 1, 1, 0]).wp Try.prog (Exit.then K Q) a x := by
  obtain ⟨cc, hcc, hce⟩ := expand477 hs hd
  have g0 := (hce 0).trans x0
  have g1 := (hce 1).trans x1
  have g5 := (hce 5).trans x5
  have g7 := (hce 7).trans x7
  have g9 := (hce 9).trans x9
  have g10 := (hce 10).trans x10
  have g15 := (hce 15).trans x15
  have g16 := (hce 16).trans x16
  have g17 := (hce 17).trans x17
  have g18 := (hce 18).trans x18
  have g19 := (hce 19).trans x19
  have g20 := (hce 20).trans x20
  have g33 := (hce 33).trans x33
  have g34 := (hce 34).trans x34
  clear hce hs hd x0 x1 x5 x7 x9 x10 x15 x16 x17 x18 x19 x20 x33 x34
  subst hcc
  conv => arg 2; whnf
  simp only [lit477, g0, g1, g5, g7, g9, g10, g15, g16, g17, g18, g19, g20, g33, g34]
  clear g0 g1 g5 g7 g9 g10 g15 g16 g17 g18 g19 g20 g33 g34
  obtain ⟨o0, o1, o2, o3⟩ := op_cells hob
  clear hob
  have hk1 : (k : Int) < rl := by omega
  have e1 : ((k : Int) + 1).toNat = k + 1 := by omega
  have HK : Hid _ := hK
  clear hK
  go_wp2_with (go_at_call 12; refine HI.mono ?_; rintro e w1 ⟨rfl, ht1⟩; have HT1 : Hid _ := ht1; clear ht1 HI)
  exact HK.out _ _ rfl rfl rfl rfl rfl rfl rfl rfl rfl rfl rfl rfl rfl rfl rfl rfl HT1.out
set_option maxRecDepth 100000 in
set_option maxHeartbeats 1600000 in
theorem ch_67 (hs : a.tmps.size = 477) (hd : a.defers = []) (x0 : a.eval (.tmp 0) = .int .i64 n) (x1 : a.eval (.tmp 1) = .slice ta Lc tc) (x5 : a.eval (.tmp 5) = .pointer (some ⟨p, 0, none⟩)) (x7 : a.eval (.tmp 7) = .pointer (some ⟨kb, 0, none⟩)) (x9 : a.eval (.tmp 9) = .pointer (some ⟨c, 0, none⟩)) (x10 : a.eval (.tmp 10) = .pointer (some ⟨c2, 0, none⟩)) (x15 : a.eval (.tmp 15) = .slice (some ⟨g, 0, none⟩) rl rc) (x16 : a.eval (.tmp 16) = .int .i64 now) (x17 : a.eval (.tmp 17) = .int .i64 used) (x18 : a.eval (.tmp 18) = .int .i64 ct) (x19 : a.eval (.tmp 19) = .int .i64 i) (x20 : a.eval (.tmp 20) = .pointer (some ⟨ob, 0, none⟩)) (x33 : a.eval (.tmp 33) = .int .i64 nh) (x34 : a.eval (.tmp 34) = .slice va vl vc)
    
    (hK : ∀ a', a'.tmps.size = 477 → a'.defers = [] → a'.eval (.tmp 0) = .int .i64 n → a'.eval (.tmp 1) = .slice ta Lc tc → a'.eval (.tmp 5) = .pointer (some ⟨p, 0, none⟩) → a'.eval (.tmp 7) = .pointer (some ⟨kb, 0, none⟩) → a'.eval (.tmp 9) = .pointer (some ⟨c, 0, none⟩) → a'.eval (.tmp 10) = .pointer (some ⟨c2, 0, none⟩) → a'.eval (.tmp 15) = .slice (some ⟨g, 0, none⟩) rl rc → a'.eval (.tmp 16) = .int .i64 now → a'.eval (.tmp 17) = .int .i64 used → a'.eval (.tmp 18) = .int .i64 ct → a'.eval (.tmp 19) = .int .i64 i → a'.eval (.tmp 20) = .pointer (some ⟨ob, 0, none⟩) → a'.eval (.tmp 33) = .int .i64 nh → a'.eval (.tmp 34) = .slice va vl vc → a'.eval (.tmp 36) = .int .i64 0 →  K a' x) : (atc Try.f3.body [1, 1, 1, 1, 1, 1, 1, 1, 1, 1, 1, 1, 1, 1, 0, 1, 0, 0, 1, 0, 0, 1, 0, 1, 0, 1, 1, 1, 1, 1, 1, 1, 0, 1, 1, 1, 1, 1, 0, 0]).wp Try.prog (Exit.then K Q) a x := by
  obtain ⟨cc, hcc, hce⟩ := expand477 hs hd
  have g0 := (hce 0).trans x0
  have g1 := (hce 1).trans x1
  have g5 := (hce 5).trans x5
  have g7 := (hce 7).trans x7
  have g9 := (hce 9).trans x9
  have g10 := (hce 10).trans x10
  have g15 := (hce 15).trans x15
  have g16 := (hce 16).trans x16
  have g17 := (hce 17).trans x17
  have g18 := (hce 18).trans x18
  have g19 := (hce 19).trans x19
  have g20 := (hce 20).trans x20
  have g33 := (hce 33).trans x33
  have g34 := (hce 34).trans x34
  clear hce hs hd x0 x1 x5 x7 x9 x10 x15 x16 x17 x18 x19 x20 x33 x34
  subst hcc
  conv => arg 2; whnf
  simp only [lit477, g0, g1, g5, g7, g9, g10, g15, g16, g17, g18, g19, g20, g33, g34]
  clear g0 g1 g5 g7 g9 g10 g15 g16 g17 g18 g19 g20 g33 g34
  have HK : Hid _ := hK
  clear hK
  go_wp2
  exact HK.out _ rfl rfl rfl rfl rfl rfl rfl rfl rfl rfl rfl rfl rfl rfl rfl rfl rfl 
set_option maxRecDepth 100000 in
set_option maxHeartbeats 1600000 in
theorem ch_68go (hs : a.tmps.size = 477) (hd : a.defers = []) (x0 : a.eval (.tmp 0) = .int .i64 n) (x1 : a.eval (.tmp 1) = .slice ta Lc tc) (x5 : a.eval (.tmp 5) = .pointer (some ⟨p, 0, none⟩)) (x7 : a.eval (.tmp 7) = .pointer (some ⟨kb, 0, none⟩)) (x9 : a.eval (.tmp 9) = .pointer (some ⟨c, 0, none⟩)) (x10 : a.eval (.tmp 10) = .pointer (some ⟨c2, 0, none⟩)) (x15 : a.eval (.tmp 15) = .slice (some ⟨g, 0, none⟩) rl rc) (x16 : a.eval (.tmp 16) = .int .i64 now) (x17 : a.eval (.tmp 17) = .int .i64 used) (x18 : a.eval (.tmp 18) = .int .i64 ct) (x19 : a.eval (.tmp 19) = .int .i64 i) (x20 : a.eval (.tmp 20) = .pointer (some ⟨ob, 0, none⟩)) (x33 : a.eval (.tmp 33) = .int .i64 nh) (x34 : a.eval (.tmp 34) = .slice (some ⟨vb, 0, none⟩) vl vc) (x36 : a.eval (.tmp 36) = .int .i64 k)
    {z : Int} (hk : (k : Int) < vl) (hv : vl ≤ 10000) (hc : x.cell? ⟨vb, k, none⟩ = some (.int .i64 z)) (hz : x.frozen? ⟨vb, k, none⟩ = false)
    (hK : ∀ a' y, a'.tmps.size = 477 → a'.defers = [] → a'.eval (.tmp 0) = .int .i64 n → a'.eval (.tmp 1) = .slice ta Lc tc → a'.eval (.tmp 5) = .pointer (some ⟨p, 0, none⟩) → a'.eval (.tmp 7) = .pointer (some ⟨kb, 0, none⟩) → a'.eval (.tmp 9) = .pointer (some ⟨c, 0, none⟩) → a'.eval (.tmp 10) = .pointer (some ⟨c2, 0, none⟩) → a'.eval (.tmp 15) = .slice (some ⟨g, 0, none⟩) rl rc → a'.eval (.tmp 16) = .int .i64 now → a'.eval (.tmp 17) = .int .i64 used → a'.eval (.tmp 18) = .int .i64 ct → a'.eval (.tmp 19) = .int .i64 i → a'.eval (.tmp 20) = .pointer (some ⟨ob, 0, none⟩) → a'.eval (.tmp 33) = .int .i64 nh → a'.eval (.tmp 34) = .slice (some ⟨vb, 0, none⟩) vl vc → a'.eval (.tmp 36) = .int .i64 ((k + 1 : Nat) : Int) → y = x.setCell ⟨vb, k, none⟩ (.int .i64 (-44)) → K a' y) : (atc Try.f3.body [1, 1, 1, 1, 1, 1, 1, 1, 1, 1, 1, 1, 1, 1, 0, 1, 0, 0, 1, 0, 0, 1, 0, 1, 0, 1, 1, 1, 1, 1, 1, 1, 0, 1, 1, 1, 1, 1, 0, 1, 0, 0]).wp Try.prog (Exit.then K Q) a x := by
  obtain ⟨cc, hcc, hce⟩ := expand477 hs hd
  have g0 := (hce 0).trans x0
  have g1 := (hce 1).trans x1
  have g5 := (hce 5).trans x5
  have g7 := (hce 7).trans x7
  have g9 := (hce 9).trans x9
  have g10 := (hce 10).trans x10
  have g15 := (hce 15).trans x15
  have g16 := (hce 16).trans x16
  have g17 := (hce 17).trans x17
  have g18 := (hce 18).trans x18
  have g19 := (hce 19).trans x19
  have g20 := (hce 20).trans x20
  have g33 := (hce 33).trans x33
  have g34 := (hce 34).trans x34
  have g36 := (hce 36).trans x36
  clear hce hs hd x0 x1 x5 x7 x9 x10 x15 x16 x17 x18 x19 x20 x33 x34 x36
  subst hcc
  conv => arg 2; whnf
  simp only [lit477, g0, g1, g5, g7, g9, g10, g15, g16, g17, g18, g19, g20, g33, g34, g36]
  clear g0 g1 g5 g7 g9 g10 g15 g16 g17 g18 g19 g20 g33 g34 g36
  have HK : Hid _ := hK
  clear hK
  go_wp2
  exact HK.out _ _ rfl rfl rfl rfl rfl rfl rfl rfl rfl rfl rfl rfl rfl rfl rfl rfl rfl rfl
set_option maxRecDepth 100000 in
set_option maxHeartbeats 1600000 in
theorem ch_68end (hs : a.tmps.size = 477) (hd : a.defers = []) (x0 : a.eval (.tmp 0) = .int .i64 n) (x1 : a.eval (.tmp 1) = .slice ta Lc tc) (x5 : a.eval (.tmp 5) = .pointer (some ⟨p, 0, none⟩)) (x7 : a.eval (.tmp 7) = .pointer (some ⟨kb, 0, none⟩)) (x9 : a.eval (.tmp 9) = .pointer (some ⟨c, 0, none⟩)) (x10 : a.eval (.tmp 10) = .pointer (some ⟨c2, 0, none⟩)) (x15 : a.eval (.tmp 15) = .slice (some ⟨g, 0, none⟩) rl rc) (x16 : a.eval (.tmp 16) = .int .i64 now) (x17 : a.eval (.tmp 17) = .int .i64 used) (x18 : a.eval (.tmp 18) = .int .i64 ct) (x19 : a.eval (.tmp 19) = .int .i64 i) (x20 : a.eval (.tmp 20) = .pointer (some ⟨ob, 0, none⟩)) (x33 : a.eval (.tmp 33) = .int .i64 nh) (x34 : a.eval (.tmp 34) = .slice va vl vc) (x36 : a.eval (.tmp 36) = .int .i64 vl)
    
    (hQ : ∀ a', a'.tmps.size = 477 → a'.defers = [] → a'.eval (.tmp 0) = .int .i64 n → a'.eval (.tmp 1) = .slice ta Lc tc → a'.eval (.tmp 5) = .pointer (some ⟨p, 0, none⟩) → a'.eval (.tmp 7) = .pointer (some ⟨kb, 0, none⟩) → a'.eval (.tmp 9) = .pointer (some ⟨c, 0, none⟩) → a'.eval (.tmp 10) = .pointer (some ⟨c2, 0, none⟩) → a'.eval (.tmp 15) = .slice (some ⟨g, 0, none⟩) rl rc → a'.eval (.tmp 16) = .int .i64 now → a'.eval (.tmp 17) = .int .i64 used → a'.eval (.tmp 18) = .int .i64 ct → a'.eval (.tmp 19) = .int .i64 i → a'.eval (.tmp 20) = .pointer (some ⟨ob, 0, none⟩) → a'.eval (.tmp 33) = .int .i64 nh → a'.eval (.tmp 34) = .slice va vl vc →  Q (.exit 7) a' x) : (atc Try.f3.body [1, 1, 1, 1, 1, 1, 1, 1, 1, 1, 1, 1, 1, 1, 0, 1, 0, 0, 1, 0, 0, 1, 0, 1, 0, 1, 1, 1, 1, 1, 1, 1, 0, 1, 1, 1, 1, 1, 0, 1, 0, 0]).wp Try.prog (Exit.then K Q) a x := by
  obtain ⟨cc, hcc, hce⟩ := expand477 hs hd
  have g0 := (hce 0).trans x0
  have g1 := (hce 1).trans x1
  have g5 := (hce 5).trans x5
  have g7 := (hce 7).trans x7
  have g9 := (hce 9).trans x9
  have g10 := (hce 10).trans x10
  have g15 := (hce 15).trans x15
  have g16 := (hce 16).trans x16
  have g17 := (hce 17).trans x17
  have g18 := (hce 18).trans x18
  have g19 := (hce 19).trans x19
  have g20 := (hce 20).trans x20
  have g33 := (hce 33).trans x33
  have g34 := (hce 34).trans x34
  have g36 := (hce 36).trans x36
  clear hce hs hd x0 x1 x5 x7 x9 x10 x15 x16 x17 x18 x19 x20 x33 x34 x36
  subst hcc
  conv => arg 2; whnf
  simp only [lit477, g0, g1, g5, g7, g9, g10, g15, g16, g17, g18, g19, g20, g33, g34, g36]
  clear g0 g1 g5 g7 g9 g10 g15 g16 g17 g18 g19 g20 g33 g34 g36
  have hk : ¬ (vl : Int) < vl := by omega
  have HK : Hid _ := hQ
  clear hQ
  go_wp2
  exact HK.out _ rfl rfl rfl rfl rfl rfl rfl rfl rfl rfl rfl rfl rfl rfl rfl rfl 
set_option maxRecDepth 100000 in
set_option maxHeartbeats 1600000 in
theorem ch_71 (hs : a.tmps.size = 477) (hd : a.defers = []) (x0 : a.eval (.tmp 0) = .int .i64 n) (x1 : a.eval (.tmp 1) = .slice ta Lc tc) (x5 : a.eval (.tmp 5) = .pointer (some ⟨p, 0, none⟩)) (x7 : a.eval (.tmp 7) = .pointer (some ⟨kb, 0, none⟩)) (x9 : a.eval (.tmp 9) = .pointer (some ⟨c, 0, none⟩)) (x10 : a.eval (.tmp 10) = .pointer (some ⟨c2, 0, none⟩)) (x15 : a.eval (.tmp 15) = .slice (some ⟨g, 0, none⟩) rl rc) (x16 : a.eval (.tmp 16) = .int .i64 now) (x17 : a.eval (.tmp 17) = .int .i64 used) (x18 : a.eval (.tmp 18) = .int .i64 ct) (x19 : a.eval (.tmp 19) = .int .i64 i) (x20 : a.eval (.tmp 20) = .pointer (some ⟨ob, 0, none⟩))
    (hob : x.heap[ob]? = some (opO kd (k : Int) od sa sl sc)) {z : Value} (hk : (k : Int) < rl) (hc : x.cell? ⟨g, k * 4 + 3, none⟩ = some z) (hz : x.frozen? ⟨g, k * 4 + 3, none⟩ = false)
    (hK : ∀ a' y, a'.tmps.size = 477 → a'.defers = [] → a'.eval (.tmp 0) = .int .i64 n → a'.eval (.tmp 1) = .slice ta Lc tc → a'.eval (.tmp 5) = .pointer (some ⟨p, 0, none⟩) → a'.eval (.tmp 7) = .pointer (some ⟨kb, 0, none⟩) → a'.eval (.tmp 9) = .pointer (some ⟨c, 0, none⟩) → a'.eval (.tmp 10) = .pointer (some ⟨c2, 0, none⟩) → a'.eval (.tmp 15) = .slice (some ⟨g, 0, none⟩) rl rc → a'.eval (.tmp 16) = .int .i64 now → a'.eval (.tmp 17) = .int .i64 used → a'.eval (.tmp 18) = .int .i64 ct → a'.eval (.tmp 19) = .int .i64 i → a'.eval (.tmp 20) = .pointer (some ⟨ob, 0, none⟩) → y = x.setCell ⟨g, k * 4 + 3, none⟩ (.slice none 0 0) → K a' y) : (atc Try.f3.body [1, 1, 1, 1, 1, 1, 1, 1, 1, 1, 1, 1, 1, 1, 0, 1, 0, 0, 1, 0, 0, 1, 0, 1, 0, 1, 1, 1, 1, 1, 1, 1, 0, 1, 1, 1, 1, 1, 1, 0]).wp Try.prog (Exit.then K Q) a x := by
  obtain ⟨cc, hcc, hce⟩ := expand477 hs hd
  have g0 := (hce 0).trans x0
  have g1 := (hce 1).trans x1
  have g5 := (hce 5).trans x5
  have g7 := (hce 7).trans x7
  have g9 := (hce 9).trans x9
  have g10 := (hce 10).trans x10
  have g15 := (hce 15).trans x15
  have g16 := (hce 16).trans x16
  have g17 := (hce 17).trans x17
  have g18 := (hce 18).trans x18
  have g19 := (hce 19).trans x19
  have g20 := (hce 20).trans x20
  clear hce hs hd x0 x1 x5 x7 x9 x10 x15 x16 x17 x18 x19 x20
  subst hcc
  conv => arg 2; whnf
  simp only [lit477, g0, g1, g5, g7, g9, g10, g15, g16, g17, g18, g19, g20]
  clear g0 g1 g5 g7 g9 g10 g15 g16 g17 g18 g19 g20
  obtain ⟨o0, o1, o2, o3⟩ := op_cells hob
  clear hob
  have HK : Hid _ := hK
  clear hK
  go_wp2
  exact HK.out _ _ rfl rfl rfl rfl rfl rfl rfl rfl rfl rfl rfl rfl rfl rfl rfl
set_option maxRecDepth 100000 in
set_option maxHeartbeats 1600000 in
theorem ch_72 (hs : a.tmps.size = 477) (hd : a.defers = []) (x0 : a.eval (.tmp 0) = .int .i64 n) (x1 : a.eval (.tmp 1) = .slice ta Lc tc) (x5 : a.eval (.tmp 5) = .pointer (some ⟨p, 0, none⟩)) (x7 : a.eval (.tmp 7) = .pointer (some ⟨kb, 0, none⟩)) (x9 : a.eval (.tmp 9) = .pointer (some ⟨c, 0, none⟩)) (x10 : a.eval (.tmp 10) = .pointer (some ⟨c2, 0, none⟩)) (x15 : a.eval (.tmp 15) = .slice (some ⟨g, 0, none⟩) rl rc) (x16 : a.eval (.tmp 16) = .int .i64 now) (x17 : a.eval (.tmp 17) = .int .i64 used) (x18 : a.eval (.tmp 18) = .int .i64 ct) (x19 : a.eval (.tmp 19) = .int .i64 i) (x20 : a.eval (.tmp 20) = .pointer (some ⟨ob, 0, none⟩))
    (hob : x.heap[ob]? = some (opO kd (k : Int) od sa sl sc)) (hk : (k : Int) + 1 ≤ rc) (hr : (k : Int) ≤ 300) (hct : ct ≤ 300)
    (hK : ∀ a', a'.tmps.size = 477 → a'.defers = [] → a'.eval (.tmp 0) = .int .i64 n → a'.eval (.tmp 1) = .slice ta Lc tc → a'.eval (.tmp 5) = .pointer (some ⟨p, 0, none⟩) → a'.eval (.tmp 7) = .pointer (some ⟨kb, 0, none⟩) → a'.eval (.tmp 9) = .pointer (some ⟨c, 0, none⟩) → a'.eval (.tmp 10) = .pointer (some ⟨c2, 0, none⟩) → a'.eval (.tmp 15) = .slice (some ⟨g, 0, none⟩) (k + 1) rc → a'.eval (.tmp 16) = .int .i64 now → a'.eval (.tmp 17) = .int .i64 used → a'.eval (.tmp 18) = .int .i64 ((ct + 1 : Nat) : Int) → a'.eval (.tmp 19) = .int .i64 i →  K a' x) : (atc Try.f3.body [1, 1, 1, 1, 1, 1, 1, 1, 1, 1, 1, 1, 1, 1, 0, 1, 0, 0, 1, 0, 0, 1, 0, 1, 0, 1, 1, 1, 1, 1, 1, 1, 0, 1, 1, 1, 1, 1, 1, 1]).wp Try.prog (Exit.then K Q) a x := by
  obtain ⟨cc, hcc, hce⟩ := expand477 hs hd
  have g0 := (hce 0).trans x0
  have g1 := (hce 1).trans x1
  have g5 := (hce 5).trans x5
  have g7 := (hce 7).trans x7
  have g9 := (hce 9).trans x9
  have g10 := (hce 10).trans x10
  have g15 := (hce 15).trans x15
  have g16 := (hce 16).trans x16
  have g17 := (hce 17).trans x17
  have g18 := (hce 18).trans x18
  have g19 := (hce 19).trans x19
  have g20 := (hce 20).trans x20
  clear hce hs hd x0 x1 x5 x7 x9 x10 x15 x16 x17 x18 x19 x20
  subst hcc
  conv => arg 2; whnf
  simp only [lit477, g0, g1, g5, g7, g9, g10, g15, g16, g17, g18, g19, g20]
  clear g0 g1 g5 g7 g9 g10 g15 g16 g17 g18 g19 g20
  obtain ⟨o0, o1, o2, o3⟩ := op_cells hob
  clear hob
  have e1 : ((k : Int) + 1).toNat = k + 1 := by omega
  have HK : Hid _ := hK
  clear hK
  go_wp2
  exact HK.out _ rfl rfl rfl rfl rfl rfl rfl rfl rfl rfl rfl rfl rfl 
set_option maxRecDepth 100000 in
set_option maxHeartbeats 1600000 in
theorem ch_75 (hs : a.tmps.size = 477) (hd : a.defers = []) (x0 : a.eval (.tmp 0) = .int .i64 n) (x1 : a.eval (.tmp 1) = .slice ta Lc tc) (x5 : a.eval (.tmp 5) = .pointer (some ⟨p, 0, none⟩)) (x7 : a.eval (.tmp 7) = .pointer (some ⟨kb, 0, none⟩)) (x9 : a.eval (.tmp 9) = .pointer (some ⟨c, 0, none⟩)) (x10 : a.eval (.tmp 10) = .pointer (some ⟨c2, 0, none⟩)) (x15 : a.eval (.tmp 15) = .slice (some ⟨g, 0, none⟩) rl rc) (x16 : a.eval (.tmp 16) = .int .i64 now) (x17 : a.eval (.tmp 17) = .int .i64 used) (x18 : a.eval (.tmp 18) = .int .i64 ct) (x19 : a.eval (.tmp 19) = .int .i64 i)
    {PP : World → Prop} (HP : Calls Try.prog 14 #[pp kb, .pointer none] x fun e x' => e = .returned (.tuple #[.agg #[.int .i64 0, .int .i64 now], .int .i64 0]) ∧ PP x')
    (hK : ∀ a' y z, a'.tmps.size = 477 → a'.defers = [] → a'.eval (.tmp 0) = .int .i64 n → a'.eval (.tmp 1) = .slice ta Lc tc → a'.eval (.tmp 5) = .pointer (some ⟨p, 0, none⟩) → a'.eval (.tmp 7) = .pointer (some ⟨kb, 0, none⟩) → a'.eval (.tmp 9) = .pointer (some ⟨c, 0, none⟩) → a'.eval (.tmp 10) = .pointer (some ⟨c2, 0, none⟩) → a'.eval (.tmp 15) = .slice (some ⟨g, 0, none⟩) rl rc → a'.eval (.tmp 16) = .int .i64 now → a'.eval (.tmp 17) = .int .i64 used → a'.eval (.tmp 18) = .int .i64 ct → a'.eval (.tmp 19) = .int .i64 i → a'.eval (.tmp 37) = .pointer (some ⟨z.heap.size, 0, none⟩) → a'.eval (.tmp 38) = .int .i64 0 → PP z → y = z.alloc (snapObj 0 now) → K a' y) : (atc Try.f3.body [1, 1, 1, 1, 1, 1, 1, 1, 1, 1, 1, 1, 1, 1, 0, 1, 0, 0, 1, 0, 0, 1, 0, 1, 0, 1, 1, 1, 1, 1, 1, 1, 1, 1, 0, 0]).wp Try.prog (Exit.then K Q) a x := by
  obtain ⟨cc, hcc, hce⟩ := expand477 hs hd
  have g0 := (hce 0).trans x0
  have g1 := (hce 1).trans x1
  have g5 := (hce 5).trans x5
  have g7 := (hce 7).trans x7
  have g9 := (hce 9).trans x9
  have g10 := (hce 10).trans x10
  have g15 := (hce 15).trans x15
  have g16 := (hce 16).trans x16
  have g17 := (hce 17).trans x17
  have g18 := (hce 18).trans x18
  have g19 := (hce 19).trans x19
  clear hce hs hd x0 x1 x5 x7 x9 x10 x15 x16 x17 x18 x19
  subst hcc
  conv => arg 2; whnf
  simp only [lit477, g0, g1, g5, g7, g9, g10, g15, g16, g17, g18, g19]
  clear g0 g1 g5 g7 g9 g10 g15 g16 g17 g18 g19
  have HK : Hid _ := hK
  clear hK
  go_wp2_with (go_at_call 14; refine HP.mono ?_; rintro e w1 ⟨rfl, hp⟩; have HPP : Hid _ := hp; clear hp HP)
  exact HK.out _ _ _ rfl rfl rfl rfl rfl rfl rfl rfl rfl rfl rfl rfl rfl rfl rfl HPP.out rfl
set_option maxRecDepth 100000 in
set_option maxHeartbeats 1600000 in
theorem ch_76 (hs : a.tmps.size = 477) (hd : a.defers = []) (x0 : a.eval (.tmp 0) = .int .i64 n) (x1 : a.eval (.tmp 1) = .slice ta Lc tc) (x5 : a.eval (.tmp 5) = .pointer (some ⟨p, 0, none⟩)) (x7 : a.eval (.tmp 7) = .pointer (some ⟨kb, 0, none⟩)) (x9 : a.eval (.tmp 9) = .pointer (some ⟨c, 0, none⟩)) (x10 : a.eval (.tmp 10) = .pointer (some ⟨c2, 0, none⟩)) (x15 : a.eval (.tmp 15) = .slice (some ⟨g, 0, none⟩) rl rc) (x16 : a.eval (.tmp 16) = .int .i64 now) (x17 : a.eval (.tmp 17) = .int .i64 used) (x18 : a.eval (.tmp 18) = .int .i64 ct) (x19 : a.eval (.tmp 19) = .int .i64 i) (x37 : a.eval (.tmp 37) = .pointer (some ⟨vb, 0, none⟩)) (x38 : a.eval (.tmp 38) = .int .i64 0)
    (hb : x.heap[vb]? = some (snapObj 0 now)) {PP : World → Prop} (HP : Calls Try.prog 15 #[pp kb, .pointer none, .int .i64 0] x fun e x' => e = .returned (.int .i64 0) ∧ PP x')
    (hK : ∀ a' y, a'.tmps.size = 477 → a'.defers = [] → a'.eval (.tmp 0) = .int .i64 n → a'.eval (.tmp 1) = .slice ta Lc tc → a'.eval (.tmp 5) = .pointer (some ⟨p, 0, none⟩) → a'.eval (.tmp 7) = .pointer (some ⟨kb, 0, none⟩) → a'.eval (.tmp 9) = .pointer (some ⟨c, 0, none⟩) → a'.eval (.tmp 10) = .pointer (some ⟨c2, 0, none⟩) → a'.eval (.tmp 15) = .slice (some ⟨g, 0, none⟩) rl rc → a'.eval (.tmp 16) = .int .i64 now → a'.eval (.tmp 17) = .int .i64 used → a'.eval (.tmp 18) = .int .i64 ct → a'.eval (.tmp 19) = .int .i64 i → PP y → K a' y) : (atc Try.f3.body [1, 1, 1, 1, 1, 1, 1, 1, 1, 1, 1, 1, 1, 1, 0, 1, 0, 0, 1, 0, 0, 1, 0, 1, 0, 1, 1, 1, 1, 1, 1, 1, 1, 1, 0, 1, 0]).wp Try.prog (Exit.then K Q) a x := by
  obtain ⟨cc, hcc, hce⟩ := expand477 hs hd
  have g0 := (hce 0).trans x0
  have g1 := (hce 1).trans x1
  have g5 := (hce 5).trans x5
  have g7 := (hce 7).trans x7
  have g9 := (hce 9).trans x9
  have g10 := (hce 10).trans x10
  have g15 := (hce 15).trans x15
  have g16 := (hce 16).trans x16
  have g17 := (hce 17).trans x17
  have g18 := (hce 18).trans x18
  have g19 := (hce 19).trans x19
  have g37 := (hce 37).trans x37
  have g38 := (hce 38).trans x38
  clear hce hs hd x0 x1 x5 x7 x9 x10 x15 x16 x17 x18 x19 x37 x38
  subst hcc
  conv => arg 2; whnf
  simp only [lit477, g0, g1, g5, g7, g9, g10, g15, g16, g17, g18, g19, g37, g38]
  clear g0 g1 g5 g7 g9 g10 g15 g16 g17 g18 g19 g37 g38
  obtain ⟨⟨s0, s1⟩, -⟩ := snap_cells hb
  clear hb
  have HK : Hid _ := hK
  clear hK
  go_wp2_with (go_at_call 15; refine HP.mono ?_; rintro e w1 ⟨rfl, hp⟩; have HPP : Hid _ := hp; clear hp HP)
  exact HK.out _ _ rfl rfl rfl rfl rfl rfl rfl rfl rfl rfl rfl rfl rfl HPP.out
set_option maxRecDepth 100000 in
set_option maxHeartbeats 1600000 in
theorem ch_78 (hs : a.tmps.size = 477) (hd : a.defers = []) (x0 : a.eval (.tmp 0) = .int .i64 n) (x1 : a.eval (.tmp 1) = .slice ta Lc tc) (x5 : a.eval (.tmp 5) = .pointer (some ⟨p, 0, none⟩)) (x7 : a.eval (.tmp 7) = .pointer (some ⟨kb, 0, none⟩)) (x9 : a.eval (.tmp 9) = .pointer (some ⟨c, 0, none⟩)) (x10 : a.eval (.tmp 10) = .pointer (some ⟨c2, 0, none⟩)) (x15 : a.eval (.tmp 15) = .slice (some ⟨g, 0, none⟩) rl rc) (x16 : a.eval (.tmp 16) = .int .i64 now) (x17 : a.eval (.tmp 17) = .int .i64 used) (x18 : a.eval (.tmp 18) = .int .i64 ct) (x19 : a.eval (.tmp 19) = .int .i64 i)
    (hb : now ≤ 100000) (hb0 : 0 ≤ now)
    (hK : ∀ a', a'.tmps.size = 477 → a'.defers = [] → a'.eval (.tmp 0) = .int .i64 n → a'.eval (.tmp 1) = .slice ta Lc tc → a'.eval (.tmp 5) = .pointer (some ⟨p, 0, none⟩) → a'.eval (.tmp 7) = .pointer (some ⟨kb, 0, none⟩) → a'.eval (.tmp 9) = .pointer (some ⟨c, 0, none⟩) → a'.eval (.tmp 10) = .pointer (some ⟨c2, 0, none⟩) → a'.eval (.tmp 15) = .slice (some ⟨g, 0, none⟩) rl rc → a'.eval (.tmp 16) = .int .i64 (now + 1) → a'.eval (.tmp 17) = .int .i64 used → a'.eval (.tmp 18) = .int .i64 ct → a'.eval (.tmp 19) = .int .i64 i →  K a' x) : (atc Try.f3.body [1, 1, 1, 1, 1, 1, 1, 1, 1, 1, 1, 1, 1, 1, 0, 1, 0, 0, 1, 0, 0, 1, 0, 1, 0, 1, 1, 1, 1, 1, 1, 1, 1, 1, 0, 1, 1]).wp Try.prog (Exit.then K Q) a x := by
  obtain ⟨cc, hcc, hce⟩ := expand477 hs hd
  have g0 := (hce 0).trans x0
  have g1 := (hce 1).trans x1
  have g5 := (hce 5).trans x5
  have g7 := (hce 7).trans x7
  have g9 := (hce 9).trans x9
  have g10 := (hce 10).trans x10
  have g15 := (hce 15).trans x15
  have g16 := (hce 16).trans x16
  have g17 := (hce 17).trans x17
  have g18 := (hce 18).trans x18
  have g19 := (hce 19).trans x19
  clear hce hs hd x0 x1 x5 x7 x9 x10 x15 x16 x17 x18 x19
  subst hcc
  conv => arg 2; whnf
  simp only [lit477, g0, g1, g5, g7, g9, g10, g15, g16, g17, g18, g19]
  clear g0 g1 g5 g7 g9 g10 g15 g16 g17 g18 g19
  have HK : Hid _ := hK
  clear hK
  go_wp2
  exact HK.out _ rfl rfl rfl rfl rfl rfl rfl rfl rfl rfl rfl rfl rfl 
end
end Go.Proofs.Ytaaibhgbkdnlbaa

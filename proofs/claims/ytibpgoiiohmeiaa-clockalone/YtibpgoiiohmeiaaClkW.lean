/- The ways through ClockAlone's loop. (Written by tools/gen/genclk.py.) -/
import Derived.Test.YtibpgoiiohmeiaaClkE
import Derived.Test.YtibpgoiiohmeiaaLit264
namespace Go.Proofs.Ytibpgoiiohmeiaa
open Go.RowKit
section
variable {W x : World} {n b lb cap : Nat} {E : Nat → Nat} {b2 lb2 cap2 : Nat} {E2 : Nat → Nat} {hb : Nat} {now : Int} {h : Nat → Int} {ta : Option Addr} {L tc i k sb so g : Nat} {z m : Int} {t : Bool} {gs : Nat → Int} {a : Act} {K : Act → World → Prop} {Q : Exit → Act → World → Prop}
set_option maxRecDepth 100000 in
set_option maxHeartbeats 1600000 in
theorem ca_in (hs : a.tmps.size = 264) (hd : a.defers = []) (x0 : a.eval (.tmp 0) = .int .i64 n) (x1 : a.eval (.tmp 1) = .slice ta L tc) (x5 : a.eval (.tmp 5) = .pointer (some ⟨b, 0, none⟩)) (x7 : a.eval (.tmp 7) = .pointer (some ⟨b2, 0, none⟩)) (x9 : a.eval (.tmp 9) = .int .i64 now) (x10 : a.eval (.tmp 10) = .slice (some ⟨hb, 0, none⟩) n n) (x11 : a.eval (.tmp 11) = .int .i64 i)
    (hi : (i : Int) < L)
    (hK : ∀ a', a'.tmps.size = 264 → a'.defers = [] → a'.eval (.tmp 0) = .int .i64 n → a'.eval (.tmp 1) = .slice ta L tc → a'.eval (.tmp 5) = .pointer (some ⟨b, 0, none⟩) → a'.eval (.tmp 7) = .pointer (some ⟨b2, 0, none⟩) → a'.eval (.tmp 9) = .int .i64 now → a'.eval (.tmp 10) = .slice (some ⟨hb, 0, none⟩) n n → a'.eval (.tmp 11) = .int .i64 i →  K a' x) : (atc Try.f3.body [1, 1, 1, 1, 1, 1, 1, 1, 1, 0, 1, 1, 1, 0]).wp Try.prog (Exit.then K Q) a x := by
  obtain ⟨cc, hcc, hce⟩ := expand264 hs hd
  have g0 := (hce 0).trans x0
  have g1 := (hce 1).trans x1
  have g5 := (hce 5).trans x5
  have g7 := (hce 7).trans x7
  have g9 := (hce 9).trans x9
  have g10 := (hce 10).trans x10
  have g11 := (hce 11).trans x11
  clear hce hs hd x0 x1 x5 x7 x9 x10 x11
  subst hcc
  conv => arg 2; whnf
  simp only [lit264, g0, g1, g5, g7, g9, g10, g11]
  clear g0 g1 g5 g7 g9 g10 g11
  have HK : Hid _ := hK
  clear hK
  go_wp2
  exact HK.out _ rfl rfl rfl rfl rfl rfl rfl rfl rfl 
set_option maxRecDepth 100000 in
set_option maxHeartbeats 1600000 in
theorem ca_out (hs : a.tmps.size = 264) (hd : a.defers = []) (x0 : a.eval (.tmp 0) = .int .i64 n) (x1 : a.eval (.tmp 1) = .slice ta L tc) (x5 : a.eval (.tmp 5) = .pointer (some ⟨b, 0, none⟩)) (x7 : a.eval (.tmp 7) = .pointer (some ⟨b2, 0, none⟩)) (x9 : a.eval (.tmp 9) = .int .i64 now) (x10 : a.eval (.tmp 10) = .slice (some ⟨hb, 0, none⟩) n n) (x11 : a.eval (.tmp 11) = .int .i64 i)
    (hi : ¬ (i : Int) < L)
    (hQ : ∀ a', a'.tmps.size = 264 → a'.defers = [] → a'.eval (.tmp 0) = .int .i64 n → a'.eval (.tmp 1) = .slice ta L tc → a'.eval (.tmp 5) = .pointer (some ⟨b, 0, none⟩) → a'.eval (.tmp 7) = .pointer (some ⟨b2, 0, none⟩) → a'.eval (.tmp 9) = .int .i64 now → a'.eval (.tmp 10) = .slice (some ⟨hb, 0, none⟩) n n → a'.eval (.tmp 11) = .int .i64 i →  Q (.exit 0) a' x) : (atc Try.f3.body [1, 1, 1, 1, 1, 1, 1, 1, 1, 0, 1, 1, 1, 0]).wp Try.prog (Exit.then K Q) a x := by
  obtain ⟨cc, hcc, hce⟩ := expand264 hs hd
  have g0 := (hce 0).trans x0
  have g1 := (hce 1).trans x1
  have g5 := (hce 5).trans x5
  have g7 := (hce 7).trans x7
  have g9 := (hce 9).trans x9
  have g10 := (hce 10).trans x10
  have g11 := (hce 11).trans x11
  clear hce hs hd x0 x1 x5 x7 x9 x10 x11
  subst hcc
  conv => arg 2; whnf
  simp only [lit264, g0, g1, g5, g7, g9, g10, g11]
  clear g0 g1 g5 g7 g9 g10 g11
  have HK : Hid _ := hQ
  clear hQ
  go_wp2
  exact HK.out _ rfl rfl rfl rfl rfl rfl rfl rfl rfl 
set_option maxRecDepth 100000 in
set_option maxHeartbeats 1600000 in
theorem ca_24 (hs : a.tmps.size = 264) (hd : a.defers = []) (x0 : a.eval (.tmp 0) = .int .i64 n) (x1 : a.eval (.tmp 1) = .slice (some ⟨sb, so, none⟩) L tc) (x5 : a.eval (.tmp 5) = .pointer (some ⟨b, 0, none⟩)) (x7 : a.eval (.tmp 7) = .pointer (some ⟨b2, 0, none⟩)) (x9 : a.eval (.tmp 9) = .int .i64 now) (x10 : a.eval (.tmp 10) = .slice (some ⟨hb, 0, none⟩) n n) (x11 : a.eval (.tmp 11) = .int .i64 i)
    (hi : (i : Int) < L) (hz : x.cell? ⟨sb, so + i, none⟩ = some (.int .i64 z)) (ht : (z == 0) = t)
    (hK : ∀ a', a'.tmps.size = 264 → a'.defers = [] → a'.eval (.tmp 0) = .int .i64 n → a'.eval (.tmp 1) = .slice (some ⟨sb, so, none⟩) L tc → a'.eval (.tmp 5) = .pointer (some ⟨b, 0, none⟩) → a'.eval (.tmp 7) = .pointer (some ⟨b2, 0, none⟩) → a'.eval (.tmp 9) = .int .i64 now → a'.eval (.tmp 10) = .slice (some ⟨hb, 0, none⟩) n n → a'.eval (.tmp 11) = .int .i64 i → a'.eval (.tmp 99) = .bool t →  K a' x) : (atc Try.f3.body [1, 1, 1, 1, 1, 1, 1, 1, 1, 0, 1, 1, 1, 1, 0, 0, 0, 0, 0]).wp Try.prog (Exit.then K Q) a x := by
  obtain ⟨cc, hcc, hce⟩ := expand264 hs hd
  have g0 := (hce 0).trans x0
  have g1 := (hce 1).trans x1
  have g5 := (hce 5).trans x5
  have g7 := (hce 7).trans x7
  have g9 := (hce 9).trans x9
  have g10 := (hce 10).trans x10
  have g11 := (hce 11).trans x11
  clear hce hs hd x0 x1 x5 x7 x9 x10 x11
  subst hcc
  conv => arg 2; whnf
  simp only [lit264, g0, g1, g5, g7, g9, g10, g11]
  clear g0 g1 g5 g7 g9 g10 g11
  have HK : Hid _ := hK
  clear hK
  go_wp2
  exact HK.out _ rfl rfl rfl rfl rfl rfl rfl rfl rfl rfl 
set_option maxRecDepth 100000 in
set_option maxHeartbeats 1600000 in
theorem ca_36 (hs : a.tmps.size = 264) (hd : a.defers = []) (x0 : a.eval (.tmp 0) = .int .i64 n) (x1 : a.eval (.tmp 1) = .slice (some ⟨sb, so, none⟩) L tc) (x5 : a.eval (.tmp 5) = .pointer (some ⟨b, 0, none⟩)) (x7 : a.eval (.tmp 7) = .pointer (some ⟨b2, 0, none⟩)) (x9 : a.eval (.tmp 9) = .int .i64 now) (x10 : a.eval (.tmp 10) = .slice (some ⟨hb, 0, none⟩) n n) (x11 : a.eval (.tmp 11) = .int .i64 i)
    (hi : (i : Int) < L) (hz : x.cell? ⟨sb, so + i, none⟩ = some (.int .i64 z)) (ht : (z == -1) = t)
    (hK : ∀ a', a'.tmps.size = 264 → a'.defers = [] → a'.eval (.tmp 0) = .int .i64 n → a'.eval (.tmp 1) = .slice (some ⟨sb, so, none⟩) L tc → a'.eval (.tmp 5) = .pointer (some ⟨b, 0, none⟩) → a'.eval (.tmp 7) = .pointer (some ⟨b2, 0, none⟩) → a'.eval (.tmp 9) = .int .i64 now → a'.eval (.tmp 10) = .slice (some ⟨hb, 0, none⟩) n n → a'.eval (.tmp 11) = .int .i64 i → a'.eval (.tmp 168) = .bool t →  K a' x) : (atc Try.f3.body [1, 1, 1, 1, 1, 1, 1, 1, 1, 0, 1, 1, 1, 1, 0, 0, 0, 0, 1, 1, 0]).wp Try.prog (Exit.then K Q) a x := by
  obtain ⟨cc, hcc, hce⟩ := expand264 hs hd
  have g0 := (hce 0).trans x0
  have g1 := (hce 1).trans x1
  have g5 := (hce 5).trans x5
  have g7 := (hce 7).trans x7
  have g9 := (hce 9).trans x9
  have g10 := (hce 10).trans x10
  have g11 := (hce 11).trans x11
  clear hce hs hd x0 x1 x5 x7 x9 x10 x11
  subst hcc
  conv => arg 2; whnf
  simp only [lit264, g0, g1, g5, g7, g9, g10, g11]
  clear g0 g1 g5 g7 g9 g10 g11
  have HK : Hid _ := hK
  clear hK
  go_wp2
  exact HK.out _ rfl rfl rfl rfl rfl rfl rfl rfl rfl rfl 
set_option maxRecDepth 100000 in
set_option maxHeartbeats 1600000 in
theorem ca_39 (hs : a.tmps.size = 264) (hd : a.defers = []) (x0 : a.eval (.tmp 0) = .int .i64 n) (x1 : a.eval (.tmp 1) = .slice (some ⟨sb, so, none⟩) L tc) (x5 : a.eval (.tmp 5) = .pointer (some ⟨b, 0, none⟩)) (x7 : a.eval (.tmp 7) = .pointer (some ⟨b2, 0, none⟩)) (x9 : a.eval (.tmp 9) = .int .i64 now) (x10 : a.eval (.tmp 10) = .slice (some ⟨hb, 0, none⟩) n n) (x11 : a.eval (.tmp 11) = .int .i64 i)
    (hi : (i : Int) < L) (hz : x.cell? ⟨sb, so + i, none⟩ = some (.int .i64 z)) (ht : (z == -2) = t)
    (hK : ∀ a', a'.tmps.size = 264 → a'.defers = [] → a'.eval (.tmp 0) = .int .i64 n → a'.eval (.tmp 1) = .slice (some ⟨sb, so, none⟩) L tc → a'.eval (.tmp 5) = .pointer (some ⟨b, 0, none⟩) → a'.eval (.tmp 7) = .pointer (some ⟨b2, 0, none⟩) → a'.eval (.tmp 9) = .int .i64 now → a'.eval (.tmp 10) = .slice (some ⟨hb, 0, none⟩) n n → a'.eval (.tmp 11) = .int .i64 i → a'.eval (.tmp 178) = .bool t →  K a' x) : (atc Try.f3.body [1, 1, 1, 1, 1, 1, 1, 1, 1, 0, 1, 1, 1, 1, 0, 0, 0, 0, 1, 1, 1, 1, 0]).wp Try.prog (Exit.then K Q) a x := by
  obtain ⟨cc, hcc, hce⟩ := expand264 hs hd
  have g0 := (hce 0).trans x0
  have g1 := (hce 1).trans x1
  have g5 := (hce 5).trans x5
  have g7 := (hce 7).trans x7
  have g9 := (hce 9).trans x9
  have g10 := (hce 10).trans x10
  have g11 := (hce 11).trans x11
  clear hce hs hd x0 x1 x5 x7 x9 x10 x11
  subst hcc
  conv => arg 2; whnf
  simp only [lit264, g0, g1, g5, g7, g9, g10, g11]
  clear g0 g1 g5 g7 g9 g10 g11
  have HK : Hid _ := hK
  clear hK
  go_wp2
  exact HK.out _ rfl rfl rfl rfl rfl rfl rfl rfl rfl rfl 
set_option maxRecDepth 100000 in
set_option maxHeartbeats 1600000 in
theorem ca_25 (hs : a.tmps.size = 264) (hd : a.defers = []) (x0 : a.eval (.tmp 0) = .int .i64 n) (x1 : a.eval (.tmp 1) = .slice ta L tc) (x5 : a.eval (.tmp 5) = .pointer (some ⟨b, 0, none⟩)) (x7 : a.eval (.tmp 7) = .pointer (some ⟨b2, 0, none⟩)) (x9 : a.eval (.tmp 9) = .int .i64 now) (x10 : a.eval (.tmp 10) = .slice (some ⟨hb, 0, none⟩) n n) (x11 : a.eval (.tmp 11) = .int .i64 i)
    
    (hK : ∀ a', a'.tmps.size = 264 → a'.defers = [] → a'.eval (.tmp 0) = .int .i64 n → a'.eval (.tmp 1) = .slice ta L tc → a'.eval (.tmp 5) = .pointer (some ⟨b, 0, none⟩) → a'.eval (.tmp 7) = .pointer (some ⟨b2, 0, none⟩) → a'.eval (.tmp 9) = .int .i64 now → a'.eval (.tmp 10) = .slice (some ⟨hb, 0, none⟩) n n → a'.eval (.tmp 11) = .int .i64 i → a'.eval (.tmp 12) = .int .i64 0 →  K a' x) : (atc Try.f3.body [1, 1, 1, 1, 1, 1, 1, 1, 1, 0, 1, 1, 1, 1, 0, 0, 0, 0, 1, 0, 0]).wp Try.prog (Exit.then K Q) a x := by
  obtain ⟨cc, hcc, hce⟩ := expand264 hs hd
  have g0 := (hce 0).trans x0
  have g1 := (hce 1).trans x1
  have g5 := (hce 5).trans x5
  have g7 := (hce 7).trans x7
  have g9 := (hce 9).trans x9
  have g10 := (hce 10).trans x10
  have g11 := (hce 11).trans x11
  clear hce hs hd x0 x1 x5 x7 x9 x10 x11
  subst hcc
  conv => arg 2; whnf
  simp only [lit264, g0, g1, g5, g7, g9, g10, g11]
  clear g0 g1 g5 g7 g9 g10 g11
  have HK : Hid _ := hK
  clear hK
  go_wp2
  exact HK.out _ rfl rfl rfl rfl rfl rfl rfl rfl rfl rfl 
set_option maxRecDepth 100000 in
set_option maxHeartbeats 1600000 in
theorem ca_3go (hs : a.tmps.size = 264) (hd : a.defers = []) (x0 : a.eval (.tmp 0) = .int .i64 n) (x1 : a.eval (.tmp 1) = .slice ta L tc) (x5 : a.eval (.tmp 5) = .pointer (some ⟨b, 0, none⟩)) (x7 : a.eval (.tmp 7) = .pointer (some ⟨b2, 0, none⟩)) (x9 : a.eval (.tmp 9) = .int .i64 now) (x10 : a.eval (.tmp 10) = .slice (some ⟨hb, 0, none⟩) n n) (x11 : a.eval (.tmp 11) = .int .i64 i) (x12 : a.eval (.tmp 12) = .int .i64 k)
    (hc : x.cell? ⟨hb, k, none⟩ = some (.int .i64 (h k))) (hk : (k : Int) < n) (hn : n ≤ 64) (hv : 0 < h k)
    (hK : ∀ a', a'.tmps.size = 264 → a'.defers = [] → a'.eval (.tmp 0) = .int .i64 n → a'.eval (.tmp 1) = .slice ta L tc → a'.eval (.tmp 5) = .pointer (some ⟨b, 0, none⟩) → a'.eval (.tmp 7) = .pointer (some ⟨b2, 0, none⟩) → a'.eval (.tmp 9) = .int .i64 now → a'.eval (.tmp 10) = .slice (some ⟨hb, 0, none⟩) n n → a'.eval (.tmp 11) = .int .i64 i → a'.eval (.tmp 12) = .int .i64 ((k + 1 : Nat) : Int) →  K a' x) : (atc Try.f3.body [1, 1, 1, 1, 1, 1, 1, 1, 1, 0, 1, 1, 1, 1, 0, 0, 0, 0, 1, 0, 1, 0, 0, 0]).wp Try.prog (Exit.then K Q) a x := by
  obtain ⟨cc, hcc, hce⟩ := expand264 hs hd
  have g0 := (hce 0).trans x0
  have g1 := (hce 1).trans x1
  have g5 := (hce 5).trans x5
  have g7 := (hce 7).trans x7
  have g9 := (hce 9).trans x9
  have g10 := (hce 10).trans x10
  have g11 := (hce 11).trans x11
  have g12 := (hce 12).trans x12
  clear hce hs hd x0 x1 x5 x7 x9 x10 x11 x12
  subst hcc
  conv => arg 2; whnf
  simp only [lit264, g0, g1, g5, g7, g9, g10, g11, g12]
  clear g0 g1 g5 g7 g9 g10 g11 g12
  generalize h k = v at *
  have HK : Hid _ := hK
  clear hK
  go_wp2
  exact HK.out _ rfl rfl rfl rfl rfl rfl rfl rfl rfl rfl 
set_option maxRecDepth 100000 in
set_option maxHeartbeats 1600000 in
theorem ca_3free (hs : a.tmps.size = 264) (hd : a.defers = []) (x0 : a.eval (.tmp 0) = .int .i64 n) (x1 : a.eval (.tmp 1) = .slice ta L tc) (x5 : a.eval (.tmp 5) = .pointer (some ⟨b, 0, none⟩)) (x7 : a.eval (.tmp 7) = .pointer (some ⟨b2, 0, none⟩)) (x9 : a.eval (.tmp 9) = .int .i64 now) (x10 : a.eval (.tmp 10) = .slice (some ⟨hb, 0, none⟩) n n) (x11 : a.eval (.tmp 11) = .int .i64 i) (x12 : a.eval (.tmp 12) = .int .i64 k)
    (hc : x.cell? ⟨hb, k, none⟩ = some (.int .i64 (h k))) (hk : (k : Int) < n) (hv : h k = 0)
    (hQ : ∀ a', a'.tmps.size = 264 → a'.defers = [] → a'.eval (.tmp 0) = .int .i64 n → a'.eval (.tmp 1) = .slice ta L tc → a'.eval (.tmp 5) = .pointer (some ⟨b, 0, none⟩) → a'.eval (.tmp 7) = .pointer (some ⟨b2, 0, none⟩) → a'.eval (.tmp 9) = .int .i64 now → a'.eval (.tmp 10) = .slice (some ⟨hb, 0, none⟩) n n → a'.eval (.tmp 11) = .int .i64 i → a'.eval (.tmp 12) = .int .i64 k →  Q (.exit 3) a' x) : (atc Try.f3.body [1, 1, 1, 1, 1, 1, 1, 1, 1, 0, 1, 1, 1, 1, 0, 0, 0, 0, 1, 0, 1, 0, 0, 0]).wp Try.prog (Exit.then K Q) a x := by
  obtain ⟨cc, hcc, hce⟩ := expand264 hs hd
  have g0 := (hce 0).trans x0
  have g1 := (hce 1).trans x1
  have g5 := (hce 5).trans x5
  have g7 := (hce 7).trans x7
  have g9 := (hce 9).trans x9
  have g10 := (hce 10).trans x10
  have g11 := (hce 11).trans x11
  have g12 := (hce 12).trans x12
  clear hce hs hd x0 x1 x5 x7 x9 x10 x11 x12
  subst hcc
  conv => arg 2; whnf
  simp only [lit264, g0, g1, g5, g7, g9, g10, g11, g12]
  clear g0 g1 g5 g7 g9 g10 g11 g12
  rw [hv] at hc
  clear hv
  have HK : Hid _ := hQ
  clear hQ
  go_wp2
  exact HK.out _ rfl rfl rfl rfl rfl rfl rfl rfl rfl rfl 
set_option maxRecDepth 100000 in
set_option maxHeartbeats 1600000 in
theorem ca_3full (hs : a.tmps.size = 264) (hd : a.defers = []) (x0 : a.eval (.tmp 0) = .int .i64 n) (x1 : a.eval (.tmp 1) = .slice ta L tc) (x5 : a.eval (.tmp 5) = .pointer (some ⟨b, 0, none⟩)) (x7 : a.eval (.tmp 7) = .pointer (some ⟨b2, 0, none⟩)) (x9 : a.eval (.tmp 9) = .int .i64 now) (x10 : a.eval (.tmp 10) = .slice (some ⟨hb, 0, none⟩) n n) (x11 : a.eval (.tmp 11) = .int .i64 i) (x12 : a.eval (.tmp 12) = .int .i64 k)
    (hk : k = n)
    (hQ : ∀ a', a'.tmps.size = 264 → a'.defers = [] → a'.eval (.tmp 0) = .int .i64 n → a'.eval (.tmp 1) = .slice ta L tc → a'.eval (.tmp 5) = .pointer (some ⟨b, 0, none⟩) → a'.eval (.tmp 7) = .pointer (some ⟨b2, 0, none⟩) → a'.eval (.tmp 9) = .int .i64 now → a'.eval (.tmp 10) = .slice (some ⟨hb, 0, none⟩) n n → a'.eval (.tmp 11) = .int .i64 i → a'.eval (.tmp 12) = .int .i64 k →  Q (.exit 3) a' x) : (atc Try.f3.body [1, 1, 1, 1, 1, 1, 1, 1, 1, 0, 1, 1, 1, 1, 0, 0, 0, 0, 1, 0, 1, 0, 0, 0]).wp Try.prog (Exit.then K Q) a x := by
  obtain ⟨cc, hcc, hce⟩ := expand264 hs hd
  have g0 := (hce 0).trans x0
  have g1 := (hce 1).trans x1
  have g5 := (hce 5).trans x5
  have g7 := (hce 7).trans x7
  have g9 := (hce 9).trans x9
  have g10 := (hce 10).trans x10
  have g11 := (hce 11).trans x11
  have g12 := (hce 12).trans x12
  clear hce hs hd x0 x1 x5 x7 x9 x10 x11 x12
  subst hcc
  conv => arg 2; whnf
  simp only [lit264, g0, g1, g5, g7, g9, g10, g11, g12]
  clear g0 g1 g5 g7 g9 g10 g11 g12
  subst hk
  have hk : ¬ (k : Int) < k := by omega
  have HK : Hid _ := hQ
  clear hQ
  go_wp2
  exact HK.out _ rfl rfl rfl rfl rfl rfl rfl rfl rfl rfl 
set_option maxRecDepth 100000 in
set_option maxHeartbeats 1600000 in
theorem ca_full (hs : a.tmps.size = 264) (hd : a.defers = []) (x0 : a.eval (.tmp 0) = .int .i64 n) (x1 : a.eval (.tmp 1) = .slice ta L tc) (x5 : a.eval (.tmp 5) = .pointer (some ⟨b, 0, none⟩)) (x7 : a.eval (.tmp 7) = .pointer (some ⟨b2, 0, none⟩)) (x9 : a.eval (.tmp 9) = .int .i64 now) (x10 : a.eval (.tmp 10) = .slice (some ⟨hb, 0, none⟩) n n) (x11 : a.eval (.tmp 11) = .int .i64 i) (x12 : a.eval (.tmp 12) = .int .i64 n)
    (hI : CS W x n b lb cap E b2 lb2 cap2 E2 hb now h) (hn : n ≤ 64) (hf : ∀ j, j < n → 0 < h j)
    (hQ : ∀ a' y, a'.tmps.size = 264 → a'.defers = [] → a'.eval (.tmp 0) = .int .i64 n → a'.eval (.tmp 1) = .slice ta L tc → a'.eval (.tmp 5) = .pointer (some ⟨b, 0, none⟩) → a'.eval (.tmp 7) = .pointer (some ⟨b2, 0, none⟩) → a'.eval (.tmp 9) = .int .i64 now → a'.eval (.tmp 10) = .slice (some ⟨hb, 0, none⟩) n n → a'.eval (.tmp 11) = .int .i64 i → CS W y n b lb cap E b2 lb2 cap2 E2 hb now h → Q (.exit 2) a' y) : (atc Try.f3.body [1, 1, 1, 1, 1, 1, 1, 1, 1, 0, 1, 1, 1, 1, 0, 0, 0, 0, 1, 0, 1, 1]).wp Try.prog (Exit.then K Q) a x := by
  obtain ⟨cc, hcc, hce⟩ := expand264 hs hd
  have g0 := (hce 0).trans x0
  have g1 := (hce 1).trans x1
  have g5 := (hce 5).trans x5
  have g7 := (hce 7).trans x7
  have g9 := (hce 9).trans x9
  have g10 := (hce 10).trans x10
  have g11 := (hce 11).trans x11
  have g12 := (hce 12).trans x12
  clear hce hs hd x0 x1 x5 x7 x9 x10 x11 x12
  subst hcc
  conv => arg 2; whnf
  simp only [lit264, g0, g1, g5, g7, g9, g10, g11, g12]
  clear g0 g1 g5 g7 g9 g10 g11 g12
  have HI : Hid _ := hI
  have HT := cTakeNone hI.c hn (fun j hj => fOf_ne (hf j hj))
  clear hI hf
  have HK : Hid _ := hQ
  clear hQ
  go_wp2_with (go_at_call 6; refine HT.mono ?_; rintro e w1 ⟨rfl, ht1⟩; have HT1 : Hid _ := ht1; clear ht1)
  exact HK.out _ _ rfl rfl rfl rfl rfl rfl rfl rfl rfl (HI.out.still (HT1.out.alloc _))
set_option maxRecDepth 100000 in
set_option maxHeartbeats 1600000 in
theorem ca_28 (hs : a.tmps.size = 264) (hd : a.defers = []) (x0 : a.eval (.tmp 0) = .int .i64 n) (x1 : a.eval (.tmp 1) = .slice ta L tc) (x5 : a.eval (.tmp 5) = .pointer (some ⟨b, 0, none⟩)) (x7 : a.eval (.tmp 7) = .pointer (some ⟨b2, 0, none⟩)) (x9 : a.eval (.tmp 9) = .int .i64 now) (x10 : a.eval (.tmp 10) = .slice (some ⟨hb, 0, none⟩) n n) (x11 : a.eval (.tmp 11) = .int .i64 i) (x12 : a.eval (.tmp 12) = .int .i64 k)
    (hI : CS W x n b lb cap E b2 lb2 cap2 E2 hb now h) (hn : n ≤ 64) (hk : k < n) (hp : 1 ≤ now) (hp2 : now ≤ 900000) (h0 : h k = 0) (hf : ∀ j, j < k → 0 < h j)
    (hK : ∀ a' y g, a'.tmps.size = 264 → a'.defers = [] → a'.eval (.tmp 0) = .int .i64 n → a'.eval (.tmp 1) = .slice ta L tc → a'.eval (.tmp 5) = .pointer (some ⟨b, 0, none⟩) → a'.eval (.tmp 7) = .pointer (some ⟨b2, 0, none⟩) → a'.eval (.tmp 9) = .int .i64 now → a'.eval (.tmp 10) = .slice (some ⟨hb, 0, none⟩) n n → a'.eval (.tmp 11) = .int .i64 i → a'.eval (.tmp 12) = .int .i64 k → a'.eval (.tmp 13) = .pointer (some ⟨g, 0, none⟩) → a'.eval (.tmp 14) = .int .i64 0 → ClockAt y b lb n cap E (now + 1) (upd (fOf h) k (now + 1)) → Turned [b, E k] x y → y.heap[g]? = some (snapObj k now) → K a' y) : (atc Try.f3.body [1, 1, 1, 1, 1, 1, 1, 1, 1, 0, 1, 1, 1, 1, 0, 0, 0, 0, 1, 0, 1, 1, 0]).wp Try.prog (Exit.then K Q) a x := by
  obtain ⟨cc, hcc, hce⟩ := expand264 hs hd
  have g0 := (hce 0).trans x0
  have g1 := (hce 1).trans x1
  have g5 := (hce 5).trans x5
  have g7 := (hce 7).trans x7
  have g9 := (hce 9).trans x9
  have g10 := (hce 10).trans x10
  have g11 := (hce 11).trans x11
  have g12 := (hce 12).trans x12
  clear hce hs hd x0 x1 x5 x7 x9 x10 x11 x12
  subst hcc
  conv => arg 2; whnf
  simp only [lit264, g0, g1, g5, g7, g9, g10, g11, g12]
  clear g0 g1 g5 g7 g9 g10 g11 g12
  have HT := cTakeAt hI.c hn (by omega) (by omega) k hk (fOf_eq h0) (fun j hj => fOf_ne (hf j hj))
  clear hI hf h0 hk
  have HK : Hid _ := hK
  clear hK
  go_wp2_with (go_at_call 6; refine HT.mono ?_; rintro e w1 ⟨rfl, hk1, ht1⟩; have H1 : Hid _ := hk1; have T1 : Hid _ := ht1; clear hk1 ht1)
  exact HK.out _ _ _ rfl rfl rfl rfl rfl rfl rfl rfl rfl rfl rfl rfl (H1.out.still ((Turned.refl _ _).alloc _)) (T1.out.alloc _) (blk_new _ _)
set_option maxRecDepth 100000 in
set_option maxHeartbeats 1600000 in
theorem ca_29 (hs : a.tmps.size = 264) (hd : a.defers = []) (x0 : a.eval (.tmp 0) = .int .i64 n) (x1 : a.eval (.tmp 1) = .slice ta L tc) (x5 : a.eval (.tmp 5) = .pointer (some ⟨b, 0, none⟩)) (x7 : a.eval (.tmp 7) = .pointer (some ⟨b2, 0, none⟩)) (x9 : a.eval (.tmp 9) = .int .i64 now) (x10 : a.eval (.tmp 10) = .slice (some ⟨hb, 0, none⟩) n n) (x11 : a.eval (.tmp 11) = .int .i64 i) (x12 : a.eval (.tmp 12) = .int .i64 k) (x13 : a.eval (.tmp 13) = .pointer (some ⟨g, 0, none⟩)) (x14 : a.eval (.tmp 14) = .int .i64 0)
    (hk : ((k : Int) == n) = false)
    (hK : ∀ a', a'.tmps.size = 264 → a'.defers = [] → a'.eval (.tmp 0) = .int .i64 n → a'.eval (.tmp 1) = .slice ta L tc → a'.eval (.tmp 5) = .pointer (some ⟨b, 0, none⟩) → a'.eval (.tmp 7) = .pointer (some ⟨b2, 0, none⟩) → a'.eval (.tmp 9) = .int .i64 now → a'.eval (.tmp 10) = .slice (some ⟨hb, 0, none⟩) n n → a'.eval (.tmp 11) = .int .i64 i → a'.eval (.tmp 12) = .int .i64 k → a'.eval (.tmp 13) = .pointer (some ⟨g, 0, none⟩) → a'.eval (.tmp 14) = .int .i64 0 →  K a' x) : (atc Try.f3.body [1, 1, 1, 1, 1, 1, 1, 1, 1, 0, 1, 1, 1, 1, 0, 0, 0, 0, 1, 0, 1, 1, 1, 0]).wp Try.prog (Exit.then K Q) a x := by
  obtain ⟨cc, hcc, hce⟩ := expand264 hs hd
  have g0 := (hce 0).trans x0
  have g1 := (hce 1).trans x1
  have g5 := (hce 5).trans x5
  have g7 := (hce 7).trans x7
  have g9 := (hce 9).trans x9
  have g10 := (hce 10).trans x10
  have g11 := (hce 11).trans x11
  have g12 := (hce 12).trans x12
  have g13 := (hce 13).trans x13
  have g14 := (hce 14).trans x14
  clear hce hs hd x0 x1 x5 x7 x9 x10 x11 x12 x13 x14
  subst hcc
  conv => arg 2; whnf
  simp only [lit264, g0, g1, g5, g7, g9, g10, g11, g12, g13, g14]
  clear g0 g1 g5 g7 g9 g10 g11 g12 g13 g14
  have HK : Hid _ := hK
  clear hK
  go_wp2
  exact HK.out _ rfl rfl rfl rfl rfl rfl rfl rfl rfl rfl rfl rfl 
set_option maxRecDepth 100000 in
set_option maxHeartbeats 1600000 in
theorem ca_32 (hs : a.tmps.size = 264) (hd : a.defers = []) (x0 : a.eval (.tmp 0) = .int .i64 n) (x1 : a.eval (.tmp 1) = .slice ta L tc) (x5 : a.eval (.tmp 5) = .pointer (some ⟨b, 0, none⟩)) (x7 : a.eval (.tmp 7) = .pointer (some ⟨b2, 0, none⟩)) (x9 : a.eval (.tmp 9) = .int .i64 now) (x10 : a.eval (.tmp 10) = .slice (some ⟨hb, 0, none⟩) n n) (x11 : a.eval (.tmp 11) = .int .i64 i) (x12 : a.eval (.tmp 12) = .int .i64 k) (x13 : a.eval (.tmp 13) = .pointer (some ⟨g, 0, none⟩)) (x14 : a.eval (.tmp 14) = .int .i64 0)
    (hg : x.heap[g]? = some (snapObj k now)) (hp : 1 ≤ now) (hp2 : now ≤ 900000) (h1 : Calls Try.prog 7 #[.pointer (some ⟨b, 0, none⟩), .pointer none, .agg #[.int .i64 k, .int .i64 now]] x fun e w' => e = .returned (.bool true) ∧ Turned [] x w') (h2 : ∀ y, Turned [] x y → Calls Try.prog 7 #[.pointer (some ⟨b, 0, none⟩), .pointer none, .agg #[.int .i64 k, .int .i64 (now + 1)]] y fun e w' => e = .returned (.bool false) ∧ Turned [] y w') (h3 : ∀ y, Turned [] x y → Calls Try.prog 7 #[.pointer (some ⟨b, 0, none⟩), .pointer none, .agg #[.int .i64 n, .int .i64 now]] y fun e w' => e = .returned (.bool false) ∧ Turned [] y w')
    (hK : ∀ a' y, a'.tmps.size = 264 → a'.defers = [] → a'.eval (.tmp 0) = .int .i64 n → a'.eval (.tmp 1) = .slice ta L tc → a'.eval (.tmp 5) = .pointer (some ⟨b, 0, none⟩) → a'.eval (.tmp 7) = .pointer (some ⟨b2, 0, none⟩) → a'.eval (.tmp 9) = .int .i64 now → a'.eval (.tmp 10) = .slice (some ⟨hb, 0, none⟩) n n → a'.eval (.tmp 11) = .int .i64 i → a'.eval (.tmp 12) = .int .i64 k → Turned [] x y → K a' y) : (atc Try.f3.body [1, 1, 1, 1, 1, 1, 1, 1, 1, 0, 1, 1, 1, 1, 0, 0, 0, 0, 1, 0, 1, 1, 1, 1, 0]).wp Try.prog (Exit.then K Q) a x := by
  obtain ⟨cc, hcc, hce⟩ := expand264 hs hd
  have g0 := (hce 0).trans x0
  have g1 := (hce 1).trans x1
  have g5 := (hce 5).trans x5
  have g7 := (hce 7).trans x7
  have g9 := (hce 9).trans x9
  have g10 := (hce 10).trans x10
  have g11 := (hce 11).trans x11
  have g12 := (hce 12).trans x12
  have g13 := (hce 13).trans x13
  have g14 := (hce 14).trans x14
  clear hce hs hd x0 x1 x5 x7 x9 x10 x11 x12 x13 x14
  subst hcc
  conv => arg 2; whnf
  simp only [lit264, g0, g1, g5, g7, g9, g10, g11, g12, g13, g14]
  clear g0 g1 g5 g7 g9 g10 g11 g12 g13 g14
  obtain ⟨⟨s0, s1⟩, -⟩ := snap_cells hg
  have H2 : Hid _ := h2
  have H3 : Hid _ := h3
  clear h2 h3 hg
  have HK : Hid _ := hK
  clear hK
  go_wp2_with (first
    | (go_at_call 7; refine h1.mono ?_; rintro e w2 ⟨rfl, ht2⟩; have T2 : Hid (Turned [] x w2) := ht2; clear ht2 h1)
    | (go_at_call 7; refine (H2.out _ T2.out).mono ?_; rintro e w3 ⟨rfl, ht3⟩; have T3 : Hid (Turned [] x w3) := T2.out.trans ht3; clear ht3 H2 T2)
    | (go_at_call 7; refine (H3.out _ T3.out).mono ?_; rintro e w4 ⟨rfl, ht4⟩; have T4 : Hid (Turned [] x w4) := T3.out.trans ht4; clear ht4))
  exact HK.out _ _ rfl rfl rfl rfl rfl rfl rfl rfl rfl rfl T4.out
set_option maxRecDepth 100000 in
set_option maxHeartbeats 1600000 in
theorem ca_34 (hs : a.tmps.size = 264) (hd : a.defers = []) (x0 : a.eval (.tmp 0) = .int .i64 n) (x1 : a.eval (.tmp 1) = .slice ta L tc) (x5 : a.eval (.tmp 5) = .pointer (some ⟨b, 0, none⟩)) (x7 : a.eval (.tmp 7) = .pointer (some ⟨b2, 0, none⟩)) (x9 : a.eval (.tmp 9) = .int .i64 now) (x10 : a.eval (.tmp 10) = .slice (some ⟨hb, 0, none⟩) n n) (x11 : a.eval (.tmp 11) = .int .i64 i) (x12 : a.eval (.tmp 12) = .int .i64 k)
    (hc : x.cell? ⟨hb, k, none⟩ = some (.int .i64 (h k))) (hz : x.frozen? ⟨hb, k, none⟩ = false) (hk : (k : Int) < n) (hp : 1 ≤ now) (hp2 : now ≤ 900000)
    (hK : ∀ a' y, a'.tmps.size = 264 → a'.defers = [] → a'.eval (.tmp 0) = .int .i64 n → a'.eval (.tmp 1) = .slice ta L tc → a'.eval (.tmp 5) = .pointer (some ⟨b, 0, none⟩) → a'.eval (.tmp 7) = .pointer (some ⟨b2, 0, none⟩) → a'.eval (.tmp 9) = .int .i64 (now + 1) → a'.eval (.tmp 10) = .slice (some ⟨hb, 0, none⟩) n n → a'.eval (.tmp 11) = .int .i64 i → y = x.setCell ⟨hb, k, none⟩ (.int .i64 now) → K a' y) : (atc Try.f3.body [1, 1, 1, 1, 1, 1, 1, 1, 1, 0, 1, 1, 1, 1, 0, 0, 0, 0, 1, 0, 1, 1, 1, 1, 1]).wp Try.prog (Exit.then K Q) a x := by
  obtain ⟨cc, hcc, hce⟩ := expand264 hs hd
  have g0 := (hce 0).trans x0
  have g1 := (hce 1).trans x1
  have g5 := (hce 5).trans x5
  have g7 := (hce 7).trans x7
  have g9 := (hce 9).trans x9
  have g10 := (hce 10).trans x10
  have g11 := (hce 11).trans x11
  have g12 := (hce 12).trans x12
  clear hce hs hd x0 x1 x5 x7 x9 x10 x11 x12
  subst hcc
  conv => arg 2; whnf
  simp only [lit264, g0, g1, g5, g7, g9, g10, g11, g12]
  clear g0 g1 g5 g7 g9 g10 g11 g12
  have HK : Hid _ := hK
  clear hK
  go_wp2
  exact HK.out _ _ rfl rfl rfl rfl rfl rfl rfl rfl rfl rfl
set_option maxRecDepth 100000 in
set_option maxHeartbeats 1600000 in
theorem ca_now (hs : a.tmps.size = 264) (hd : a.defers = []) (x0 : a.eval (.tmp 0) = .int .i64 n) (x1 : a.eval (.tmp 1) = .slice ta L tc) (x5 : a.eval (.tmp 5) = .pointer (some ⟨b, 0, none⟩)) (x7 : a.eval (.tmp 7) = .pointer (some ⟨b2, 0, none⟩)) (x9 : a.eval (.tmp 9) = .int .i64 now) (x10 : a.eval (.tmp 10) = .slice (some ⟨hb, 0, none⟩) n n) (x11 : a.eval (.tmp 11) = .int .i64 i)
    (hI : CS W x n b lb cap E b2 lb2 cap2 E2 hb now h)
    (hK : ∀ a', a'.tmps.size = 264 → a'.defers = [] → a'.eval (.tmp 0) = .int .i64 n → a'.eval (.tmp 1) = .slice ta L tc → a'.eval (.tmp 5) = .pointer (some ⟨b, 0, none⟩) → a'.eval (.tmp 7) = .pointer (some ⟨b2, 0, none⟩) → a'.eval (.tmp 9) = .int .i64 now → a'.eval (.tmp 10) = .slice (some ⟨hb, 0, none⟩) n n → a'.eval (.tmp 11) = .int .i64 i →  K a' x) : (atc Try.f3.body [1, 1, 1, 1, 1, 1, 1, 1, 1, 0, 1, 1, 1, 1, 0, 0, 0, 0, 1, 1, 1, 0]).wp Try.prog (Exit.then K Q) a x := by
  obtain ⟨cc, hcc, hce⟩ := expand264 hs hd
  have g0 := (hce 0).trans x0
  have g1 := (hce 1).trans x1
  have g5 := (hce 5).trans x5
  have g7 := (hce 7).trans x7
  have g9 := (hce 9).trans x9
  have g10 := (hce 10).trans x10
  have g11 := (hce 11).trans x11
  clear hce hs hd x0 x1 x5 x7 x9 x10 x11
  subst hcc
  conv => arg 2; whnf
  simp only [lit264, g0, g1, g5, g7, g9, g10, g11]
  clear g0 g1 g5 g7 g9 g10 g11
  have HN := cNow hI.c.obj
  clear hI
  have HK : Hid _ := hK
  clear hK
  go_wp2_with (go_at_call 8; refine HN.mono ?_; rintro e w' ⟨rfl, hw⟩; obtain rfl := hw.symm)
  exact HK.out _ rfl rfl rfl rfl rfl rfl rfl rfl rfl 
set_option maxRecDepth 100000 in
set_option maxHeartbeats 1600000 in
theorem ca_40 (hs : a.tmps.size = 264) (hd : a.defers = []) (x0 : a.eval (.tmp 0) = .int .i64 n) (x1 : a.eval (.tmp 1) = .slice ta L tc) (x5 : a.eval (.tmp 5) = .pointer (some ⟨b, 0, none⟩)) (x7 : a.eval (.tmp 7) = .pointer (some ⟨b2, 0, none⟩)) (x9 : a.eval (.tmp 9) = .int .i64 now) (x10 : a.eval (.tmp 10) = .slice (some ⟨hb, 0, none⟩) n n) (x11 : a.eval (.tmp 11) = .int .i64 i)
    
    (hK : ∀ a', a'.tmps.size = 264 → a'.defers = [] → a'.eval (.tmp 0) = .int .i64 n → a'.eval (.tmp 1) = .slice ta L tc → a'.eval (.tmp 5) = .pointer (some ⟨b, 0, none⟩) → a'.eval (.tmp 7) = .pointer (some ⟨b2, 0, none⟩) → a'.eval (.tmp 9) = .int .i64 now → a'.eval (.tmp 10) = .slice (some ⟨hb, 0, none⟩) n n → a'.eval (.tmp 11) = .int .i64 i → a'.eval (.tmp 15) = .int .i64 now →  K a' x) : (atc Try.f3.body [1, 1, 1, 1, 1, 1, 1, 1, 1, 0, 1, 1, 1, 1, 0, 0, 0, 0, 1, 1, 1, 1, 1, 0, 0]).wp Try.prog (Exit.then K Q) a x := by
  obtain ⟨cc, hcc, hce⟩ := expand264 hs hd
  have g0 := (hce 0).trans x0
  have g1 := (hce 1).trans x1
  have g5 := (hce 5).trans x5
  have g7 := (hce 7).trans x7
  have g9 := (hce 9).trans x9
  have g10 := (hce 10).trans x10
  have g11 := (hce 11).trans x11
  clear hce hs hd x0 x1 x5 x7 x9 x10 x11
  subst hcc
  conv => arg 2; whnf
  simp only [lit264, g0, g1, g5, g7, g9, g10, g11]
  clear g0 g1 g5 g7 g9 g10 g11
  have HK : Hid _ := hK
  clear hK
  go_wp2
  exact HK.out _ rfl rfl rfl rfl rfl rfl rfl rfl rfl rfl 
set_option maxRecDepth 100000 in
set_option maxHeartbeats 1600000 in
theorem ca_41 (hs : a.tmps.size = 264) (hd : a.defers = []) (x0 : a.eval (.tmp 0) = .int .i64 n) (x1 : a.eval (.tmp 1) = .slice ta L tc) (x5 : a.eval (.tmp 5) = .pointer (some ⟨b, 0, none⟩)) (x7 : a.eval (.tmp 7) = .pointer (some ⟨b2, 0, none⟩)) (x9 : a.eval (.tmp 9) = .int .i64 now) (x10 : a.eval (.tmp 10) = .slice (some ⟨hb, 0, none⟩) n n) (x11 : a.eval (.tmp 11) = .int .i64 i) (x15 : a.eval (.tmp 15) = .int .i64 m)
    
    (hK : ∀ a', a'.tmps.size = 264 → a'.defers = [] → a'.eval (.tmp 0) = .int .i64 n → a'.eval (.tmp 1) = .slice ta L tc → a'.eval (.tmp 5) = .pointer (some ⟨b, 0, none⟩) → a'.eval (.tmp 7) = .pointer (some ⟨b2, 0, none⟩) → a'.eval (.tmp 9) = .int .i64 now → a'.eval (.tmp 10) = .slice (some ⟨hb, 0, none⟩) n n → a'.eval (.tmp 11) = .int .i64 i → a'.eval (.tmp 15) = .int .i64 m → a'.eval (.tmp 16) = .int .i64 0 →  K a' x) : (atc Try.f3.body [1, 1, 1, 1, 1, 1, 1, 1, 1, 0, 1, 1, 1, 1, 0, 0, 0, 0, 1, 1, 1, 1, 1, 0, 1, 0, 0]).wp Try.prog (Exit.then K Q) a x := by
  obtain ⟨cc, hcc, hce⟩ := expand264 hs hd
  have g0 := (hce 0).trans x0
  have g1 := (hce 1).trans x1
  have g5 := (hce 5).trans x5
  have g7 := (hce 7).trans x7
  have g9 := (hce 9).trans x9
  have g10 := (hce 10).trans x10
  have g11 := (hce 11).trans x11
  have g15 := (hce 15).trans x15
  clear hce hs hd x0 x1 x5 x7 x9 x10 x11 x15
  subst hcc
  conv => arg 2; whnf
  simp only [lit264, g0, g1, g5, g7, g9, g10, g11, g15]
  clear g0 g1 g5 g7 g9 g10 g11 g15
  have HK : Hid _ := hK
  clear hK
  go_wp2
  exact HK.out _ rfl rfl rfl rfl rfl rfl rfl rfl rfl rfl rfl 
set_option maxRecDepth 100000 in
set_option maxHeartbeats 1600000 in
theorem ca_5a (hs : a.tmps.size = 264) (hd : a.defers = []) (x0 : a.eval (.tmp 0) = .int .i64 n) (x1 : a.eval (.tmp 1) = .slice ta L tc) (x5 : a.eval (.tmp 5) = .pointer (some ⟨b, 0, none⟩)) (x7 : a.eval (.tmp 7) = .pointer (some ⟨b2, 0, none⟩)) (x9 : a.eval (.tmp 9) = .int .i64 now) (x10 : a.eval (.tmp 10) = .slice (some ⟨hb, 0, none⟩) n n) (x11 : a.eval (.tmp 11) = .int .i64 i) (x15 : a.eval (.tmp 15) = .int .i64 m) (x16 : a.eval (.tmp 16) = .int .i64 k)
    (hc : x.cell? ⟨hb, k, none⟩ = some (.int .i64 (h k))) (hk : (k : Int) < n) (hn : n ≤ 64) (hv : 0 < h k) (hm : h k < m)
    (hK : ∀ a', a'.tmps.size = 264 → a'.defers = [] → a'.eval (.tmp 0) = .int .i64 n → a'.eval (.tmp 1) = .slice ta L tc → a'.eval (.tmp 5) = .pointer (some ⟨b, 0, none⟩) → a'.eval (.tmp 7) = .pointer (some ⟨b2, 0, none⟩) → a'.eval (.tmp 9) = .int .i64 now → a'.eval (.tmp 10) = .slice (some ⟨hb, 0, none⟩) n n → a'.eval (.tmp 11) = .int .i64 i → a'.eval (.tmp 15) = .int .i64 (h k) → a'.eval (.tmp 16) = .int .i64 ((k + 1 : Nat) : Int) →  K a' x) : (atc Try.f3.body [1, 1, 1, 1, 1, 1, 1, 1, 1, 0, 1, 1, 1, 1, 0, 0, 0, 0, 1, 1, 1, 1, 1, 0, 1, 0, 1, 0, 0]).wp Try.prog (Exit.then K Q) a x := by
  obtain ⟨cc, hcc, hce⟩ := expand264 hs hd
  have g0 := (hce 0).trans x0
  have g1 := (hce 1).trans x1
  have g5 := (hce 5).trans x5
  have g7 := (hce 7).trans x7
  have g9 := (hce 9).trans x9
  have g10 := (hce 10).trans x10
  have g11 := (hce 11).trans x11
  have g15 := (hce 15).trans x15
  have g16 := (hce 16).trans x16
  clear hce hs hd x0 x1 x5 x7 x9 x10 x11 x15 x16
  subst hcc
  conv => arg 2; whnf
  simp only [lit264, g0, g1, g5, g7, g9, g10, g11, g15, g16]
  clear g0 g1 g5 g7 g9 g10 g11 g15 g16
  generalize h k = v at *
  have HK : Hid _ := hK
  clear hK
  go_wp2
  exact HK.out _ rfl rfl rfl rfl rfl rfl rfl rfl rfl rfl rfl 
set_option maxRecDepth 100000 in
set_option maxHeartbeats 1600000 in
theorem ca_5b (hs : a.tmps.size = 264) (hd : a.defers = []) (x0 : a.eval (.tmp 0) = .int .i64 n) (x1 : a.eval (.tmp 1) = .slice ta L tc) (x5 : a.eval (.tmp 5) = .pointer (some ⟨b, 0, none⟩)) (x7 : a.eval (.tmp 7) = .pointer (some ⟨b2, 0, none⟩)) (x9 : a.eval (.tmp 9) = .int .i64 now) (x10 : a.eval (.tmp 10) = .slice (some ⟨hb, 0, none⟩) n n) (x11 : a.eval (.tmp 11) = .int .i64 i) (x15 : a.eval (.tmp 15) = .int .i64 m) (x16 : a.eval (.tmp 16) = .int .i64 k)
    (hc : x.cell? ⟨hb, k, none⟩ = some (.int .i64 (h k))) (hk : (k : Int) < n) (hn : n ≤ 64) (hv : h k = 0)
    (hK : ∀ a', a'.tmps.size = 264 → a'.defers = [] → a'.eval (.tmp 0) = .int .i64 n → a'.eval (.tmp 1) = .slice ta L tc → a'.eval (.tmp 5) = .pointer (some ⟨b, 0, none⟩) → a'.eval (.tmp 7) = .pointer (some ⟨b2, 0, none⟩) → a'.eval (.tmp 9) = .int .i64 now → a'.eval (.tmp 10) = .slice (some ⟨hb, 0, none⟩) n n → a'.eval (.tmp 11) = .int .i64 i → a'.eval (.tmp 15) = .int .i64 m → a'.eval (.tmp 16) = .int .i64 ((k + 1 : Nat) : Int) →  K a' x) : (atc Try.f3.body [1, 1, 1, 1, 1, 1, 1, 1, 1, 0, 1, 1, 1, 1, 0, 0, 0, 0, 1, 1, 1, 1, 1, 0, 1, 0, 1, 0, 0]).wp Try.prog (Exit.then K Q) a x := by
  obtain ⟨cc, hcc, hce⟩ := expand264 hs hd
  have g0 := (hce 0).trans x0
  have g1 := (hce 1).trans x1
  have g5 := (hce 5).trans x5
  have g7 := (hce 7).trans x7
  have g9 := (hce 9).trans x9
  have g10 := (hce 10).trans x10
  have g11 := (hce 11).trans x11
  have g15 := (hce 15).trans x15
  have g16 := (hce 16).trans x16
  clear hce hs hd x0 x1 x5 x7 x9 x10 x11 x15 x16
  subst hcc
  conv => arg 2; whnf
  simp only [lit264, g0, g1, g5, g7, g9, g10, g11, g15, g16]
  clear g0 g1 g5 g7 g9 g10 g11 g15 g16
  rw [hv] at hc
  clear hv
  have HK : Hid _ := hK
  clear hK
  go_wp2
  exact HK.out _ rfl rfl rfl rfl rfl rfl rfl rfl rfl rfl rfl 
set_option maxRecDepth 100000 in
set_option maxHeartbeats 1600000 in
theorem ca_5c (hs : a.tmps.size = 264) (hd : a.defers = []) (x0 : a.eval (.tmp 0) = .int .i64 n) (x1 : a.eval (.tmp 1) = .slice ta L tc) (x5 : a.eval (.tmp 5) = .pointer (some ⟨b, 0, none⟩)) (x7 : a.eval (.tmp 7) = .pointer (some ⟨b2, 0, none⟩)) (x9 : a.eval (.tmp 9) = .int .i64 now) (x10 : a.eval (.tmp 10) = .slice (some ⟨hb, 0, none⟩) n n) (x11 : a.eval (.tmp 11) = .int .i64 i) (x15 : a.eval (.tmp 15) = .int .i64 m) (x16 : a.eval (.tmp 16) = .int .i64 k)
    (hc : x.cell? ⟨hb, k, none⟩ = some (.int .i64 (h k))) (hk : (k : Int) < n) (hn : n ≤ 64) (hv : 0 < h k) (hm : ¬ h k < m)
    (hK : ∀ a', a'.tmps.size = 264 → a'.defers = [] → a'.eval (.tmp 0) = .int .i64 n → a'.eval (.tmp 1) = .slice ta L tc → a'.eval (.tmp 5) = .pointer (some ⟨b, 0, none⟩) → a'.eval (.tmp 7) = .pointer (some ⟨b2, 0, none⟩) → a'.eval (.tmp 9) = .int .i64 now → a'.eval (.tmp 10) = .slice (some ⟨hb, 0, none⟩) n n → a'.eval (.tmp 11) = .int .i64 i → a'.eval (.tmp 15) = .int .i64 m → a'.eval (.tmp 16) = .int .i64 ((k + 1 : Nat) : Int) →  K a' x) : (atc Try.f3.body [1, 1, 1, 1, 1, 1, 1, 1, 1, 0, 1, 1, 1, 1, 0, 0, 0, 0, 1, 1, 1, 1, 1, 0, 1, 0, 1, 0, 0]).wp Try.prog (Exit.then K Q) a x := by
  obtain ⟨cc, hcc, hce⟩ := expand264 hs hd
  have g0 := (hce 0).trans x0
  have g1 := (hce 1).trans x1
  have g5 := (hce 5).trans x5
  have g7 := (hce 7).trans x7
  have g9 := (hce 9).trans x9
  have g10 := (hce 10).trans x10
  have g11 := (hce 11).trans x11
  have g15 := (hce 15).trans x15
  have g16 := (hce 16).trans x16
  clear hce hs hd x0 x1 x5 x7 x9 x10 x11 x15 x16
  subst hcc
  conv => arg 2; whnf
  simp only [lit264, g0, g1, g5, g7, g9, g10, g11, g15, g16]
  clear g0 g1 g5 g7 g9 g10 g11 g15 g16
  generalize h k = v at *
  have HK : Hid _ := hK
  clear hK
  go_wp2
  exact HK.out _ rfl rfl rfl rfl rfl rfl rfl rfl rfl rfl rfl 
set_option maxRecDepth 100000 in
set_option maxHeartbeats 1600000 in
theorem ca_5end (hs : a.tmps.size = 264) (hd : a.defers = []) (x0 : a.eval (.tmp 0) = .int .i64 n) (x1 : a.eval (.tmp 1) = .slice ta L tc) (x5 : a.eval (.tmp 5) = .pointer (some ⟨b, 0, none⟩)) (x7 : a.eval (.tmp 7) = .pointer (some ⟨b2, 0, none⟩)) (x9 : a.eval (.tmp 9) = .int .i64 now) (x10 : a.eval (.tmp 10) = .slice (some ⟨hb, 0, none⟩) n n) (x11 : a.eval (.tmp 11) = .int .i64 i) (x15 : a.eval (.tmp 15) = .int .i64 m) (x16 : a.eval (.tmp 16) = .int .i64 k)
    (hk : k = n)
    (hQ : ∀ a', a'.tmps.size = 264 → a'.defers = [] → a'.eval (.tmp 0) = .int .i64 n → a'.eval (.tmp 1) = .slice ta L tc → a'.eval (.tmp 5) = .pointer (some ⟨b, 0, none⟩) → a'.eval (.tmp 7) = .pointer (some ⟨b2, 0, none⟩) → a'.eval (.tmp 9) = .int .i64 now → a'.eval (.tmp 10) = .slice (some ⟨hb, 0, none⟩) n n → a'.eval (.tmp 11) = .int .i64 i → a'.eval (.tmp 15) = .int .i64 m →  Q (.exit 5) a' x) : (atc Try.f3.body [1, 1, 1, 1, 1, 1, 1, 1, 1, 0, 1, 1, 1, 1, 0, 0, 0, 0, 1, 1, 1, 1, 1, 0, 1, 0, 1, 0, 0]).wp Try.prog (Exit.then K Q) a x := by
  obtain ⟨cc, hcc, hce⟩ := expand264 hs hd
  have g0 := (hce 0).trans x0
  have g1 := (hce 1).trans x1
  have g5 := (hce 5).trans x5
  have g7 := (hce 7).trans x7
  have g9 := (hce 9).trans x9
  have g10 := (hce 10).trans x10
  have g11 := (hce 11).trans x11
  have g15 := (hce 15).trans x15
  have g16 := (hce 16).trans x16
  clear hce hs hd x0 x1 x5 x7 x9 x10 x11 x15 x16
  subst hcc
  conv => arg 2; whnf
  simp only [lit264, g0, g1, g5, g7, g9, g10, g11, g15, g16]
  clear g0 g1 g5 g7 g9 g10 g11 g15 g16
  subst hk
  have hk : ¬ (k : Int) < k := by omega
  have HK : Hid _ := hQ
  clear hQ
  go_wp2
  exact HK.out _ rfl rfl rfl rfl rfl rfl rfl rfl rfl rfl 
set_option maxRecDepth 100000 in
set_option maxHeartbeats 1600000 in
theorem ca_46 (hs : a.tmps.size = 264) (hd : a.defers = []) (x0 : a.eval (.tmp 0) = .int .i64 n) (x1 : a.eval (.tmp 1) = .slice ta L tc) (x5 : a.eval (.tmp 5) = .pointer (some ⟨b, 0, none⟩)) (x7 : a.eval (.tmp 7) = .pointer (some ⟨b2, 0, none⟩)) (x9 : a.eval (.tmp 9) = .int .i64 now) (x10 : a.eval (.tmp 10) = .slice (some ⟨hb, 0, none⟩) n n) (x11 : a.eval (.tmp 11) = .int .i64 i) (x15 : a.eval (.tmp 15) = .int .i64 m)
    (hI : CS W x n b lb cap E b2 lb2 cap2 E2 hb now h) (hn : n ≤ 64) (hp : 1 ≤ now) (hp2 : now ≤ 900000) (hm : leastV now (fOf h) n = m)
    (hK : ∀ a', a'.tmps.size = 264 → a'.defers = [] → a'.eval (.tmp 0) = .int .i64 n → a'.eval (.tmp 1) = .slice ta L tc → a'.eval (.tmp 5) = .pointer (some ⟨b, 0, none⟩) → a'.eval (.tmp 7) = .pointer (some ⟨b2, 0, none⟩) → a'.eval (.tmp 9) = .int .i64 now → a'.eval (.tmp 10) = .slice (some ⟨hb, 0, none⟩) n n → a'.eval (.tmp 11) = .int .i64 i →  K a' x) : (atc Try.f3.body [1, 1, 1, 1, 1, 1, 1, 1, 1, 0, 1, 1, 1, 1, 0, 0, 0, 0, 1, 1, 1, 1, 1, 0, 1, 1]).wp Try.prog (Exit.then K Q) a x := by
  obtain ⟨cc, hcc, hce⟩ := expand264 hs hd
  have g0 := (hce 0).trans x0
  have g1 := (hce 1).trans x1
  have g5 := (hce 5).trans x5
  have g7 := (hce 7).trans x7
  have g9 := (hce 9).trans x9
  have g10 := (hce 10).trans x10
  have g11 := (hce 11).trans x11
  have g15 := (hce 15).trans x15
  clear hce hs hd x0 x1 x5 x7 x9 x10 x11 x15
  subst hcc
  conv => arg 2; whnf
  simp only [lit264, g0, g1, g5, g7, g9, g10, g11, g15]
  clear g0 g1 g5 g7 g9 g10 g11 g15
  have HN := cLeast hI.c hn (by omega) (by omega) (hI.f_bd (by omega))
  rw [hm] at HN
  clear hI hm
  have HK : Hid _ := hK
  clear hK
  go_wp2_with (go_at_call 9; refine HN.mono ?_; rintro e w' ⟨rfl, hw⟩; obtain rfl := hw.symm)
  exact HK.out _ rfl rfl rfl rfl rfl rfl rfl rfl rfl 
set_option maxRecDepth 100000 in
set_option maxHeartbeats 1600000 in
theorem ca_16 (hs : a.tmps.size = 264) (hd : a.defers = []) (x0 : a.eval (.tmp 0) = .int .i64 n) (x1 : a.eval (.tmp 1) = .slice (some ⟨sb, so, none⟩) L tc) (x5 : a.eval (.tmp 5) = .pointer (some ⟨b, 0, none⟩)) (x7 : a.eval (.tmp 7) = .pointer (some ⟨b2, 0, none⟩)) (x9 : a.eval (.tmp 9) = .int .i64 now) (x10 : a.eval (.tmp 10) = .slice (some ⟨hb, 0, none⟩) n n) (x11 : a.eval (.tmp 11) = .int .i64 i)
    (hi : (i : Int) < L) (hz : x.cell? ⟨sb, so + i, none⟩ = some (.int .i64 z))
    (hK : ∀ a', a'.tmps.size = 264 → a'.defers = [] → a'.eval (.tmp 0) = .int .i64 n → a'.eval (.tmp 1) = .slice (some ⟨sb, so, none⟩) L tc → a'.eval (.tmp 5) = .pointer (some ⟨b, 0, none⟩) → a'.eval (.tmp 7) = .pointer (some ⟨b2, 0, none⟩) → a'.eval (.tmp 9) = .int .i64 now → a'.eval (.tmp 10) = .slice (some ⟨hb, 0, none⟩) n n → a'.eval (.tmp 11) = .int .i64 i → a'.eval (.tmp 17) = .int .i64 (wrap64 (z - 1)) →  K a' x) : (atc Try.f3.body [1, 1, 1, 1, 1, 1, 1, 1, 1, 0, 1, 1, 1, 1, 0, 0, 0, 0, 1, 1, 1, 1, 1, 1, 0]).wp Try.prog (Exit.then K Q) a x := by
  obtain ⟨cc, hcc, hce⟩ := expand264 hs hd
  have g0 := (hce 0).trans x0
  have g1 := (hce 1).trans x1
  have g5 := (hce 5).trans x5
  have g7 := (hce 7).trans x7
  have g9 := (hce 9).trans x9
  have g10 := (hce 10).trans x10
  have g11 := (hce 11).trans x11
  clear hce hs hd x0 x1 x5 x7 x9 x10 x11
  subst hcc
  conv => arg 2; whnf
  simp only [lit264, g0, g1, g5, g7, g9, g10, g11]
  clear g0 g1 g5 g7 g9 g10 g11
  have HK : Hid _ := hK
  clear hK
  go_wp2
  exact HK.out _ rfl rfl rfl rfl rfl rfl rfl rfl rfl rfl 
set_option maxRecDepth 100000 in
set_option maxHeartbeats 1600000 in
theorem ca_4neg (hs : a.tmps.size = 264) (hd : a.defers = []) (x0 : a.eval (.tmp 0) = .int .i64 n) (x1 : a.eval (.tmp 1) = .slice ta L tc) (x5 : a.eval (.tmp 5) = .pointer (some ⟨b, 0, none⟩)) (x7 : a.eval (.tmp 7) = .pointer (some ⟨b2, 0, none⟩)) (x9 : a.eval (.tmp 9) = .int .i64 now) (x10 : a.eval (.tmp 10) = .slice (some ⟨hb, 0, none⟩) n n) (x11 : a.eval (.tmp 11) = .int .i64 i) (x17 : a.eval (.tmp 17) = .int .i64 z)
    (hI : CS W x n b lb cap E b2 lb2 cap2 E2 hb now h) (hz : z < 0)
    (hQ : ∀ a', a'.tmps.size = 264 → a'.defers = [] → a'.eval (.tmp 0) = .int .i64 n → a'.eval (.tmp 1) = .slice ta L tc → a'.eval (.tmp 5) = .pointer (some ⟨b, 0, none⟩) → a'.eval (.tmp 7) = .pointer (some ⟨b2, 0, none⟩) → a'.eval (.tmp 9) = .int .i64 now → a'.eval (.tmp 10) = .slice (some ⟨hb, 0, none⟩) n n → a'.eval (.tmp 11) = .int .i64 i →  Q (.exit 2) a' x) : (atc Try.f3.body [1, 1, 1, 1, 1, 1, 1, 1, 1, 0, 1, 1, 1, 1, 0, 0, 0, 0, 1, 1, 1, 1, 1, 1, 1]).wp Try.prog (Exit.then K Q) a x := by
  obtain ⟨cc, hcc, hce⟩ := expand264 hs hd
  have g0 := (hce 0).trans x0
  have g1 := (hce 1).trans x1
  have g5 := (hce 5).trans x5
  have g7 := (hce 7).trans x7
  have g9 := (hce 9).trans x9
  have g10 := (hce 10).trans x10
  have g11 := (hce 11).trans x11
  have g17 := (hce 17).trans x17
  clear hce hs hd x0 x1 x5 x7 x9 x10 x11 x17
  subst hcc
  conv => arg 2; whnf
  simp only [lit264, g0, g1, g5, g7, g9, g10, g11, g17]
  clear g0 g1 g5 g7 g9 g10 g11 g17
  have HN := cReleaseNo hI.c z (.inl hz)
  clear hI
  have HK : Hid _ := hQ
  clear hQ
  go_wp2_with (go_at_call 10; refine HN.mono ?_; rintro e w' ⟨rfl, hw⟩; obtain rfl := hw.symm)
  exact HK.out _ rfl rfl rfl rfl rfl rfl rfl rfl rfl 
set_option maxRecDepth 100000 in
set_option maxHeartbeats 1600000 in
theorem ca_4big (hs : a.tmps.size = 264) (hd : a.defers = []) (x0 : a.eval (.tmp 0) = .int .i64 n) (x1 : a.eval (.tmp 1) = .slice ta L tc) (x5 : a.eval (.tmp 5) = .pointer (some ⟨b, 0, none⟩)) (x7 : a.eval (.tmp 7) = .pointer (some ⟨b2, 0, none⟩)) (x9 : a.eval (.tmp 9) = .int .i64 now) (x10 : a.eval (.tmp 10) = .slice (some ⟨hb, 0, none⟩) n n) (x11 : a.eval (.tmp 11) = .int .i64 i) (x17 : a.eval (.tmp 17) = .int .i64 z)
    (hI : CS W x n b lb cap E b2 lb2 cap2 E2 hb now h) (h0 : ¬ z < 0) (hz : (n : Int) ≤ z)
    (hQ : ∀ a', a'.tmps.size = 264 → a'.defers = [] → a'.eval (.tmp 0) = .int .i64 n → a'.eval (.tmp 1) = .slice ta L tc → a'.eval (.tmp 5) = .pointer (some ⟨b, 0, none⟩) → a'.eval (.tmp 7) = .pointer (some ⟨b2, 0, none⟩) → a'.eval (.tmp 9) = .int .i64 now → a'.eval (.tmp 10) = .slice (some ⟨hb, 0, none⟩) n n → a'.eval (.tmp 11) = .int .i64 i →  Q (.exit 2) a' x) : (atc Try.f3.body [1, 1, 1, 1, 1, 1, 1, 1, 1, 0, 1, 1, 1, 1, 0, 0, 0, 0, 1, 1, 1, 1, 1, 1, 1]).wp Try.prog (Exit.then K Q) a x := by
  obtain ⟨cc, hcc, hce⟩ := expand264 hs hd
  have g0 := (hce 0).trans x0
  have g1 := (hce 1).trans x1
  have g5 := (hce 5).trans x5
  have g7 := (hce 7).trans x7
  have g9 := (hce 9).trans x9
  have g10 := (hce 10).trans x10
  have g11 := (hce 11).trans x11
  have g17 := (hce 17).trans x17
  clear hce hs hd x0 x1 x5 x7 x9 x10 x11 x17
  subst hcc
  conv => arg 2; whnf
  simp only [lit264, g0, g1, g5, g7, g9, g10, g11, g17]
  clear g0 g1 g5 g7 g9 g10 g11 g17
  have HN := cReleaseNo hI.c z (.inr hz)
  clear hI
  have HK : Hid _ := hQ
  clear hQ
  go_wp2_with (go_at_call 10; refine HN.mono ?_; rintro e w' ⟨rfl, hw⟩; obtain rfl := hw.symm)
  exact HK.out _ rfl rfl rfl rfl rfl rfl rfl rfl rfl 
set_option maxRecDepth 100000 in
set_option maxHeartbeats 1600000 in
theorem ca_4free (hs : a.tmps.size = 264) (hd : a.defers = []) (x0 : a.eval (.tmp 0) = .int .i64 n) (x1 : a.eval (.tmp 1) = .slice ta L tc) (x5 : a.eval (.tmp 5) = .pointer (some ⟨b, 0, none⟩)) (x7 : a.eval (.tmp 7) = .pointer (some ⟨b2, 0, none⟩)) (x9 : a.eval (.tmp 9) = .int .i64 now) (x10 : a.eval (.tmp 10) = .slice (some ⟨hb, 0, none⟩) n n) (x11 : a.eval (.tmp 11) = .int .i64 i) (x17 : a.eval (.tmp 17) = .int .i64 k)
    (hI : CS W x n b lb cap E b2 lb2 cap2 E2 hb now h) (hk : k < n) (hv : h k = 0)
    (hQ : ∀ a' y, a'.tmps.size = 264 → a'.defers = [] → a'.eval (.tmp 0) = .int .i64 n → a'.eval (.tmp 1) = .slice ta L tc → a'.eval (.tmp 5) = .pointer (some ⟨b, 0, none⟩) → a'.eval (.tmp 7) = .pointer (some ⟨b2, 0, none⟩) → a'.eval (.tmp 9) = .int .i64 now → a'.eval (.tmp 10) = .slice (some ⟨hb, 0, none⟩) n n → a'.eval (.tmp 11) = .int .i64 i → CS W y n b lb cap E b2 lb2 cap2 E2 hb now h → Q (.exit 2) a' y) : (atc Try.f3.body [1, 1, 1, 1, 1, 1, 1, 1, 1, 0, 1, 1, 1, 1, 0, 0, 0, 0, 1, 1, 1, 1, 1, 1, 1]).wp Try.prog (Exit.then K Q) a x := by
  obtain ⟨cc, hcc, hce⟩ := expand264 hs hd
  have g0 := (hce 0).trans x0
  have g1 := (hce 1).trans x1
  have g5 := (hce 5).trans x5
  have g7 := (hce 7).trans x7
  have g9 := (hce 9).trans x9
  have g10 := (hce 10).trans x10
  have g11 := (hce 11).trans x11
  have g17 := (hce 17).trans x17
  clear hce hs hd x0 x1 x5 x7 x9 x10 x11 x17
  subst hcc
  conv => arg 2; whnf
  simp only [lit264, g0, g1, g5, g7, g9, g10, g11, g17]
  clear g0 g1 g5 g7 g9 g10 g11 g17
  have HN := cReleaseFree hI.c k hk (fOf_eq hv)
  have HI : Hid _ := hI
  have HKN : Hid (k < n) := hk
  have hkn : ¬ (n : Int) ≤ k := by omega
  have hkl : (k : Int) < n := by omega
  have hk0 : ¬ (k : Int) < 0 := by omega
  have HV : Hid (h k = 0) := hv
  clear hI hv hk
  have HK : Hid _ := hQ
  clear hQ
  go_wp2_with (go_at_call 10; refine HN.mono ?_; rintro e w1 ⟨rfl, ha1, ht1⟩; have hs := HI.out.same HKN.out ht1 ha1; have hc1 := ints_cell hs.r.held HKN.out; rw [HV.out] at hc1; have HS : Hid _ := hs; clear ha1 ht1 hs)
  exact HK.out _ _ rfl rfl rfl rfl rfl rfl rfl rfl rfl HS.out
set_option maxRecDepth 100000 in
set_option maxHeartbeats 1600000 in
theorem ca_4held (hs : a.tmps.size = 264) (hd : a.defers = []) (x0 : a.eval (.tmp 0) = .int .i64 n) (x1 : a.eval (.tmp 1) = .slice ta L tc) (x5 : a.eval (.tmp 5) = .pointer (some ⟨b, 0, none⟩)) (x7 : a.eval (.tmp 7) = .pointer (some ⟨b2, 0, none⟩)) (x9 : a.eval (.tmp 9) = .int .i64 now) (x10 : a.eval (.tmp 10) = .slice (some ⟨hb, 0, none⟩) n n) (x11 : a.eval (.tmp 11) = .int .i64 i) (x17 : a.eval (.tmp 17) = .int .i64 k)
    (hI : CS W x n b lb cap E b2 lb2 cap2 E2 hb now h) (hk : k < n) (hv : 0 < h k)
    (hK : ∀ a' y, a'.tmps.size = 264 → a'.defers = [] → a'.eval (.tmp 0) = .int .i64 n → a'.eval (.tmp 1) = .slice ta L tc → a'.eval (.tmp 5) = .pointer (some ⟨b, 0, none⟩) → a'.eval (.tmp 7) = .pointer (some ⟨b2, 0, none⟩) → a'.eval (.tmp 9) = .int .i64 now → a'.eval (.tmp 10) = .slice (some ⟨hb, 0, none⟩) n n → a'.eval (.tmp 11) = .int .i64 i → CS W y n b lb cap E b2 lb2 cap2 E2 hb now (upd h k 0) → K a' y) : (atc Try.f3.body [1, 1, 1, 1, 1, 1, 1, 1, 1, 0, 1, 1, 1, 1, 0, 0, 0, 0, 1, 1, 1, 1, 1, 1, 1]).wp Try.prog (Exit.then K Q) a x := by
  obtain ⟨cc, hcc, hce⟩ := expand264 hs hd
  have g0 := (hce 0).trans x0
  have g1 := (hce 1).trans x1
  have g5 := (hce 5).trans x5
  have g7 := (hce 7).trans x7
  have g9 := (hce 9).trans x9
  have g10 := (hce 10).trans x10
  have g11 := (hce 11).trans x11
  have g17 := (hce 17).trans x17
  clear hce hs hd x0 x1 x5 x7 x9 x10 x11 x17
  subst hcc
  conv => arg 2; whnf
  simp only [lit264, g0, g1, g5, g7, g9, g10, g11, g17]
  clear g0 g1 g5 g7 g9 g10 g11 g17
  have HN := cReleaseHeld hI.c k hk (fOf_ne hv)
  have HI : Hid _ := hI
  have HKN : Hid (k < n) := hk
  have hkn : ¬ (n : Int) ≤ k := by omega
  have hkl : (k : Int) < n := by omega
  have hk0 : ¬ (k : Int) < 0 := by omega
  have hve : (h k == 0) = false := by simp; omega
  clear hI hk
  have HK : Hid _ := hK
  clear hK
  go_wp2_with (go_at_call 10; refine HN.mono ?_; rintro e w1 ⟨rfl, ha1, ht1⟩; have HF : Hid _ := HI.out.freed HKN.out ht1 ha1; have hh := (HI.out.r.keep HI.out.c HKN.out (ht1.mono (by simp))).held; have hc1 := ints_cell hh HKN.out; have hz1 := froz_at hh k; clear ha1 ht1 hh)
  exact HK.out _ _ rfl rfl rfl rfl rfl rfl rfl rfl rfl HF.out
set_option maxRecDepth 100000 in
set_option maxHeartbeats 1600000 in
theorem ca_48 (hs : a.tmps.size = 264) (hd : a.defers = []) (x0 : a.eval (.tmp 0) = .int .i64 n) (x1 : a.eval (.tmp 1) = .slice ta L tc) (x5 : a.eval (.tmp 5) = .pointer (some ⟨b, 0, none⟩)) (x7 : a.eval (.tmp 7) = .pointer (some ⟨b2, 0, none⟩)) (x9 : a.eval (.tmp 9) = .int .i64 now) (x10 : a.eval (.tmp 10) = .slice (some ⟨hb, 0, none⟩) n n) (x11 : a.eval (.tmp 11) = .int .i64 i)
    (hI : CS W x n b lb cap E b2 lb2 cap2 E2 hb now h) (hn : n ≤ 64)
    (hK : ∀ a' y, a'.tmps.size = 264 → a'.defers = [] → a'.eval (.tmp 0) = .int .i64 n → a'.eval (.tmp 1) = .slice ta L tc → a'.eval (.tmp 5) = .pointer (some ⟨b, 0, none⟩) → a'.eval (.tmp 7) = .pointer (some ⟨b2, 0, none⟩) → a'.eval (.tmp 9) = .int .i64 now → a'.eval (.tmp 10) = .slice (some ⟨hb, 0, none⟩) n n → a'.eval (.tmp 11) = .int .i64 i → a'.eval (.tmp 19) = .slice (some ⟨x.heap.size, 0, none⟩) n n → Turned [] x y → y.heap[x.heap.size]? = some (intsObj (fOf h) n) → K a' y) : (atc Try.f3.body [1, 1, 1, 1, 1, 1, 1, 1, 1, 0, 1, 1, 1, 1, 0, 0, 1, 0]).wp Try.prog (Exit.then K Q) a x := by
  obtain ⟨cc, hcc, hce⟩ := expand264 hs hd
  have g0 := (hce 0).trans x0
  have g1 := (hce 1).trans x1
  have g5 := (hce 5).trans x5
  have g7 := (hce 7).trans x7
  have g9 := (hce 9).trans x9
  have g10 := (hce 10).trans x10
  have g11 := (hce 11).trans x11
  clear hce hs hd x0 x1 x5 x7 x9 x10 x11
  subst hcc
  conv => arg 2; whnf
  simp only [lit264, g0, g1, g5, g7, g9, g10, g11]
  clear g0 g1 g5 g7 g9 g10 g11
  have HN := cLeases hI.c hn
  clear hI
  have HK : Hid _ := hK
  clear hK
  go_wp2_with (go_at_call 11; refine HN.mono ?_; rintro e w1 ⟨rfl, ht1, ho1⟩; have HT1 : Hid _ := ht1; have HO1 : Hid _ := ho1; clear ht1 ho1)
  exact HK.out _ _ rfl rfl rfl rfl rfl rfl rfl rfl rfl rfl HT1.out HO1.out
set_option maxRecDepth 100000 in
set_option maxHeartbeats 1600000 in
theorem ca_49 (hs : a.tmps.size = 264) (hd : a.defers = []) (x0 : a.eval (.tmp 0) = .int .i64 n) (x1 : a.eval (.tmp 1) = .slice ta L tc) (x5 : a.eval (.tmp 5) = .pointer (some ⟨b, 0, none⟩)) (x7 : a.eval (.tmp 7) = .pointer (some ⟨b2, 0, none⟩)) (x9 : a.eval (.tmp 9) = .int .i64 now) (x10 : a.eval (.tmp 10) = .slice (some ⟨hb, 0, none⟩) n n) (x11 : a.eval (.tmp 11) = .int .i64 i) (x19 : a.eval (.tmp 19) = .slice (some ⟨g, 0, none⟩) n n)
    
    (hK : ∀ a', a'.tmps.size = 264 → a'.defers = [] → a'.eval (.tmp 0) = .int .i64 n → a'.eval (.tmp 1) = .slice ta L tc → a'.eval (.tmp 5) = .pointer (some ⟨b, 0, none⟩) → a'.eval (.tmp 7) = .pointer (some ⟨b2, 0, none⟩) → a'.eval (.tmp 9) = .int .i64 now → a'.eval (.tmp 10) = .slice (some ⟨hb, 0, none⟩) n n → a'.eval (.tmp 11) = .int .i64 i → a'.eval (.tmp 19) = .slice (some ⟨g, 0, none⟩) n n →  K a' x) : (atc Try.f3.body [1, 1, 1, 1, 1, 1, 1, 1, 1, 0, 1, 1, 1, 1, 0, 0, 1, 1, 0]).wp Try.prog (Exit.then K Q) a x := by
  obtain ⟨cc, hcc, hce⟩ := expand264 hs hd
  have g0 := (hce 0).trans x0
  have g1 := (hce 1).trans x1
  have g5 := (hce 5).trans x5
  have g7 := (hce 7).trans x7
  have g9 := (hce 9).trans x9
  have g10 := (hce 10).trans x10
  have g11 := (hce 11).trans x11
  have g19 := (hce 19).trans x19
  clear hce hs hd x0 x1 x5 x7 x9 x10 x11 x19
  subst hcc
  conv => arg 2; whnf
  simp only [lit264, g0, g1, g5, g7, g9, g10, g11, g19]
  clear g0 g1 g5 g7 g9 g10 g11 g19
  have HK : Hid _ := hK
  clear hK
  go_wp2
  exact HK.out _ rfl rfl rfl rfl rfl rfl rfl rfl rfl rfl 
set_option maxRecDepth 100000 in
set_option maxHeartbeats 1600000 in
theorem ca_51 (hs : a.tmps.size = 264) (hd : a.defers = []) (x0 : a.eval (.tmp 0) = .int .i64 n) (x1 : a.eval (.tmp 1) = .slice ta L tc) (x5 : a.eval (.tmp 5) = .pointer (some ⟨b, 0, none⟩)) (x7 : a.eval (.tmp 7) = .pointer (some ⟨b2, 0, none⟩)) (x9 : a.eval (.tmp 9) = .int .i64 now) (x10 : a.eval (.tmp 10) = .slice (some ⟨hb, 0, none⟩) n n) (x11 : a.eval (.tmp 11) = .int .i64 i) (x19 : a.eval (.tmp 19) = .slice (some ⟨g, 0, none⟩) n n)
    
    (hK : ∀ a', a'.tmps.size = 264 → a'.defers = [] → a'.eval (.tmp 0) = .int .i64 n → a'.eval (.tmp 1) = .slice ta L tc → a'.eval (.tmp 5) = .pointer (some ⟨b, 0, none⟩) → a'.eval (.tmp 7) = .pointer (some ⟨b2, 0, none⟩) → a'.eval (.tmp 9) = .int .i64 now → a'.eval (.tmp 10) = .slice (some ⟨hb, 0, none⟩) n n → a'.eval (.tmp 11) = .int .i64 i → a'.eval (.tmp 19) = .slice (some ⟨g, 0, none⟩) n n → a'.eval (.tmp 20) = .int .i64 0 →  K a' x) : (atc Try.f3.body [1, 1, 1, 1, 1, 1, 1, 1, 1, 0, 1, 1, 1, 1, 0, 0, 1, 1, 1, 0]).wp Try.prog (Exit.then K Q) a x := by
  obtain ⟨cc, hcc, hce⟩ := expand264 hs hd
  have g0 := (hce 0).trans x0
  have g1 := (hce 1).trans x1
  have g5 := (hce 5).trans x5
  have g7 := (hce 7).trans x7
  have g9 := (hce 9).trans x9
  have g10 := (hce 10).trans x10
  have g11 := (hce 11).trans x11
  have g19 := (hce 19).trans x19
  clear hce hs hd x0 x1 x5 x7 x9 x10 x11 x19
  subst hcc
  conv => arg 2; whnf
  simp only [lit264, g0, g1, g5, g7, g9, g10, g11, g19]
  clear g0 g1 g5 g7 g9 g10 g11 g19
  have HK : Hid _ := hK
  clear hK
  go_wp2
  exact HK.out _ rfl rfl rfl rfl rfl rfl rfl rfl rfl rfl rfl 
set_option maxRecDepth 100000 in
set_option maxHeartbeats 1600000 in
theorem ca_7hi (hs : a.tmps.size = 264) (hd : a.defers = []) (x0 : a.eval (.tmp 0) = .int .i64 n) (x1 : a.eval (.tmp 1) = .slice ta L tc) (x5 : a.eval (.tmp 5) = .pointer (some ⟨b, 0, none⟩)) (x7 : a.eval (.tmp 7) = .pointer (some ⟨b2, 0, none⟩)) (x9 : a.eval (.tmp 9) = .int .i64 now) (x10 : a.eval (.tmp 10) = .slice (some ⟨hb, 0, none⟩) n n) (x11 : a.eval (.tmp 11) = .int .i64 i) (x19 : a.eval (.tmp 19) = .slice (some ⟨g, 0, none⟩) n n) (x20 : a.eval (.tmp 20) = .int .i64 k)
    (hc : x.cell? ⟨hb, k, none⟩ = some (.int .i64 (h k))) (hk : k < n) (hn : n ≤ 64) (hgo : x.heap[g]? = some (intsObj gs n)) (hv : 0 < h k) (hgk : gs k = h k + 1) (hb1 : h k ≤ 1000000)
    (hK : ∀ a' y, a'.tmps.size = 264 → a'.defers = [] → a'.eval (.tmp 0) = .int .i64 n → a'.eval (.tmp 1) = .slice ta L tc → a'.eval (.tmp 5) = .pointer (some ⟨b, 0, none⟩) → a'.eval (.tmp 7) = .pointer (some ⟨b2, 0, none⟩) → a'.eval (.tmp 9) = .int .i64 now → a'.eval (.tmp 10) = .slice (some ⟨hb, 0, none⟩) n n → a'.eval (.tmp 11) = .int .i64 i → a'.eval (.tmp 19) = .slice (some ⟨g, 0, none⟩) n n → a'.eval (.tmp 20) = .int .i64 ((k + 1 : Nat) : Int) → Turned [g] x y → y.heap[g]? = some (intsObj (upd gs k (-9)) n) → K a' y) : (atc Try.f3.body [1, 1, 1, 1, 1, 1, 1, 1, 1, 0, 1, 1, 1, 1, 0, 0, 1, 1, 1, 1, 0, 0]).wp Try.prog (Exit.then K Q) a x := by
  obtain ⟨cc, hcc, hce⟩ := expand264 hs hd
  have g0 := (hce 0).trans x0
  have g1 := (hce 1).trans x1
  have g5 := (hce 5).trans x5
  have g7 := (hce 7).trans x7
  have g9 := (hce 9).trans x9
  have g10 := (hce 10).trans x10
  have g11 := (hce 11).trans x11
  have g19 := (hce 19).trans x19
  have g20 := (hce 20).trans x20
  clear hce hs hd x0 x1 x5 x7 x9 x10 x11 x19 x20
  subst hcc
  conv => arg 2; whnf
  simp only [lit264, g0, g1, g5, g7, g9, g10, g11, g19, g20]
  clear g0 g1 g5 g7 g9 g10 g11 g19 g20
  have hgc := ints_cell hgo hk
  rw [hgk] at hgc
  have hgz := froz_at hgo k
  have HGO : Hid _ := hgo
  have hkn : (k : Int) < n := by omega
  have hd1 : decide (0 < h k) = true := decide_eq_true hv
  have hd2 : (h k == 0) = false := by simp; omega
  have hvb : h k ≤ 1000000 := hb1
  generalize h k = v at *
  clear hgo hgk hk
  have HK : Hid _ := hK
  clear hK
  go_wp2
  go_quiet (fail)
  go_wp2
  exact HK.out _ _ rfl rfl rfl rfl rfl rfl rfl rfl rfl rfl rfl (((turned_drewN _ _).mono (by simp)).set (.inl (by simp)) _ _) (ints_put HGO.out k _)
set_option maxRecDepth 100000 in
set_option maxHeartbeats 1600000 in
theorem ca_7lo (hs : a.tmps.size = 264) (hd : a.defers = []) (x0 : a.eval (.tmp 0) = .int .i64 n) (x1 : a.eval (.tmp 1) = .slice ta L tc) (x5 : a.eval (.tmp 5) = .pointer (some ⟨b, 0, none⟩)) (x7 : a.eval (.tmp 7) = .pointer (some ⟨b2, 0, none⟩)) (x9 : a.eval (.tmp 9) = .int .i64 now) (x10 : a.eval (.tmp 10) = .slice (some ⟨hb, 0, none⟩) n n) (x11 : a.eval (.tmp 11) = .int .i64 i) (x19 : a.eval (.tmp 19) = .slice (some ⟨g, 0, none⟩) n n) (x20 : a.eval (.tmp 20) = .int .i64 k)
    (hc : x.cell? ⟨hb, k, none⟩ = some (.int .i64 (h k))) (hk : k < n) (hn : n ≤ 64) (hgo : x.heap[g]? = some (intsObj gs n)) (hv : h k = 0) (hgk : gs k = 0)
    (hK : ∀ a' y, a'.tmps.size = 264 → a'.defers = [] → a'.eval (.tmp 0) = .int .i64 n → a'.eval (.tmp 1) = .slice ta L tc → a'.eval (.tmp 5) = .pointer (some ⟨b, 0, none⟩) → a'.eval (.tmp 7) = .pointer (some ⟨b2, 0, none⟩) → a'.eval (.tmp 9) = .int .i64 now → a'.eval (.tmp 10) = .slice (some ⟨hb, 0, none⟩) n n → a'.eval (.tmp 11) = .int .i64 i → a'.eval (.tmp 19) = .slice (some ⟨g, 0, none⟩) n n → a'.eval (.tmp 20) = .int .i64 ((k + 1 : Nat) : Int) → Turned [g] x y → y.heap[g]? = some (intsObj (upd gs k (-9)) n) → K a' y) : (atc Try.f3.body [1, 1, 1, 1, 1, 1, 1, 1, 1, 0, 1, 1, 1, 1, 0, 0, 1, 1, 1, 1, 0, 0]).wp Try.prog (Exit.then K Q) a x := by
  obtain ⟨cc, hcc, hce⟩ := expand264 hs hd
  have g0 := (hce 0).trans x0
  have g1 := (hce 1).trans x1
  have g5 := (hce 5).trans x5
  have g7 := (hce 7).trans x7
  have g9 := (hce 9).trans x9
  have g10 := (hce 10).trans x10
  have g11 := (hce 11).trans x11
  have g19 := (hce 19).trans x19
  have g20 := (hce 20).trans x20
  clear hce hs hd x0 x1 x5 x7 x9 x10 x11 x19 x20
  subst hcc
  conv => arg 2; whnf
  simp only [lit264, g0, g1, g5, g7, g9, g10, g11, g19, g20]
  clear g0 g1 g5 g7 g9 g10 g11 g19 g20
  have hgc := ints_cell hgo hk
  rw [hgk] at hgc
  have hgz := froz_at hgo k
  have HGO : Hid _ := hgo
  have hkn : (k : Int) < n := by omega
  rw [hv] at hc
  clear hgo hgk hk hv
  have HK : Hid _ := hK
  clear hK
  go_wp2
  go_quiet (fail)
  go_wp2
  exact HK.out _ _ rfl rfl rfl rfl rfl rfl rfl rfl rfl rfl rfl (((turned_drewN _ _).mono (by simp)).set (.inl (by simp)) _ _) (ints_put HGO.out k _)
set_option maxRecDepth 100000 in
set_option maxHeartbeats 1600000 in
theorem ca_7end (hs : a.tmps.size = 264) (hd : a.defers = []) (x0 : a.eval (.tmp 0) = .int .i64 n) (x1 : a.eval (.tmp 1) = .slice ta L tc) (x5 : a.eval (.tmp 5) = .pointer (some ⟨b, 0, none⟩)) (x7 : a.eval (.tmp 7) = .pointer (some ⟨b2, 0, none⟩)) (x9 : a.eval (.tmp 9) = .int .i64 now) (x10 : a.eval (.tmp 10) = .slice (some ⟨hb, 0, none⟩) n n) (x11 : a.eval (.tmp 11) = .int .i64 i) (x19 : a.eval (.tmp 19) = .slice (some ⟨g, 0, none⟩) n n) (x20 : a.eval (.tmp 20) = .int .i64 k)
    (hk : k = n)
    (hQ : ∀ a', a'.tmps.size = 264 → a'.defers = [] → a'.eval (.tmp 0) = .int .i64 n → a'.eval (.tmp 1) = .slice ta L tc → a'.eval (.tmp 5) = .pointer (some ⟨b, 0, none⟩) → a'.eval (.tmp 7) = .pointer (some ⟨b2, 0, none⟩) → a'.eval (.tmp 9) = .int .i64 now → a'.eval (.tmp 10) = .slice (some ⟨hb, 0, none⟩) n n → a'.eval (.tmp 11) = .int .i64 i →  Q (.exit 7) a' x) : (atc Try.f3.body [1, 1, 1, 1, 1, 1, 1, 1, 1, 0, 1, 1, 1, 1, 0, 0, 1, 1, 1, 1, 0, 0]).wp Try.prog (Exit.then K Q) a x := by
  obtain ⟨cc, hcc, hce⟩ := expand264 hs hd
  have g0 := (hce 0).trans x0
  have g1 := (hce 1).trans x1
  have g5 := (hce 5).trans x5
  have g7 := (hce 7).trans x7
  have g9 := (hce 9).trans x9
  have g10 := (hce 10).trans x10
  have g11 := (hce 11).trans x11
  have g19 := (hce 19).trans x19
  have g20 := (hce 20).trans x20
  clear hce hs hd x0 x1 x5 x7 x9 x10 x11 x19 x20
  subst hcc
  conv => arg 2; whnf
  simp only [lit264, g0, g1, g5, g7, g9, g10, g11, g19, g20]
  clear g0 g1 g5 g7 g9 g10 g11 g19 g20
  subst hk
  have hk : ¬ (k : Int) < k := by omega
  have HK : Hid _ := hQ
  clear hQ
  go_wp2
  exact HK.out _ rfl rfl rfl rfl rfl rfl rfl rfl rfl 
set_option maxRecDepth 100000 in
set_option maxHeartbeats 1600000 in
theorem ca_15 (hs : a.tmps.size = 264) (hd : a.defers = []) (x0 : a.eval (.tmp 0) = .int .i64 n) (x1 : a.eval (.tmp 1) = .slice ta L tc) (x5 : a.eval (.tmp 5) = .pointer (some ⟨b, 0, none⟩)) (x7 : a.eval (.tmp 7) = .pointer (some ⟨b2, 0, none⟩)) (x9 : a.eval (.tmp 9) = .int .i64 now) (x10 : a.eval (.tmp 10) = .slice (some ⟨hb, 0, none⟩) n n) (x11 : a.eval (.tmp 11) = .int .i64 i)
    (hi : i ≤ 400)
    (hK : ∀ a', a'.tmps.size = 264 → a'.defers = [] → a'.eval (.tmp 0) = .int .i64 n → a'.eval (.tmp 1) = .slice ta L tc → a'.eval (.tmp 5) = .pointer (some ⟨b, 0, none⟩) → a'.eval (.tmp 7) = .pointer (some ⟨b2, 0, none⟩) → a'.eval (.tmp 9) = .int .i64 now → a'.eval (.tmp 10) = .slice (some ⟨hb, 0, none⟩) n n → a'.eval (.tmp 11) = .int .i64 ((i + 1 : Nat) : Int) →  K a' x) : (atc Try.f3.body [1, 1, 1, 1, 1, 1, 1, 1, 1, 0, 1, 1, 1, 1, 1]).wp Try.prog (Exit.then K Q) a x := by
  obtain ⟨cc, hcc, hce⟩ := expand264 hs hd
  have g0 := (hce 0).trans x0
  have g1 := (hce 1).trans x1
  have g5 := (hce 5).trans x5
  have g7 := (hce 7).trans x7
  have g9 := (hce 9).trans x9
  have g10 := (hce 10).trans x10
  have g11 := (hce 11).trans x11
  clear hce hs hd x0 x1 x5 x7 x9 x10 x11
  subst hcc
  conv => arg 2; whnf
  simp only [lit264, g0, g1, g5, g7, g9, g10, g11]
  clear g0 g1 g5 g7 g9 g10 g11
  have HK : Hid _ := hK
  clear hK
  go_wp2
  exact HK.out _ rfl rfl rfl rfl rfl rfl rfl rfl rfl 
set_option maxRecDepth 100000 in
set_option maxHeartbeats 1600000 in
theorem ca_end (hs : a.tmps.size = 264) (hd : a.defers = []) (x0 : a.eval (.tmp 0) = .int .i64 n) (x1 : a.eval (.tmp 1) = .slice ta L tc) (x5 : a.eval (.tmp 5) = .pointer (some ⟨b, 0, none⟩)) (x7 : a.eval (.tmp 7) = .pointer (some ⟨b2, 0, none⟩)) (x9 : a.eval (.tmp 9) = .int .i64 now) (x10 : a.eval (.tmp 10) = .slice (some ⟨hb, 0, none⟩) n n) (x11 : a.eval (.tmp 11) = .int .i64 i)
    (hI : CS W x n b lb cap E b2 lb2 cap2 E2 hb now h) (hn : n ≤ 64)
    (hQ : ∀ a', a'.tmps.size = 264 → a'.defers = [] → a'.eval (.tmp 4) = .bool true →  Q (.ret) a' x) : (atc Try.f3.body [1, 1, 1, 1, 1, 1, 1, 1, 1, 1]).wp Try.prog (Exit.then K Q) a x := by
  obtain ⟨cc, hcc, hce⟩ := expand264 hs hd
  have g0 := (hce 0).trans x0
  have g1 := (hce 1).trans x1
  have g5 := (hce 5).trans x5
  have g7 := (hce 7).trans x7
  have g9 := (hce 9).trans x9
  have g10 := (hce 10).trans x10
  have g11 := (hce 11).trans x11
  clear hce hs hd x0 x1 x5 x7 x9 x10 x11
  subst hcc
  conv => arg 2; whnf
  simp only [lit264, g0, g1, g5, g7, g9, g10, g11]
  clear g0 g1 g5 g7 g9 g10 g11
  have HN := cNow hI.r.d.obj
  have HL := cLeast hI.r.d hn (by omega) (by omega) (fun _ _ => by omega)
  have h1 : leastV 1 (fun _ => 0) n = 1 := by clear HN HL hI hn hQ; induction n with | zero => rfl | succ k ih => show (if (0 : Int) = 0 then _ else _) = _; rw [if_pos rfl]; exact ih
  rw [h1] at HL
  clear hI h1
  have HK : Hid _ := hQ
  clear hQ
  go_wp2_with (first
    | (go_at_call 8; refine HN.mono ?_; rintro e w' ⟨rfl, hw⟩; obtain rfl := hw.symm)
    | (go_at_call 9; refine HL.mono ?_; rintro e w' ⟨rfl, hw⟩; obtain rfl := hw.symm))
  exact HK.out _ rfl rfl rfl 
end
end Go.Proofs.Ytibpgoiiohmeiaa

/- The versions of a chain, in its pool; package chain's ahead, At, Cut, Versions, Set, New by contract. -/
import Derived.Test.YtaaibhgbkdnlbaaJ20
import Derived.Deep.LoopGhost
namespace Go.Proofs.Ytaaibhgbkdnlbaa
open Go.RowKit
/-- A version: its handle, its node's first number, its stamp. -/
structure Ver where
  h : Int
  a : Int
  st : Int
/-- The slot of a version. -/
structure VAt (s : PSt) (i : Nat) (v : Ver) : Prop where
  h : v.h = hnd i (s.slot i).gen
  i1 : 1 ≤ i
  i2 : i ≤ s.n
  g0 : 0 ≤ (s.slot i).gen
  g1 : (s.slot i).gen ≤ 1000000000
  odd : (s.slot i).gen % 2 = 1
  mark : (s.slot i).mark = v.st
  pos : 1 ≤ v.st
  a : (s.slot i).a = v.a
/-- From a handle on, link by link. -/
def Vers (s : PSt) : Int → List Ver → Prop
  | h, [] => h = 0
  | h, v :: l => ∃ i, VAt s i v ∧ v.h = h ∧ Vers s (s.slot i).link l
theorem Vers.nil {s : PSt} {h : Int} : Vers s h [] ↔ h = 0 := Iff.rfl
theorem VAt.nz {s : PSt} {i : Nat} {v : Ver} (h : VAt s i v) : ¬ v.h = 0 := by
  have := h.i1; have := h.g0
  rw [h.h]; unfold hnd; omega
/-- The answer of At. -/
def atV (l : List Ver) (t : Int) : Option Ver := l.find? fun v => decide (v.st ≤ t)
def atE : Option Ver → Value
  | none => .tuple #[.int .i64 0, .int .i64 141]
  | some v => .tuple #[.int .i64 v.h, .int .i64 0]
section
variable {w : World} {p kb c sb i : Nat} {F : List Nat} {s : PSt} {now head : Int} {kv : Value} {S : Nat → Option SRec}
theorem lawLink {w : World} {p : Nat} {F : List Nat} {s : PSt} {i : Nat} {g : Int} (hA : PoolAt w p F s) (hO : s.Ok) (h1 : 1 ≤ i) (h2 : i ≤ s.n) (g0 : 0 ≤ g) (g1 : g ≤ 1099511627775) (g2 : g % 2 = 1) (hg : (s.slot i).gen = g) :
    Calls Try.prog 55 #[.pointer (some ⟨p, 0, none⟩), .pointer none, .int .i64 (hnd i g)] w fun e w' => e = .returned (.tuple #[.int .i64 (s.slot i).link, .int .i64 0]) ∧ Turned F w w' ∧ PoolAt w' p F s := by
  obtain ⟨sb, pb, nb, L, h, rfl⟩ := hA
  refine (cPLink h h1 h2 hO.n2 g0 g1 g2 hg).mono ?_
  rintro e w' ⟨rfl, rfl⟩
  exact ⟨rfl, PoolAt.same h (Turned.refl _ _)⟩
set_option maxHeartbeats 1600000 in
theorem cAheadNone (H : CA w p kb F s now kv c sb head S) (hO : s.Ok) {v : Ver} (hv : VAt s i v) (hl : (s.slot i).link = 0) :
    Calls Try.prog 30 #[pp c, .pointer none, .int .i64 v.h] w fun e w' => e = .returned (.tuple #[.int .i64 0, .int .i64 0, .int .i64 141]) ∧ Turned F w w' ∧ CA w' p kb F s now kv c sb head S := by
  have HL := lawLink H.pool hO hv.i1 hv.i2 hv.g0 (by have := hv.g1; omega) hv.odd rfl
  rw [← hv.h, hl] at HL
  have c0 := H.c0
  have HH : Hid _ := H
  generalize v.h = h at *
  clear H hv hl
  go_enter Try.func30, Try.ntmps30
  go_wp2_with (go_at_call 55; refine HL.mono ?_; rintro e w1 ⟨rfl, ht, hA⟩; have HT : Hid _ := And.intro ht (HH.out.step ht hA rfl); clear ht hA)
  go_ret3
  exact ⟨rfl, HT.out.1, HT.out.2⟩
set_option maxHeartbeats 1600000 in
theorem cAhead (H : CA w p kb F s now kv c sb head S) (hO : s.Ok) {v u : Ver} {j : Nat} (hv : VAt s i v) (hu : VAt s j u) (hl : (s.slot i).link = u.h) :
    Calls Try.prog 30 #[pp c, .pointer none, .int .i64 v.h] w fun e w' => e = .returned (.tuple #[.int .i64 u.h, .int .i64 u.st, .int .i64 0]) ∧ Turned F w w' ∧ CA w' p kb F s now kv c sb head S := by
  have HL := lawLink H.pool hO hv.i1 hv.i2 hv.g0 (by have := hv.g1; omega) hv.odd rfl
  rw [← hv.h, hl] at HL
  have HM : Hid (∀ x, PoolAt x p F s → Calls Try.prog 54 #[.pointer (some ⟨p, 0, none⟩), .pointer none, .int .i64 u.h] x fun e w' => e = .returned (.tuple #[.int .i64 u.st, .int .i64 0]) ∧ Turned F x w' ∧ PoolAt w' p F s) := fun x hx => by
    have := poolLaws.mark hx hO hu.i1 hu.i2 hu.g0 (by have := hu.g1; omega) hu.odd rfl
    rw [← hu.h, hu.mark] at this
    exact this
  have hz : (u.h == 0) = false := by simpa using hu.nz
  have c0 := H.c0
  have HH : Hid _ := H
  generalize v.h = h at *
  generalize u.h = h2 at *
  generalize u.st = st at *
  clear H hv hl hu
  go_enter Try.func30, Try.ntmps30
  go_wp2_with (first
    | (go_at_call 55; refine HL.mono ?_; rintro e w1 ⟨rfl, ht, hA⟩; have h1' := HH.out.step ht hA rfl; have d0 := h1'.c0; have HT : Hid _ := And.intro ht h1'; clear ht hA h1')
    | (go_at_call 54; refine (HM.out _ HT.out.2.pool).mono ?_; rintro e w2 ⟨rfl, ht, hA⟩; have HT2 : Hid _ := And.intro ht hA; clear ht hA))
  go_ret3
  exact ⟨rfl, HT.out.1.trans HT2.out.1, HT.out.2.step HT2.out.1 HT2.out.2 rfl⟩
/-- In the midst of At. -/
structure AI (w : World) (p kb : Nat) (F : List Nat) (s : PSt) (now : Int) (kv : Value) (c sb : Nat) (head : Int) (S : Nat → Option SRec) (L : List Ver) (t : Int) (k : Nat) (h is er lf : Value) (x : World) : Prop where
  ca : CA x p kb F s now kv c sb head S
  tu : Turned F w x
  ex : (∃ (v : Ver) (l : List Ver) (i n : Nat), l.length + 1 = k ∧ h = .int .i64 v.h ∧ is = .int .i64 v.st ∧ er = .int .i64 0 ∧ lf = .int .i64 n ∧ l.length + 1 ≤ n ∧ n ≤ 4096 ∧ VAt s i v ∧ Vers s (s.slot i).link l ∧ atV L t = atV (v :: l) t) ∨ (k = 0 ∧ h = .int .i64 0 ∧ is = .int .i64 0 ∧ er = .int .i64 141 ∧ (∃ n : Nat, lf = .int .i64 n) ∧ atV L t = none)
set_option maxHeartbeats 3200000 in
theorem cAt (H : CA w p kb F s now kv c sb head S) (hO : s.Ok) {v : Ver} {l : List Ver} (hV : Vers s head (v :: l)) (hlen : l.length + 1 ≤ s.n) (t : Int) :
    Calls Try.prog 9 #[pp c, .pointer none, .int .i64 t] w fun e w' => e = .returned (atE (atV (v :: l) t)) ∧ Turned F w w' ∧ CA w' p kb F s now kv c sb head S := by
  obtain ⟨i, hv, hh, hr⟩ := hV
  have hm : ¬ (s.slot i).mark = 0 := by rw [hv.mark]; have := hv.pos; omega
  rw [← hh, hv.h] at H
  have HT := cTop H hO hv.i1 hv.i2 hv.g0 (by have := hv.g1; omega) hv.odd rfl hm
  rw [hv.mark, ← hv.h] at HT
  have HS : Hid (∀ x, Calls Try.prog 29 #[.slice (some ⟨sb, 0, none⟩) (s.n + 1) (s.n + 1)] x fun e w' => e = .returned (.int .i64 s.n) ∧ w' = x) := fun x => cSlots hO.n2 x
  rw [← hv.h, hh] at H
  have HX : Hid _ := And.intro hv (And.intro hr hlen)
  have HO : Hid s.Ok := hO
  have HHd : Hid (v.h = head) := hh
  have n2 := hO.n2
  have HN2 : Hid (s.n ≤ 4096) := n2
  obtain ⟨L, hL⟩ : ∃ L, L = v :: l := ⟨_, rfl⟩
  rw [← hL]
  have HLe : Hid (L = v :: l) := hL
  clear H hr hlen hm hL hO n2 hh hv
  go_enter Try.func9, Try.ntmps9
  go_wp2_with (first
    | (go_at_call 8; refine HT.mono ?_; rintro e w1 ⟨rfl, ht, hA⟩; rw [HHd.out] at hA; have d3 := hA.c3; have HT1 : Hid _ := And.intro ht hA; clear ht hA)
    | (go_at_call 29; refine (HS.out _).mono ?_; rintro e w' ⟨rfl, hw⟩; obtain rfl := hw.symm))
  go_loopg [8, 9, 10, 11] (l.length + 1) (fun k h is er lf wr => AI w p kb F s now kv c sb head S L t k h is er lf wr)
  case atStart => exact ⟨HT1.out.2, HT1.out.1, .inl ⟨v, l, i, s.n, rfl, rfl, rfl, rfl, rfl, HX.out.2.2, HN2.out, HX.out.1, HX.out.2.1, by rw [HLe.out]⟩⟩
  case round =>
    obtain ⟨hca, htu, ⟨u, m, j, n, hk, rfl, rfl, rfl, rfl, hn, hn2, hu, hr, hat⟩ | ⟨hk, rfl, rfl, rfl, ⟨n, rfl⟩, hat⟩⟩ := hrel
    · by_cases hle : u.st ≤ t
      · have hd : ¬ t < u.st := by omega
        have hres : atV L t = some u := by rw [hat]; unfold atV; rw [List.find?_cons, decide_eq_true hle]
        have HR : Hid _ := And.intro hres (And.intro htu hca)
        generalize u.st = ust at *
        generalize hz : u.h = uh at *
        clear hca htu hat hres hu hr hk hn
        go_wp2
        go_ret2
        rw [HR.out.1]
        subst hz
        exact ⟨rfl, HR.out.2.1, HR.out.2.2⟩
      · have hd : t < u.st := by omega
        have hn0 : ((n : Int) == 0) = false := by simp; omega
        have hnn : (n : Int) ≤ 4096 := by omega
        have hn1 : 1 ≤ (n : Int) := by omega
        cases m with
        | nil =>
          have HA := cAheadNone hca HO.out hu hr
          have hres : atV L t = none := by rw [hat]; unfold atV; rw [List.find?_cons, decide_eq_false hle]; rfl
          have HR : Hid _ := And.intro hres (And.intro htu hk)
          generalize u.st = ust at *
          generalize u.h = uh at *
          clear hca htu hat hres hu hr hk hn
          go_wp2_with (go_at_call 30; refine HA.mono ?_; rintro e w2 ⟨rfl, ht2, hA2⟩; have HT2 : Hid _ := And.intro ht2 hA2; clear ht2 hA2)
          go_roundg 0
          case measure => have := HR.out.2.2; simp at this; omega
          case rel => exact ⟨HT2.out.2, HR.out.2.1.trans HT2.out.1, .inr ⟨rfl, rfl, rfl, rfl, ⟨n - 1, by go_num⟩, HR.out.1⟩⟩
        | cons z m =>
          obtain ⟨j2, hz2, hh2, hr2⟩ := hr
          have HA := cAhead hca HO.out hu hz2 hh2.symm
          have hres : atV L t = atV (z :: m) t := by rw [hat]; unfold atV; rw [List.find?_cons, decide_eq_false hle]
          have HR : Hid _ := And.intro hres (And.intro htu (And.intro hk (And.intro hn (And.intro hz2 hr2))))
          generalize u.st = ust at *
          generalize u.h = uh at *
          obtain ⟨zh, hzh⟩ : ∃ q, q = z.h := ⟨_, rfl⟩
          obtain ⟨zs, hzs⟩ : ∃ q, q = z.st := ⟨_, rfl⟩
          rw [← hzh, ← hzs] at HA
          have HZ : Hid (zh = z.h ∧ zs = z.st) := ⟨hzh, hzs⟩
          clear hca htu hat hres hu hk hn hz2 hh2 hr2 hzh hzs
          go_wp2_with (go_at_call 30; refine HA.mono ?_; rintro e w2 ⟨rfl, ht2, hA2⟩; have HT2 : Hid _ := And.intro ht2 hA2; clear ht2 hA2)
          go_roundg (m.length + 1)
          case measure => have := HR.out.2.2.1; simp at this; omega
          case rel =>
            obtain ⟨r1, r2, r3, r4, r5, r6⟩ := HR.out
            exact ⟨HT2.out.2, r2.trans HT2.out.1, .inl ⟨z, m, j2, n - 1, rfl, by rw [HZ.out.1], by rw [HZ.out.2], rfl, by go_num, by simp at r4; omega, by omega, r5, r6, r1⟩⟩
    · have HR : Hid _ := And.intro hat (And.intro htu hca)
      clear hca htu hat
      go_wp2
      go_ret2
      rw [HR.out.1]
      exact ⟨rfl, HR.out.2.1, HR.out.2.2⟩
end
end Go.Proofs.Ytaaibhgbkdnlbaa
/- Package chain's Cut, Versions, Set, New by contract. -/
namespace Go.Proofs.Ytaaibhgbkdnlbaa
open Go.RowKit
/-- The list of a set. -/
def setL : Option SRec → List Int
  | none => []
  | some r => r.l
section
variable {w : World} {p kb c sb i : Nat} {F : List Nat} {s : PSt} {now head : Int} {kv : Value} {S : Nat → Option SRec}
set_option maxHeartbeats 1600000 in
theorem cCutNone (H : CA w p kb F s now kv c sb head S) (hO : s.Ok) {v : Ver} (hv : VAt s i v) (hl : (s.slot i).link = 0) :
    Calls Try.prog 13 #[pp c, .pointer none, .int .i64 v.h] w fun e w' => e = .returned (.tuple #[.int .i64 0, .slice none 0 0, .int .i64 0]) ∧ Turned F w w' ∧ CA w' p kb F (s.putLink i 0) now kv c sb head S := by
  have HL := poolLaws.swapLink H.pool hO hv.i1 hv.i2 hv.g0 (by have := hv.g1; omega) hv.odd rfl 0
  rw [← hv.h, hl] at HL
  have c0 := H.c0
  have HH : Hid _ := H
  generalize v.h = h at *
  clear H hv hl
  go_enter Try.func13, Try.ntmps13
  go_wp2_with (go_at_call 35; refine HL.mono ?_; rintro e w1 ⟨rfl, ht, hA⟩; have HT : Hid _ := And.intro ht (HH.out.step ht hA rfl); clear ht hA)
  go_ret3
  exact ⟨rfl, HT.out.1, HT.out.2⟩
/-- What Cut answers of a set, and what is then there. -/
structure CutS (w' : World) (sb n : Nat) (S : Nat → Option SRec) (i : Nat) (v : Value) : Prop where
  row : IR 0 w' v (setL (S i))
  out : ∀ g, v.ownBlock = some g → g ∉ setB (upd S i none) n ∧ ∃ r, S i = some r ∧ g = r.g
set_option maxHeartbeats 1600000 in
theorem cCut (H : CA w p kb F s now kv c sb head S) (hO : s.Ok) {v : Ver} (hv : VAt s i v) {lk : Int} (hl : (s.slot i).link = lk) (hlk : ¬ lk = 0) (hS : ∀ r, S i = some r → r.h = v.h) :
    Calls Try.prog 13 #[pp c, .pointer none, .int .i64 v.h] w fun e w' => ∃ u, e = .returned (.tuple #[.int .i64 lk, u, .int .i64 0]) ∧ Turned (sb :: F) w w' ∧ CA w' p kb F (s.putLink i 0) now kv c sb head (upd S i none) ∧ CutS w' sb s.n S i u := by
  have HL := poolLaws.swapLink H.pool hO hv.i1 hv.i2 hv.g0 (by have := hv.g1; omega) hv.odd rfl 0
  rw [← hv.h, hl] at HL
  have c0 := H.c0
  have hz : (lk == 0) = false := by simpa using hlk
  have HH : Hid _ := H
  have HT : Hid (∀ x, CA x p kb F (s.putLink i 0) now kv c sb head S → Calls Try.prog 36 #[.slice (some ⟨sb, 0, none⟩) (s.n + 1) (s.n + 1), .int .i64 v.h] x fun e w' => ∃ va vl vc, e = .returned (.slice va vl vc) ∧ Turned [sb] x w' ∧ SetsAt w' sb s.n (upd S i none) ∧ CutS w' sb s.n S i (.slice va vl vc)) := fun x hx => by
    rw [hv.h]
    have g1 := hv.g1
    cases hSi : S i with
    | none =>
      refine (cTakeOutMiss (i := i) hx.sets hO.n2 hv.i1 hv.i2 hv.g0 (by omega) hSi).mono ?_
      rintro e w' ⟨rfl, rfl⟩
      have e1 : upd S i none = S := by funext k; unfold upd; by_cases e : k = i <;> simp [e, hSi]
      refine ⟨none, 0, 0, rfl, Turned.refl _ _, by rw [e1]; exact hx.sets, ⟨by rw [hSi]; exact IR.nil _ _, fun g hg => by cases hg⟩⟩
    | some r =>
      have hrh : r.h = hnd i (s.slot i).gen := by rw [hS r hSi, hv.h]
      refine (cTakeOutHit (i := i) hx.sets hO.n2 hv.i1 hv.i2 hv.g0 (by omega) hSi hrh).mono ?_
      rintro e w' ⟨rfl, rfl⟩
      have ht : Turned [sb] x (x.setCell ⟨sb, i, none⟩ (.pointer none)) := (Turned.refl _ _).set (.inl (by simp)) _ _
      obtain ⟨o1, o2, o3⟩ := hx.sets.obj i r hv.i2 hSi
      have m2 := (mem_setB hv.i2 hSi).2
      refine ⟨some ⟨r.g, 0, none⟩, r.l.length, r.c, rfl, ht, hx.sets.out i, ⟨?_, fun g hg => ?_⟩⟩
      · rw [hSi]
        exact o2.keep ht (fun g hg => by cases hg; simp; exact fun e => hx.sets.notRow (e ▸ m2))
      · cases hg
        refine ⟨fun hm => ?_, r, hSi, rfl⟩
        obtain ⟨k, q, hk, hq, hx'⟩ := setB_mem hm
        by_cases e : k = i
        · subst e; rw [upd_same] at hq; cases hq
        · rw [upd_other _ _ e] at hq
          rcases hx' with hx' | hx'
          · obtain ⟨cs, hc⟩ := o2.type (g := r.g) rfl
            exact other_type hc (hx' ▸ (hx.sets.obj k q hk hq).1) (by decide) rfl
          · exact e (hx.sets.once k i q r hk hv.i2 hq hSi hx'.symm)
  generalize v.h = h at *
  clear H hv hl hS
  go_enter Try.func13, Try.ntmps13
  go_wp2_with (first
    | (go_at_call 35; refine HL.mono ?_; rintro e w1 ⟨rfl, ht, hA⟩; have h1' := HH.out.step ht hA rfl; have d3 : w1.cell? ⟨c, 3, none⟩ = some (.slice (some ⟨sb, 0, none⟩) (s.n + 1) (s.n + 1)) := h1'.c3; have HX : Hid _ := And.intro ht h1'; clear ht hA h1')
    | (go_at_call 36; refine (HT.out _ HX.out.2).mono ?_; rintro e w2 ⟨va, vl, vc, rfl, ht2, hs2, hc2⟩; have HY : Hid _ := And.intro ht2 (And.intro hs2 hc2); clear ht2 hs2 hc2))
  go_ret3
  exact ⟨_, rfl, (HX.out.1.mono (by intro z hz; simp [hz])).trans (HY.out.1.mono (by simp)), HX.out.2.turn HY.out.1 HY.out.2.1, HY.out.2.2⟩
/-- In the midst of Versions. -/
structure VI (w : World) (s : PSt) (gs c : Nat) (head0 : Int) (ch : Obj) (L : List Ver) (k : Nat) (lv h : Value) (x : World) : Prop where
  tu : Turned [] w x
  sl : SlotsAt x gs s
  ex : ∃ (dn rs : List Ver) (hh : Int), dn ++ rs = L ∧ rs.length = k ∧ h = .int .i64 hh ∧ Vers s hh rs ∧ IR w.heap.size x lv (dn.map (·.h))
  un : x.heap[c]? = some ch ∧ head0 = head0
set_option maxHeartbeats 3200000 in
theorem cVersionsIn {gs cap : Nat} {L : List Ver} (H : CA w p kb F s now kv c sb head S) (hn : s.n ≤ 4096) (hs : SlotsAt w gs s) (hV : Vers s head L) (hlen : L.length ≤ s.n) :
    Calls Try.prog 42 #[pp c, .slice (some ⟨gs, 0, none⟩) s.n cap] w fun e w' => ∃ v, e = .returned v ∧ IR w.heap.size w' v (L.map (·.h)) ∧ Turned [] w w' := by
  have HL := cALoad H.c2
  have HS : Hid (SlotsAt w gs s) := hs
  have HV : Hid (Vers s head L ∧ L.length ≤ s.n ∧ s.n ≤ 4096) := ⟨hV, hlen, hn⟩
  have HC : Hid (w.heap[c]? = some (chainObj p kb head sb s.n)) := H.obj
  obtain ⟨m, hm⟩ : ∃ m, m = s.n := ⟨_, rfl⟩
  have HM : Hid (m = s.n) := hm
  rw [← hm]
  clear H hV hlen hm hn hs
  go_enter Try.func42, Try.ntmps42
  go_wp2_with (go_at_call 27; refine HL.mono ?_; rintro e w' ⟨rfl, hw⟩; obtain rfl := hw.symm)
  go_loopg [5, 6] L.length (fun k lv h wr => VI w s gs c head (chainObj p kb head sb s.n) L k lv h wr)
  case atStart => exact ⟨Turned.refl _ _, HS.out, ⟨[], L, head, rfl, rfl, rfl, HV.out.1, IR.nil _ _⟩, HC.out, rfl⟩
  case round =>
    obtain ⟨htu, hsl, ⟨dn, rs, hh, hL, hk, rfl, hv, hir⟩, hun⟩ := hrel
    obtain ⟨va, vc, rfl⟩ := hir.form
    have hll := congrArg List.length hL
    simp only [List.length_append] at hll
    obtain ⟨q, hq⟩ : ∃ q, q = (dn.map (·.h)).length := ⟨_, rfl⟩
    have hql : q = dn.length := by rw [hq]; simp
    rw [← hq]
    cases rs with
    | nil =>
      have h0 : hh = 0 := hv
      subst h0
      have HU := cInUse0 (w := wr) (a := some ⟨gs, 0, none⟩) (m := m) (c := cap)
      have HR : Hid _ := And.intro htu (And.intro hir (And.intro hL hq))
      clear htu hsl hir hL hv hk hll hql hq hun
      go_wp2_with (go_at_call 46; refine HU.mono ?_; rintro e w' ⟨rfl, hw⟩; obtain rfl := hw.symm)
      go_ret
      obtain ⟨r1, r2, r3, r4⟩ := HR.out
      simp at r3
      subst r3
      exact ⟨_, rfl, by rw [r4]; exact r2, r1⟩
    | cons u rs =>
      obtain ⟨i, hu, hh2, hr⟩ := hv
      obtain ⟨j, rfl⟩ : ∃ j, i = j + 1 := ⟨i - 1, by have := hu.i1; omega⟩
      have hjn : j < s.n := by have := hu.i2; omega
      have g1 := hu.g1
      have hhe : hh = hnd (j + 1) (s.slot (j + 1)).gen := by rw [← hh2, hu.h]
      have HU := cInUse (c := cap) hsl HV.out.2.2 hjn hu.g0 (by omega) hu.odd rfl
      rw [← hhe, ← HM.out] at HU
      have HO : Hid (∀ x, Calls Try.prog 61 #[.int .i64 hh] x fun e w' => e = .returned (.int .i64 ((j + 1 : Nat) : Int)) ∧ w' = x) := fun x => by rw [hhe]; exact cSlotOf (by have := HV.out.2.2; omega) hu.g0 (by omega) x
      have hlk := hsl.link hjn
      have a1 : (q : Int) < (m : Int) := by have := HV.out.2.1; have := HM.out; simp at hll; omega
      have a2 : (j : Int) < (m : Int) := by have := HM.out; omega
      have a3 : (j : Int) ≤ 4096 := by have := HV.out.2.2; omega
      have a4 : (q : Int) ≤ 4096 := by have := HV.out.2.2; have := HM.out; omega
      have HR : Hid _ := And.intro htu (And.intro hir (And.intro hL (And.intro hq (And.intro hr (And.intro hh2 (And.intro hk (And.intro hsl (And.intro hun hll))))))))
      have hgs := lt_of_heap hsl.ex.choose_spec.1
      generalize (s.slot (j + 1)).link = lk at *
      clear htu hsl hir hL hk hll hql hq hun hu hr hh2 hhe g1
      go_wp2_with (first
        | (go_at_call 46; refine HU.mono ?_; rintro e w' ⟨rfl, hw⟩; obtain rfl := hw.symm; clear HU)
        | (go_at_call 61; refine (HO.out _).mono ?_; rintro e w' ⟨rfl, hw⟩; obtain rfl := hw.symm)
        | (at_builtin; refine wpList_apInts (v := .slice va q vc) (u := .slice (some ⟨wr.heap.size, 0, none⟩) 1 1) (l := dn.map (·.h)) (ms := [hh]) (B := w.heap.size) rfl _ _ rfl rfl rfl (by rw [HR.out.2.2.2.1]; exact HR.out.2.1.still ((Turned.refl _ _).alloc _)) rfl ⟨_, _, rfl, (fun h => by cases h), fun _ => ⟨wr.heap.size, 0, rfl, fun i hi => by simp at hi; subst hi; first | (go_simp; done) | (simp; done) | (simp; go_simp; done)⟩⟩ (by have := HR.out.2.2.2.1; have := HV.out; omega) (by simp) (by have := HR.out.1.size; simp; omega) ?_; intro v' w11 hsr ht11 hor; obtain ⟨va2, vc2, hv2⟩ := hsr.form; have ht12 : Turned [] w w11 := ((HR.out.1.alloc _).inner ht11 (fun z hz => .inr (by have := (HR.out.2.1.fresh (g := z) (by rw [← HR.out.2.2.2.1]; exact Option.mem_toList.1 hz)).1; omega))); have hlk2 : w11.cell? ⟨gs, j * 7 + 6, none⟩ = some (.int .i64 lk) := ht11.cell (((Turned.refl [] wr).alloc _).cell hlk (by simp)) (fun hz => by obtain ⟨cs, hcs⟩ := HR.out.2.1.type (g := gs) (by rw [← HR.out.2.2.2.1]; exact Option.mem_toList.1 hz); obtain ⟨cs2, hcs2, -⟩ := HR.out.2.2.2.2.2.2.2.1.ex; exact other_type hcs hcs2 (by decide) rfl); have hsl2 : SlotsAt w11 gs s := (by obtain ⟨cs2, hcs2, hcs3⟩ := HR.out.2.2.2.2.2.2.2.1.ex; exact ⟨cs2, ht11.heap (blk_old hcs2 _) (fun hz => by obtain ⟨cs, hcs⟩ := HR.out.2.1.type (g := gs) (by rw [← HR.out.2.2.2.1]; exact Option.mem_toList.1 hz); exact other_type hcs hcs2 (by decide) rfl), hcs3⟩); have hun2 : w11.heap[c]? = some (chainObj p kb head sb s.n) := ht11.heap (blk_old HR.out.2.2.2.2.2.2.2.2.1.1 _) (fun hz => by obtain ⟨cs, hcs⟩ := HR.out.2.1.type (g := c) (by rw [← HR.out.2.2.2.1]; exact Option.mem_toList.1 hz); exact other_type hcs HR.out.2.2.2.2.2.2.2.2.1.1 (by decide) rfl); have HN : Hid _ := And.intro ht12 (And.intro hsl2 (And.intro hsr hun2)); clear ht12 hsl2 hsr hun2 ht11 hor))
      go_roundg rs.length
      case measure => have := HR.out.2.2.2.2.2.2.1; simp at this; omega
      case rel =>
        obtain ⟨r1, r2, r3, r4, r5, r6, r7, r8, r9, r10⟩ := HR.out
        exact ⟨HN.out.1, HN.out.2.1, ⟨dn ++ [u], rs, lk, by rw [← r3]; simp, rfl, rfl, r5, by rw [List.map_append]; simp only [List.map_cons, List.map_nil]; rw [r6]; have q := HN.out.2.2.1; rw [hv2] at q; simpa using q⟩, HN.out.2.2.2, rfl⟩
end
end Go.Proofs.Ytaaibhgbkdnlbaa
/- Package chain's Versions, Set, New by contract. -/
namespace Go.Proofs.Ytaaibhgbkdnlbaa
open Go.RowKit
section
variable {w : World} {p kb c sb i : Nat} {F : List Nat} {s : PSt} {now head : Int} {kv : Value} {S : Nat → Option SRec}
theorem lawSlots {w : World} {p : Nat} {F : List Nat} {s : PSt} (hA : PoolAt w p F s) (hO : s.Ok) : Calls Try.prog 25 #[.pointer (some ⟨p, 0, none⟩)] w fun e w' => ∃ g c, e = .returned (.slice (some ⟨g, 0, none⟩) s.n c) ∧ Turned F w w' ∧ PoolAt w' p F s ∧ w.heap.size ≤ g ∧ SlotsAt w' g s := by
  refine (poolLaws.slots hA hO).mono ?_
  rintro e w' ⟨ht, hA', g, c, cs, rfl, hg, hc, hk⟩
  exact ⟨g, c, rfl, ht, hA', hg, ⟨cs, hc, hk⟩⟩
set_option maxHeartbeats 1600000 in
theorem cVersions {L : List Ver} (H : CA w p kb F s now kv c sb head S) (hO : s.Ok) (hV : Vers s head L) (hlen : L.length ≤ s.n) :
    Calls Try.prog 16 #[pp c] w fun e w' => ∃ v, e = .returned v ∧ IR w.heap.size w' v (L.map (·.h)) ∧ Turned F w w' ∧ CA w' p kb F s now kv c sb head S := by
  have HS := lawSlots H.pool hO
  have c0 := H.c0
  have HH : Hid _ := H
  have HV : Hid (Vers s head L ∧ L.length ≤ s.n ∧ s.n ≤ 4096) := ⟨hV, hlen, hO.n2⟩
  clear H hV hlen hO
  go_enter Try.func16, Try.ntmps16
  go_wp2_with (first
    | (go_at_call 25; refine HS.mono ?_; rintro e w1 ⟨g, cp, rfl, ht, hA, hg, hsl⟩; have HX : Hid _ := And.intro ht (And.intro (HH.out.step ht hA rfl) hsl); clear ht hA hg hsl)
    | (go_at_call 42; refine (cVersionsIn HX.out.2.1 HV.out.2.2 HX.out.2.2 HV.out.1 HV.out.2.1).mono ?_; rintro e w2 ⟨v, rfl, hir, ht2⟩; have HY : Hid _ := And.intro hir ht2; clear hir ht2))
  go_ret
  have := HX.out.1.size
  exact ⟨_, rfl, HY.out.1.lower (by omega), HX.out.1.trans (HY.out.2.mono (by simp)), HX.out.2.1.still HY.out.2⟩
set_option maxHeartbeats 1600000 in
theorem cSet (H : CA w p kb F s now kv c sb head S) (hO : s.Ok) {v : Ver} (hv : VAt s i v) (hS : ∀ r, S i = some r → r.h = v.h) (hl : (setL (S i)).length ≤ 10000) :
    Calls Try.prog 19 #[pp c, .int .i64 v.h] w fun e w' => ∃ u, e = .returned u ∧ IR w.heap.size w' u (setL (S i)) ∧ Turned F w w' ∧ CA w' p kb F s now kv c sb head S := by
  have c3 := H.c3
  have g1 := hv.g1
  have HH : Hid _ := H
  have hz : v.h = hnd i (s.slot i).gen := hv.h
  cases hSi : S i with
  | none =>
    have HO := cOfMiss (i := i) H.sets hO.n2 hv.i1 hv.i2 hv.g0 (by omega) hSi
    rw [← hz] at HO
    generalize v.h = h at *
    clear H hv hS hz hSi hl hO
    show Calls _ _ _ _ fun e w' => ∃ u, e = .returned u ∧ IR w.heap.size w' u [] ∧ Turned F w w' ∧ CA w' p kb F s now kv c sb head S
    go_enter Try.func19, Try.ntmps19
    go_wp2_with (go_at_call 45; refine HO.mono ?_; rintro e w' ⟨rfl, hw⟩; obtain rfl := hw.symm)
    go_ret
    exact ⟨_, rfl, IR.nil _ _, Turned.refl _ _, HH.out⟩
  | some r =>
    have hrh : r.h = hnd i (s.slot i).gen := by rw [hS r hSi, hz]
    rw [hSi] at hl
    have HO := cOfHit (i := i) H.sets hO.n2 hv.i1 hv.i2 hv.g0 (by omega) hSi hrh hl
    rw [← hz] at HO
    obtain ⟨o1, o2, o3⟩ := H.sets.obj i r hv.i2 hSi
    have hne : 0 < (r.l.length : Int) := by
      cases hr : r.l with
      | nil => exact absurd hr o3
      | cons _ _ => simp
    have HS : Hid (∀ x, PoolAt x p F s → Calls Try.prog 25 #[.pointer (some ⟨p, 0, none⟩)] x fun e w' => ∃ g c, e = .returned (.slice (some ⟨g, 0, none⟩) s.n c) ∧ Turned F x w' ∧ PoolAt w' p F s ∧ x.heap.size ≤ g ∧ SlotsAt w' g s) := fun x hx => lawSlots hx hO
    have HU : Hid (∀ x g cp, SlotsAt x g s → Calls Try.prog 46 #[.slice (some ⟨g, 0, none⟩) s.n cp, .int .i64 v.h] x fun e w' => e = .returned (.bool true) ∧ w' = x) := fun x g cp hx => by
      obtain ⟨j, hj⟩ : ∃ j, i = j + 1 := ⟨i - 1, by have := hv.i1; omega⟩
      subst hj
      rw [hz]
      exact cInUse hx hO.n2 (by have := hv.i2; omega) hv.g0 (by omega) hv.odd rfl
    show Calls _ _ _ _ fun e w' => ∃ u, e = .returned u ∧ IR w.heap.size w' u r.l ∧ Turned F w w' ∧ CA w' p kb F s now kv c sb head S
    generalize v.h = h at *
    generalize r.l = rl at *
    clear H hv hS o1 o2 o3 hrh hSi hl hO hz
    go_enter Try.func19, Try.ntmps19
    go_wp2_with (first
      | (go_at_call 45; refine HO.mono ?_; rintro e w1 ⟨v', rfl, hir, ht⟩; obtain ⟨va, vc, hvv⟩ := hir.form; subst hvv; have h1' := HH.out.still ht; have d0 := h1'.c0; have HX : Hid _ := And.intro hir (And.intro ht h1'); clear hir ht h1')
      | (go_at_call 25; refine (HS.out _ HX.out.2.2.pool).mono ?_; rintro e w2 ⟨g, cp, rfl, ht, hA, hg, hsl⟩; have HY : Hid _ := And.intro ht (And.intro (HX.out.2.2.step ht hA rfl) hsl); clear ht hA hg hsl)
      | (go_at_call 46; refine (HU.out _ _ _ HY.out.2.2).mono ?_; rintro e w' ⟨rfl, hw⟩; obtain rfl := hw.symm))
    go_ret
    refine ⟨_, rfl, HX.out.1.keep HY.out.1 (fun g hg hm => ?_), (HX.out.2.1.mono (by simp)).trans HY.out.1, HY.out.2.1⟩
    obtain ⟨cs, hc⟩ := HX.out.1.type hg
    exact poolAt_other HX.out.2.2.pool hc (by decide) hm
theorem infoPS : (Try.prog.info? 136).map (fun i => (i.zero, i.size, i.bytes)) = some (some (.agg #[.pointer none]), 1, 8) := by kernel_rfl
theorem undPS : Try.prog.underlying 87 = some (.slice 136) := by kernel_rfl
def ptrN (_ : Nat) : Value := .pointer none
theorem made_sets (n : Nat) : (.cells (madeCells #[.pointer none] (n + 1)) 136 : Obj) = setsObj (fun _ => none) n := by
  show _ = Obj.cells ((List.range (n + 1)).map ptrN).toArray _ _
  congr 1
  apply Array.ext
  · simp [madeCells]
  · intro i h1 h2
    simp [madeCells, ptrN, Nat.mod_one]
theorem run_makePS (n : Nat) (h : n ≤ 1000000) (w : World) :
    (Instr.makeSlice 87 (.int .i64 (n + 1)) (.int .i64 (n + 1))).run Try.prog w = .ok (.slice (some ⟨w.heap.size, 0, none⟩) (n + 1) (n + 1)) (w.alloc (setsObj (fun _ => none) n)) := by
  obtain ⟨i, hi, hzz⟩ := Option.map_eq_some_iff.1 infoPS
  simp only [Prod.mk.injEq] at hzz
  obtain ⟨hz, hs, hb⟩ := hzz
  have hr := run_make (P := Try.prog) w 87 136 i _ undPS hi hz .i64 .i64 ((n + 1 : Nat) : Int) ((n + 1 : Nat) : Int) (by omega) (Int.le_refl _) (by rw [hb]; omega) (by omega)
  simp only [Int.toNat_natCast, hs, Nat.mul_one] at hr
  rw [← made_sets]
  exact hr
theorem cNewSets (n : Nat) (h : n ≤ 4096) (w : World) : Calls Try.prog 24 #[.int .i64 n] w fun e w' => e = .returned (.slice (some ⟨w.heap.size, 0, none⟩) (n + 1) (n + 1)) ∧ w' = w.alloc (setsObj (fun _ => none) n) := by
  have hr := run_makePS n (by omega) w
  have hn : (n : Int) ≤ 4096 := by omega
  go_enter Try.func24, Try.ntmps24
  go_wp2
  go_ret
  exact ⟨rfl, rfl⟩
set_option maxHeartbeats 1600000 in
theorem cChainNew (hA : PoolAt w p F s) (hO : s.Ok) (k : Nat) :
    Calls Try.prog 7 #[pp p, pp k] w fun e w' => ∃ c sb, e = .returned (pp c) ∧ Turned F w w' ∧ PoolAt w' p F s ∧ w'.heap[c]? = some (chainObj p k 0 sb s.n) ∧ SetsAt w' sb s.n (fun _ => none) ∧ w.heap.size ≤ c ∧ w.heap.size ≤ sb := by
  have HS := lawSlots hA hO
  have n2 := hO.n2
  obtain ⟨m, hm⟩ : ∃ m, m = s.n := ⟨_, rfl⟩
  have HN : Hid (∀ x, Calls Try.prog 24 #[.int .i64 m] x fun e w' => e = .returned (.slice (some ⟨x.heap.size, 0, none⟩) (m + 1) (m + 1)) ∧ w' = x.alloc (setsObj (fun _ => none) m)) := fun x => cNewSets m (by omega) x
  have HM : Hid (m = s.n) := hm
  rw [← hm] at HS ⊢
  clear hA hO n2 hm
  go_enter Try.func7, Try.ntmps7
  go_wp2_with (first
    | (go_at_call 25; refine HS.mono ?_; rintro e w1 ⟨g, cp, rfl, ht, hA, hg, hsl⟩; have HX : Hid _ := And.intro ht hA; clear ht hA hg hsl)
    | (go_at_call 24; refine (HN.out _).mono ?_; rintro e w2 ⟨rfl, hw2⟩; have HW2 : Hid _ := hw2; clear hw2))
  go_ret
  have hs1 := HX.out.1.size
  have t2 : Turned [] w1 (w2.alloc (chainObj p k 0 w1.heap.size m)) := by rw [HW2.out]; exact ((Turned.refl _ _).alloc _).alloc _
  have hrow : (w2.alloc (chainObj p k 0 w1.heap.size m)).heap[w1.heap.size]? = some (setsObj (fun _ => none) m) := by rw [HW2.out]; exact blk_old (blk_new _ _) _
  have hs2 : w1.heap.size ≤ w2.heap.size := by rw [HW2.out]; simp
  exact ⟨w2.heap.size, w1.heap.size, rfl, HX.out.1.trans (t2.mono (by simp)), HX.out.2.still t2, blk_new _ _, ⟨hrow, (fun _ _ _ h => by cases h), (fun _ _ _ _ _ _ h => by cases h)⟩, by omega, hs1⟩
end
end Go.Proofs.Ytaaibhgbkdnlbaa
/- A chain's state, whole, and what each call makes of it. -/
namespace Go.Proofs.Ytaaibhgbkdnlbaa
open Go.RowKit
theorem Vers.congr {s s' : PSt} (hn : s'.n = s.n) (hs : ∀ j, 1 ≤ j → j ≤ s.n → (s.slot j).gen % 2 = 1 → s'.slot j = s.slot j) : ∀ {L : List Ver} {h : Int}, Vers s h L → Vers s' h L
  | [], _, h => h
  | v :: l, _, ⟨i, hv, hh, hr⟩ => by
    have e := hs i hv.i1 hv.i2 hv.odd
    refine ⟨i, ⟨by rw [e]; exact hv.h, hv.i1, by rw [hn]; exact hv.i2, by rw [e]; exact hv.g0, by rw [e]; exact hv.g1, by rw [e]; exact hv.odd, by rw [e]; exact hv.mark, hv.pos, by rw [e]; exact hv.a⟩, hh, ?_⟩
    rw [e]
    exact Vers.congr hn hs hr
theorem Vers.at_ {s : PSt} : ∀ {pre : List Ver} {v : Ver} {post : List Ver} {h : Int}, Vers s h (pre ++ v :: post) → ∃ i, VAt s i v ∧ Vers s (s.slot i).link post
  | [], _, _, _, ⟨i, hv, _, hr⟩ => ⟨i, hv, hr⟩
  | _ :: pre, _, _, _, ⟨_, _, _, hr⟩ => Vers.at_ (pre := pre) hr
theorem Vers.mem {s : PSt} {L : List Ver} {h : Int} (hV : Vers s h L) {v : Ver} (hv : v ∈ L) : ∃ i, VAt s i v := by
  obtain ⟨pre, post, rfl⟩ := List.append_of_mem hv
  obtain ⟨i, hi, -⟩ := hV.at_
  exact ⟨i, hi⟩
theorem VAt.idx {s : PSt} {i j : Nat} {v u : Ver} (hv : VAt s i v) (hu : VAt s j u) (h : v.h = u.h) : i = j := by
  rw [hv.h, hu.h] at h
  exact (hnd_inj hv.g0 hv.g1 hu.g0 hu.g1 h).1
/-- What is ahead of a version is cut off. -/
theorem Vers.cut {s : PSt} : ∀ {pre : List Ver} {v : Ver} {post : List Ver} {h : Int} {i : Nat}, Vers s h (pre ++ v :: post) → ((pre ++ [v]).map (·.h)).Nodup → VAt s i v → Vers (s.putLink i 0) h (pre ++ [v])
  | [], v, post, h, i, ⟨j, hj, hh, hr⟩, _, hi => by
    obtain rfl := hj.idx hi rfl
    have e : (s.putLink j 0).slot j = { s.slot j with link := 0 } := upd_same _ _ _
    refine ⟨j, ⟨by rw [e]; exact hj.h, hj.i1, hj.i2, by rw [e]; exact hj.g0, by rw [e]; exact hj.g1, by rw [e]; exact hj.odd, by rw [e]; exact hj.mark, hj.pos, by rw [e]; exact hj.a⟩, hh, ?_⟩
    rw [e]
    exact rfl
  | u :: pre, v, post, h, i, ⟨j, hj, hh, hr⟩, hnd, hi => by
    simp only [List.cons_append, List.map_cons, List.nodup_cons] at hnd
    have hne : j ≠ i := fun e => by
      subst e
      refine hnd.1 ?_
      rw [hj.h, ← hi.h]
      simp
    have e : (s.putLink i 0).slot j = s.slot j := upd_other _ _ hne
    refine ⟨j, ⟨by rw [e]; exact hj.h, hj.i1, hj.i2, by rw [e]; exact hj.g0, by rw [e]; exact hj.g1, by rw [e]; exact hj.odd, by rw [e]; exact hj.mark, hj.pos, by rw [e]; exact hj.a⟩, hh, ?_⟩
    rw [e]
    exact Vers.cut (pre := pre) hr hnd.2 hi
theorem putLink_ok {s : PSt} (h : s.Ok) (i : Nat) (v : Int) : (s.putLink i v).Ok := ⟨h.n1, h.n2, h.h0, h.h1, h.top, h.low⟩
theorem PV.turn {s s' : PSt} {St : List Nat} {it : Nat} (h : PV s St it) (hn : s'.n = s.n) (hh : s'.h = s.h) (hf : s'.f = s.f) (hg : ∀ j, (s'.slot j).gen = (s.slot j).gen) : PV s' St it :=
  ⟨⟨by rw [hn]; exact h.ok.n1, by rw [hn]; exact h.ok.n2, by rw [hh]; exact h.ok.h0, by rw [hh]; exact h.ok.h1, by rw [hh, hn]; exact h.ok.top, by rw [hn, hf]; exact h.ok.low⟩, by rw [hh, hf]; exact h.top, by rw [hn]; exact h.small, h.nodup, fun x hx => by rw [hg]; exact h.even x hx, fun i a b c => by rw [hg]; exact h.odd i a (by rw [← hn]; exact b) c, fun i a b => by rw [hg]; exact h.gens i a (by rw [← hn]; exact b), h.fits⟩
theorem gen_putMark (s : PSt) (i : Nat) (v : Int) (j : Nat) : ((s.putMark i v).slot j).gen = (s.slot j).gen := by
  show (upd s.slot i _ j).gen = _
  unfold upd; split
  · rename_i e; subst e; rfl
  · rfl
theorem gen_putLink (s : PSt) (i : Nat) (v : Int) (j : Nat) : ((s.putLink i v).slot j).gen = (s.slot j).gen := by
  show (upd s.slot i _ j).gen = _
  unfold upd; split
  · rename_i e; subst e; rfl
  · rfl
/-- A chain over a pool and a clock whose leases are free. -/
structure CS (x : World) (nl p kb lb cp : Nat) (E : Nat → Nat) (c sb : Nat) (F : List Nat) (s : PSt) (St : List Nat) (it : Nat) (now head : Int) (S : Nat → Option SRec) (L : List Ver) : Prop where
  ca : CA x p kb F s now (.slice (some ⟨lb, 0, none⟩) nl cp) c sb head S
  ck : ClockAt x kb lb nl cp E now (fun _ => 0)
  nE : ∀ k, k < nl → E k ∉ F
  pv : PV s St it
  fa : s.faults = 0
  vs : Vers s head L
  nd : (L.map (·.h)).Nodup
  room : L.length + St.length ≤ s.n
  own : ∀ i r, i ≤ s.n → S i = some r → i ∉ St ∧ r.h = hnd i (s.slot i).gen
  pos : 1 ≤ now ∧ now ≤ 100000
section
variable {x x' : World} {nl p kb lb cp c sb it : Nat} {E : Nat → Nat} {F F' : List Nat} {s : PSt} {St : List Nat} {now head : Int} {S S' : Nat → Option SRec} {L : List Ver}
theorem CS.still (h : CS x nl p kb lb cp E c sb F s St it now head S L) (ht : Turned [] x x') : CS x' nl p kb lb cp E c sb F s St it now head S L :=
  ⟨h.ca.still ht, h.ck.still ht, h.nE, h.pv, h.fa, h.vs, h.nd, h.room, h.own, h.pos⟩
/-- What lies beside. -/
theorem CS.keepClk (h : CS x nl p kb lb cp E c sb F s St it now head S L) {M : List Nat} (ht : Turned M x x') (hM : ∀ z, z ∈ M → z = c ∨ z = sb ∨ z ∈ F) : ClockAt x' kb lb nl cp E now (fun _ => 0) := by
  obtain ⟨cur, hcur, -⟩ := h.ck.row
  refine h.ck.keep ht (fun hm => ?_) (fun hm => ?_) (fun k hk hm => ?_)
  · rcases hM _ hm with e | e | e
    · exact h.ca.ck e.symm
    · exact h.ca.ks e
    · exact h.ca.nk e
  · rcases hM _ hm with e | e | e
    · exact other_type hcur (e ▸ h.ca.obj) (by decide) rfl
    · exact other_type hcur (e ▸ h.ca.sets.row) (by decide) rfl
    · exact poolAt_other h.ca.pool hcur (by decide) e
  · rcases hM _ hm with e | e | e
    · exact other_type (h.ck.lease k hk) (e ▸ h.ca.obj) (by decide) rfl
    · exact other_type (h.ck.lease k hk) (e ▸ h.ca.sets.row) (by decide) rfl
    · exact h.nE k hk e
theorem CS.wider (h : CS x nl p kb lb cp E c sb F s St it now head S L) (hW : Wider F F' x) : ∀ k, k < nl → E k ∉ F' := fun k hk hm => by
  rcases hW _ hm with e | e
  · exact h.nE k hk e
  · have := lt_of_heap (h.ck.lease k hk); omega
theorem CS.vmem (h : CS x nl p kb lb cp E c sb F s St it now head S L) {v : Ver} (hv : v ∈ L) : ∃ i, VAt s i v ∧ i ∉ St := by
  obtain ⟨i, hi⟩ := h.vs.mem hv
  exact ⟨i, hi, fun hm => by have := h.pv.even i hm; have := hi.odd; omega⟩
theorem plc_of {s : PSt} {i : Nat} {v : Ver} (h : VAt s i v) : (v.h / 1099511627776).toNat = i := by
  have := h.g0; have := h.g1
  rw [h.h]; unfold hnd; omega
/-- The set of a version. -/
def setOf (S : Nat → Option SRec) (v : Ver) : List Int := setL (S (v.h / 1099511627776).toNat)
end
end Go.Proofs.Ytaaibhgbkdnlbaa
/- Package chain's calls on a chain's state. -/
namespace Go.Proofs.Ytaaibhgbkdnlbaa
open Go.RowKit
section
variable {x : World} {nl p kb lb cp c sb it i : Nat} {E : Nat → Nat} {F : List Nat} {s : PSt} {St : List Nat} {now head : Int} {S : Nat → Option SRec} {L : List Ver}
theorem CS.free_none (h : CS x nl p kb lb cp E c sb F s (i :: St) it now head S L) : S i = none := by
  cases hS : S i with
  | none => rfl
  | some r => exact absurd (by simp) (h.own i r (h.pv.small i (by simp)).2 hS).1
/-- Slots in use are as they were. -/
theorem take_same (s : PSt) (i : Nat) (xa xb xc xd lk : Int) {j : Nat} (hj : j ≠ i) : (s.take i xa xb xc xd lk).slot j = s.slot j := upd_other _ _ hj
theorem kFirst (h : CS x nl p kb lb cp E c sb F s (i :: St) it now 0 S []) (hf : it + 1 ≤ 1000000) (xa xb xc xd : Int) :
    Calls Try.prog 10 #[pp c, .pointer none, .agg #[.int .i64 xa, .int .i64 xb, .int .i64 xc, .int .i64 xd]] x fun e x' => e = .returned (.tuple #[.int .i64 (hnd i ((s.slot i).gen + 1)), .int .i64 0]) ∧ Turned (c :: sb :: F) x x' ∧ ∃ F' s', CS x' nl p kb lb cp E c sb F' s' St (it + 1) now (hnd i ((s.slot i).gen + 1)) S [⟨hnd i ((s.slot i).gen + 1), xa, 1⟩] ∧ Wider F F' x ∧ s'.n = s.n := by
  obtain ⟨q1, q2, q3, q4, q5, q6, q7⟩ := h.pv.some
  refine (cFirst h.ca h.pv.ok q1 q3 q4 q5 (by have := h.pv.fits; omega) q7 xa xb xc xd).mono ?_
  rintro e x' ⟨rfl, ht, F', hA, hW⟩
  have hsl : ((s.take i xa xb xc xd 0).putMark i 1).slot i = ⟨(s.slot i).gen + 1, 1, 0, xa, xb, xc, xd⟩ := by
    show upd (upd s.slot i _) i _ i = _
    rw [upd_same]
    show { (upd s.slot i _ i) with mark := 1 } = _
    rw [upd_same]
  have hot : ∀ j, j ≠ i → ((s.take i xa xb xc xd 0).putMark i 1).slot j = s.slot j := fun j hj => by
    show upd (upd s.slot i _) i _ j = _
    rw [upd_other _ _ hj, upd_other _ _ hj]
  refine ⟨rfl, ht.mono (fun z hz => by simp only [List.mem_cons] at hz ⊢; rcases hz with e | e; exact .inl e; exact .inr (.inr e)), F', _, ⟨hA, h.keepClk ht (fun z hz => by simp only [List.mem_cons] at hz; rcases hz with e | e; exact .inl e; exact .inr (.inr e)), h.wider hW, (h.pv.take (by omega) xa xb xc xd 0).turn rfl rfl rfl (gen_putMark _ _ _), h.fa, ⟨i, ⟨by rw [hsl], q3, q4, by rw [hsl]; show 0 ≤ (s.slot i).gen + 1; omega, by rw [hsl]; show (s.slot i).gen + 1 ≤ _; have := h.pv.fits; omega, by rw [hsl]; show ((s.slot i).gen + 1) % 2 = 1; omega, by rw [hsl], (show (1:Int) ≤ 1 from Int.le_refl _), by rw [hsl]⟩, rfl, by rw [hsl]; exact rfl⟩, by simp, ?_, fun j r hj hr => ?_, h.pos⟩, hW, rfl⟩
  · have := h.room
    show 1 + St.length ≤ s.n
    simp at this; omega
  · have hj' : j ≤ s.n := hj
    obtain ⟨o1, o2⟩ := h.own j r hj' hr
    have hne : j ≠ i := fun e => o1 (by simp [e])
    exact ⟨fun hm => o1 (by simp [hm]), by rw [hot j hne]; exact o2⟩
set_option maxHeartbeats 800000 in
theorem kPushOk (h : CS x nl p kb lb cp E c sb F s (i :: St) it now head S L) (hf : it + 1 ≤ 1000000) {v : Value} {l : List Int} (hv : IV x v l) (hvF : ∀ b, v.ownBlock = some b → b ∉ F) (hl : l.length ≤ 10000) (xa xb xc xd : Int) :
    Calls Try.prog 11 #[pp c, .pointer none, .int .i64 head, .agg #[.int .i64 xa, .int .i64 xb, .int .i64 xc, .int .i64 xd], v] x fun e x' => e = .returned (.tuple #[.int .i64 (hnd i ((s.slot i).gen + 1)), .bool true, .int .i64 0]) ∧ Turned (c :: sb :: F) x x' ∧ ∃ F' s' S', CS x' nl p kb lb cp E c sb F' s' St (it + 1) now (hnd i ((s.slot i).gen + 1)) S' (⟨hnd i ((s.slot i).gen + 1), xa, now⟩ :: L) ∧ Wider F F' x ∧ s'.n = s.n ∧ setOf S' ⟨hnd i ((s.slot i).gen + 1), xa, now⟩ = l ∧ (∀ v ∈ L, setOf S' v = setOf S v) ∧ (∀ k r, S' k = some r → S k = some r ∨ (x.heap.size ≤ r.b ∧ x.heap.size ≤ r.g)) := by
  obtain ⟨q1, q2, q3, q4, q5, q6, q7⟩ := h.pv.some
  have hfit := h.pv.fits
  refine (cPushOk h.ca h.pv.ok q1 q3 q4 q5 (by omega) q7 hv hvF hl xa xb xc xd).mono ?_
  rintro e x' ⟨rfl, ht, F', S', hA, hW, hK, hN⟩
  have hsl : ((s.take i xa xb xc xd head).putMark i now).slot i = ⟨(s.slot i).gen + 1, now, head, xa, xb, xc, xd⟩ := by
    show upd (upd s.slot i _) i _ i = _
    rw [upd_same]
    show { (upd s.slot i _ i) with mark := now } = _
    rw [upd_same]
  have hot : ∀ j, j ≠ i → ((s.take i xa xb xc xd head).putMark i now).slot j = s.slot j := fun j hj => by
    show upd (upd s.slot i _) i _ j = _
    rw [upd_other _ _ hj, upd_other _ _ hj]
  have hnew : VAt ((s.take i xa xb xc xd head).putMark i now) i ⟨hnd i ((s.slot i).gen + 1), xa, now⟩ := ⟨by rw [hsl], q3, q4, by rw [hsl]; show 0 ≤ (s.slot i).gen + 1; omega, by rw [hsl]; show (s.slot i).gen + 1 ≤ _; omega, by rw [hsl]; show ((s.slot i).gen + 1) % 2 = 1; omega, by rw [hsl], h.pos.1, by rw [hsl]⟩
  have hS' : ∀ j, j ≠ i → S' j = S j := fun j hj => by
    by_cases e : l = []
    · rw [hK.nil e, upd_other _ _ hj]
    · obtain ⟨r, hr, -⟩ := hK.full e
      rw [hr, upd_other _ _ hj]
  have hnd : ∀ u ∈ L, u.h ≠ hnd i ((s.slot i).gen + 1) := fun u hu e => by
    obtain ⟨j, hj, hjS⟩ := h.vmem hu
    rw [hj.h] at e
    have := (hnd_inj hj.g0 hj.g1 (by omega) (by omega) e).1
    exact hjS (by simp [this])
  refine ⟨rfl, ht, F', _, S', ⟨hA, h.keepClk ht (fun z hz => by simpa using hz), h.wider hW, (h.pv.take (by omega) xa xb xc xd head).turn rfl rfl rfl (gen_putMark _ _ _), h.fa, ⟨i, hnew, rfl, ?_⟩, ?_, ?_, fun j r hj hr => ?_, h.pos⟩, hW, rfl, ?_, fun u hu => ?_, fun k r hr => ?_⟩
  · rw [hsl]
    exact Vers.congr (s := s) (s' := (s.take i xa xb xc xd head).putMark i now) rfl (fun j _ _ hodd => hot j (fun e => by subst e; omega)) h.vs
  · simp only [List.map_cons, List.nodup_cons]
    exact ⟨fun hm => by obtain ⟨u, hu, e⟩ := List.mem_map.1 hm; exact hnd u hu e, h.nd⟩
  · have := h.room
    show (L.length + 1) + St.length ≤ s.n
    simp at this; omega
  · have hj' : j ≤ s.n := hj
    by_cases e : j = i
    · subst e
      exact ⟨(List.nodup_cons.1 h.pv.nodup).1, by rw [hsl]; exact hK.own r hr⟩
    · rw [hS' j e] at hr
      obtain ⟨o1, o2⟩ := h.own j r hj' hr
      exact ⟨fun hm => o1 (by simp [hm]), by rw [hot j e]; exact o2⟩
  · unfold setOf
    rw [plc_of hnew]
    by_cases e : l = []
    · rw [hK.nil e, upd_same, e]; rfl
    · obtain ⟨r, hr, -, hrl⟩ := hK.full e
      rw [hr, upd_same]
      exact hrl
  · obtain ⟨j, hj, hjS⟩ := h.vmem hu
    unfold setOf
    rw [plc_of hj, hS' j (fun e => hjS (by simp [e]))]
  · by_cases e : k = i
    · subst e; exact .inr (hN r hr)
    · rw [hS' k e] at hr; exact .inl hr
set_option maxHeartbeats 800000 in
theorem kPushNot (h : CS x nl p kb lb cp E c sb F s (i :: St) it now head S L) (hf : it + 2 ≤ 1000000) {v : Value} {l : List Int} (hv : IV x v l) (hvF : ∀ b, v.ownBlock = some b → b ∉ F) (hl : l.length ≤ 10000) {old : Int} (hne : ¬ head = old) (xa xb xc xd : Int) :
    Calls Try.prog 11 #[pp c, .pointer none, .int .i64 old, .agg #[.int .i64 xa, .int .i64 xb, .int .i64 xc, .int .i64 xd], v] x fun e x' => e = .returned (.tuple #[.int .i64 0, .bool false, .int .i64 0]) ∧ Turned (c :: sb :: F) x x' ∧ ∃ F' s', CS x' nl p kb lb cp E c sb F' s' (i :: St) (it + 2) now head S L ∧ Wider F F' x ∧ s'.n = s.n := by
  obtain ⟨q1, q2, q3, q4, q5, q6, q7⟩ := h.pv.some
  have hfit := h.pv.fits
  have hSi := h.free_none
  refine (cPushNot h.ca h.pv.ok q1 q3 q4 q5 (by omega) q7 hv hvF hl old hne xa xb xc xd).mono ?_
  rintro e x' ⟨rfl, ht, F', hA, hW⟩
  have e1 : upd S i none = S := by funext k; unfold upd; by_cases e : k = i <;> simp [e, hSi]
  rw [e1] at hA
  have hot : ∀ j, j ≠ i → ((s.take i xa xb xc xd old).give i (-7777777)).slot j = s.slot j := fun j hj => by
    show upd (upd s.slot i _) i _ j = _
    rw [upd_other _ _ hj, upd_other _ _ hj]
  have nd := List.nodup_cons.1 h.pv.nodup
  refine ⟨rfl, ht, F', _, ⟨hA, h.keepClk ht (fun z hz => by simpa using hz), h.wider hW, (h.pv.take (by omega) xa xb xc xd old).give (by omega) q3 q4 nd.1 _, h.fa, ?_, h.nd, h.room, fun j r hj hr => ?_, h.pos⟩, hW, rfl⟩
  · exact Vers.congr (s := s) (s' := (s.take i xa xb xc xd old).give i (-7777777)) rfl (fun j _ _ hodd => hot j (fun e => by subst e; omega)) h.vs
  · obtain ⟨o1, o2⟩ := h.own j r hj hr
    have hne : j ≠ i := fun e => o1 (by simp [e])
    exact ⟨o1, by rw [hot j hne]; exact o2⟩
theorem kPushFull (h : CS x nl p kb lb cp E c sb F s [] it now head S L) {v : Value} (hv : ∃ va vl vc, v = .slice va vl vc) (old xa xb xc xd : Int) :
    Calls Try.prog 11 #[pp c, .pointer none, .int .i64 old, .agg #[.int .i64 xa, .int .i64 xb, .int .i64 xc, .int .i64 xd], v] x fun e x' => e = .returned (.tuple #[.int .i64 0, .bool false, .int .i64 102]) ∧ Turned F x x' ∧ CS x' nl p kb lb cp E c sb F s [] it now head S L := by
  refine (cPushFull h.ca h.pv.ok h.pv.empty hv old xa xb xc xd).mono ?_
  rintro e x' ⟨rfl, ht, hA⟩
  exact ⟨rfl, ht, hA, h.keepClk ht (fun z hz => .inr (.inr hz)), h.nE, h.pv, h.fa, h.vs, h.nd, h.room, h.own, h.pos⟩
theorem CS.same (h : CS x nl p kb lb cp E c sb F s St it now head S L) {x' : World} (ht : Turned F x x') (hA : CA x' p kb F s now (.slice (some ⟨lb, 0, none⟩) nl cp) c sb head S) : CS x' nl p kb lb cp E c sb F s St it now head S L :=
  ⟨hA, h.keepClk ht (fun _ hz => .inr (.inr hz)), h.nE, h.pv, h.fa, h.vs, h.nd, h.room, h.own, h.pos⟩
theorem kTop {v : Ver} (h : CS x nl p kb lb cp E c sb F s St it now head S (v :: L)) :
    Calls Try.prog 8 #[pp c, .pointer none] x fun e x' => e = .returned (.tuple #[.int .i64 v.h, .int .i64 v.st, .int .i64 0]) ∧ Turned F x x' ∧ CS x' nl p kb lb cp E c sb F s St it now head S (v :: L) := by
  obtain ⟨i, hv, hh, -⟩ := h.vs
  have hm : ¬ (s.slot i).mark = 0 := by rw [hv.mark]; have := hv.pos; omega
  have hca := h.ca
  rw [← hh, hv.h] at hca
  refine (cTop hca h.pv.ok hv.i1 hv.i2 hv.g0 (by have := hv.g1; omega) hv.odd rfl hm).mono ?_
  rintro e x' ⟨rfl, ht, hA⟩
  rw [← hv.h, hh] at hA
  exact ⟨by rw [← hv.h, hv.mark], ht, h.same ht hA⟩
theorem kAt {v : Ver} (h : CS x nl p kb lb cp E c sb F s St it now head S (v :: L)) (t : Int) :
    Calls Try.prog 9 #[pp c, .pointer none, .int .i64 t] x fun e x' => e = .returned (atE (atV (v :: L) t)) ∧ Turned F x x' ∧ CS x' nl p kb lb cp E c sb F s St it now head S (v :: L) := by
  refine (cAt h.ca h.pv.ok h.vs (by have := h.room; simp at this; omega) t).mono ?_
  rintro e x' ⟨rfl, ht, hA⟩
  exact ⟨rfl, ht, h.same ht hA⟩
theorem kVersions (h : CS x nl p kb lb cp E c sb F s St it now head S L) :
    Calls Try.prog 16 #[pp c] x fun e x' => ∃ v, e = .returned v ∧ IR x.heap.size x' v (L.map (·.h)) ∧ Turned F x x' ∧ CS x' nl p kb lb cp E c sb F s St it now head S L := by
  refine (cVersions h.ca h.pv.ok h.vs (by have := h.room; omega)).mono ?_
  rintro e x' ⟨v, rfl, hi, ht, hA⟩
  exact ⟨v, rfl, hi, ht, h.same ht hA⟩
theorem kSet (h : CS x nl p kb lb cp E c sb F s St it now head S L) {v : Ver} (hv : v ∈ L) (hl : (setOf S v).length ≤ 10000) :
    Calls Try.prog 19 #[pp c, .int .i64 v.h] x fun e x' => ∃ u, e = .returned u ∧ IR x.heap.size x' u (setOf S v) ∧ Turned F x x' ∧ CS x' nl p kb lb cp E c sb F s St it now head S L := by
  obtain ⟨i, hi⟩ := h.vs.mem hv
  unfold setOf at *
  rw [plc_of hi] at *
  refine (cSet h.ca h.pv.ok hi (fun r hr => by rw [(h.own i r hi.i2 hr).2, hi.h]) hl).mono ?_
  rintro e x' ⟨u, rfl, hir, ht, hA⟩
  exact ⟨u, rfl, hir, ht, h.same ht hA⟩
theorem kRead (h : CS x nl p kb lb cp E c sb F s St it now head S L) {v : Ver} (hv : v ∈ L) :
    Calls Try.prog 18 #[pp p, .pointer none, .int .i64 v.h] x fun e x' => ∃ nb nc nd, e = .returned (.tuple #[.agg #[.int .i64 v.a, .int .i64 nb, .int .i64 nc, .int .i64 nd], .int .i64 0]) ∧ Turned F x x' ∧ CS x' nl p kb lb cp E c sb F s St it now head S L := by
  obtain ⟨i, hi⟩ := h.vs.mem hv
  have := poolLaws.read h.ca.pool h.pv.ok hi.i1 hi.i2 hi.g0 (by have := hi.g1; omega) hi.odd rfl
  rw [← hi.h, hi.a] at this
  refine this.mono ?_
  rintro e x' ⟨rfl, ht, hA⟩
  exact ⟨_, _, _, rfl, ht, h.same ht (h.ca.step ht hA rfl)⟩
theorem kFree (h : CS x nl p kb lb cp E c sb F s St it now head S L) :
    Calls Try.prog 17 #[pp p] x fun e x' => (∃ a c, e = .returned (.slice a St.length c)) ∧ Turned F x x' ∧ CS x' nl p kb lb cp E c sb F s St it now head S L := by
  refine (poolLaws.free h.ca.pool h.pv.ok h.pv.top h.pv.nodup h.pv.small).mono ?_
  rintro e x' ⟨he, ht, hA⟩
  exact ⟨he, ht, h.same ht (h.ca.step ht hA rfl)⟩
theorem kFaults (h : CS x nl p kb lb cp E c sb F s St it now head S L) :
    Calls Try.prog 20 #[pp p] x fun e x' => e = .returned (.int .i64 0) ∧ Turned F x x' := by
  refine (poolLaws.faults h.ca.pool).mono ?_
  rintro e x' ⟨rfl, ht, hA⟩
  exact ⟨by rw [h.fa], ht⟩
theorem kCutNone {v : Ver} {pre : List Ver} (h : CS x nl p kb lb cp E c sb F s St it now head S (pre ++ [v])) :
    Calls Try.prog 13 #[pp c, .pointer none, .int .i64 v.h] x fun e x' => e = .returned (.tuple #[.int .i64 0, .slice none 0 0, .int .i64 0]) ∧ Turned F x x' ∧ ∃ s', CS x' nl p kb lb cp E c sb F s' St it now head S (pre ++ [v]) ∧ s'.n = s.n := by
  obtain ⟨i, hi, hr⟩ := h.vs.at_
  refine (cCutNone h.ca h.pv.ok hi hr).mono ?_
  rintro e x' ⟨rfl, ht, hA⟩
  exact ⟨rfl, ht, _, ⟨hA, h.keepClk ht (fun z hz => .inr (.inr hz)), h.nE, h.pv.turn rfl rfl rfl (gen_putLink _ _ _), h.fa, h.vs.cut h.nd hi, h.nd, h.room, fun j r hj hr => by rw [gen_putLink]; exact h.own j r hj hr, h.pos⟩, rfl⟩
/-- What Cut answered of a set. -/
structure CutV (x' : World) (sb n : Nat) (S S' : Nat → Option SRec) (v : Ver) (u : Value) : Prop where
  row : IR 0 x' u (setOf S v)
  out : ∀ g, u.ownBlock = some g → g ∉ setB S' n ∧ ∃ k r, S k = some r ∧ k ≤ n ∧ g = r.g
theorem kCut {v z : Ver} {pre post : List Ver} (h : CS x nl p kb lb cp E c sb F s St it now head S (pre ++ v :: z :: post)) :
    Calls Try.prog 13 #[pp c, .pointer none, .int .i64 v.h] x fun e x' => ∃ u, e = .returned (.tuple #[.int .i64 z.h, u, .int .i64 0]) ∧ Turned (c :: sb :: F) x x' ∧ ∃ s' S', CS x' nl p kb lb cp E c sb F s' St it now head S' (pre ++ [v]) ∧ s'.n = s.n ∧ CutV x' sb s.n S S' v u ∧ setOf S' v = [] ∧ (∀ u ∈ pre, setOf S' u = setOf S u) ∧ (∀ k r, S' k = some r → S k = some r) := by
  obtain ⟨i, hi, j, hj, hjh, -⟩ := h.vs.at_
  have hSv : setOf S v = setL (S i) := by unfold setOf; rw [plc_of hi]
  refine (cCut h.ca h.pv.ok hi hjh.symm hj.nz (fun r hr => by rw [(h.own i r hi.i2 hr).2, hi.h])).mono ?_
  rintro e x' ⟨u, rfl, ht, hA, hC⟩
  have hnd := h.nd
  have e1 : pre ++ v :: z :: post = (pre ++ [v]) ++ (z :: post) := by simp
  have hnd2 : ((pre ++ [v]).map (·.h)).Nodup := by
    rw [e1, List.map_append] at hnd
    exact (List.nodup_append.1 hnd).1
  have hsub : ∀ k r, upd S i none k = some r → S k = some r := fun k r hr => by
    by_cases e : k = i
    · subst e; rw [upd_same] at hr; cases hr
    · rwa [upd_other _ _ e] at hr
  refine ⟨u, rfl, ht.mono (fun y hy => by simp only [List.mem_cons] at hy ⊢; exact .inr hy), _, _, ⟨hA, h.keepClk ht (fun y hy => by simp only [List.mem_cons] at hy; exact .inr hy), h.nE, h.pv.turn rfl rfl rfl (gen_putLink _ _ _), h.fa, h.vs.cut hnd2 hi, hnd2, ?_, fun k r hk hr => by rw [gen_putLink]; exact h.own k r hk (hsub k r hr), h.pos⟩, rfl, ⟨by rw [hSv]; exact hC.row, fun g hg => ?_⟩, ?_, fun y hy => ?_, hsub⟩
  · have := h.room
    show (pre ++ [v]).length + St.length ≤ s.n
    simp at this ⊢; omega
  · obtain ⟨a1, r, a2, a3⟩ := hC.out g hg
    exact ⟨a1, i, r, a2, hi.i2, a3⟩
  · unfold setOf; rw [plc_of hi, upd_same]; rfl
  · obtain ⟨k, hk⟩ := h.vs.mem (show y ∈ pre ++ v :: z :: post by simp [hy])
    unfold setOf
    rw [plc_of hk, upd_other]
    intro e
    subst e
    have : y.h = v.h := by rw [hk.h, hi.h]
    rw [List.map_append, List.nodup_append] at hnd2
    exact hnd2.2.2 y.h (List.mem_map.2 ⟨y, hy, rfl⟩) v.h (by simp) this
end
end Go.Proofs.Ytaaibhgbkdnlbaa

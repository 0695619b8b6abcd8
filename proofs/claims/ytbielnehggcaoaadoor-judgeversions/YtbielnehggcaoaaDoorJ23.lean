/- A frame, spelled out. -/
import Derived.Test.YtbielnehggcaoaaDoorJ08
import Derived.Test.YtbielnehggcaoaaDoorJ22
namespace Go.Proofs.YtbielnehggcaoaaDoor
open Go.RowKit
def lit184 (c : Nat → Value) : Array Value := #[c 0, c 1, c 2, c 3, c 4, c 5, c 6, c 7, c 8, c 9, c 10, c 11, c 12, c 13, c 14, c 15, c 16, c 17, c 18, c 19, c 20, c 21, c 22, c 23, c 24, c 25, c 26, c 27, c 28, c 29, c 30, c 31, c 32, c 33, c 34, c 35, c 36, c 37, c 38, c 39, c 40, c 41, c 42, c 43, c 44, c 45, c 46, c 47, c 48, c 49, c 50, c 51, c 52, c 53, c 54, c 55, c 56, c 57, c 58, c 59, c 60, c 61, c 62, c 63, c 64, c 65, c 66, c 67, c 68, c 69, c 70, c 71, c 72, c 73, c 74, c 75, c 76, c 77, c 78, c 79, c 80, c 81, c 82, c 83, c 84, c 85, c 86, c 87, c 88, c 89, c 90, c 91, c 92, c 93, c 94, c 95, c 96, c 97, c 98, c 99, c 100, c 101, c 102, c 103, c 104, c 105, c 106, c 107, c 108, c 109, c 110, c 111, c 112, c 113, c 114, c 115, c 116, c 117, c 118, c 119, c 120, c 121, c 122, c 123, c 124, c 125, c 126, c 127, c 128, c 129, c 130, c 131, c 132, c 133, c 134, c 135, c 136, c 137, c 138, c 139, c 140, c 141, c 142, c 143, c 144, c 145, c 146, c 147, c 148, c 149, c 150, c 151, c 152, c 153, c 154, c 155, c 156, c 157, c 158, c 159, c 160, c 161, c 162, c 163, c 164, c 165, c 166, c 167, c 168, c 169, c 170, c 171, c 172, c 173, c 174, c 175, c 176, c 177, c 178, c 179, c 180, c 181, c 182, c 183]
set_option maxRecDepth 100000 in
theorem lit184_eq (c : Nat → Value) : lit184 c = ((List.range 184).map c).toArray := by rfl
theorem expand184 {a : Act} (hs : a.tmps.size = 184) (hd : a.defers = []) : ∃ c : Nat → Value, a = ⟨lit184 c, []⟩ ∧ ∀ s, c s = a.eval (.tmp s) := by
  refine ⟨fun s => a.tmps.getD s undef, ?_, fun s => rfl⟩
  obtain ⟨t, d⟩ := a
  simp only at hs hd
  subst hd
  congr 1
  rw [lit184_eq]
  refine Array.ext (by simp [hs]) fun i h1 h2 => ?_
  simp [Array.getD, h1]
theorem expand184d {a : Act} {ds : List Deferred} (hs : a.tmps.size = 184) (hd : a.defers = ds) : ∃ c : Nat → Value, a = ⟨lit184 c, ds⟩ ∧ ∀ s, c s = a.eval (.tmp s) := by
  refine ⟨fun s => a.tmps.getD s undef, ?_, fun s => rfl⟩
  obtain ⟨t, d⟩ := a
  simp only at hs hd
  subst hd
  congr 1
  rw [lit184_eq]
  refine Array.ext (by simp [hs]) fun i h1 h2 => ?_
  simp [Array.getD, h1]
end Go.Proofs.YtbielnehggcaoaaDoor
/-
  What a deed does alone, by the law's own switch. (By the verifier; no statement.)
-/
namespace Go.Proofs.YtbielnehggcaoaaDoor
open Go.RowKit
/-- Slots that the switch and what is behind it leave alone. -/
def keepL : List Nat := [0, 1, 2, 3, 4, 5, 6, 7, 8, 9, 10, 11, 12, 17, 18, 19, 20, 21, 22, 165, 166, 167, 168, 169, 170, 171, 172, 173, 174, 175, 176, 177, 178, 179, 180, 181, 182, 183]
set_option maxRecDepth 100000 in
set_option maxHeartbeats 6400000 in
theorem fit_sw {a : Act} {x : World} {K : Act → World → Prop} {Q : Exit → Act → World → Prop} {db : Nat} {d : Dd} {v : Int} (hs : a.tmps.size = 184) (hd : a.defers = []) (h1 : 1 ≤ d.k) (h7 : d.k ≤ 7) (p12 : a.eval (.tmp 12) = .pointer (some ⟨db, 0, none⟩)) (p13 : a.eval (.tmp 13) = .int .i64 v) (p14 : a.eval (.tmp 14) = .int .i64 v) (p15 : a.eval (.tmp 15) = .int .i64 0) (p16 : a.eval (.tmp 16) = .bool false)
    (hb : x.heap[db]? = some (.cells (dcs d).toArray 27 (0, 0)))
    (hK : ∀ a' n, a'.tmps.size = 184 → a'.defers = [] → (∀ s ∈ keepL, a'.eval (.tmp s) = a.eval (.tmp s)) → a'.eval (.tmp 14) = .int .i64 (d.next v) → a'.eval (.tmp 15) = .int .i64 (d.ans v) → a'.eval (.tmp 16) = .bool (d.did v) → K a' (x.drewN n)) :
    (atc Tryd.f16.body [1, 1, 1, 0, 1, 0, 0, 1, 0, 0, 1, 1, 1, 1, 1, 1, 1, 0]).wp Tryd.prog (Exit.then K Q) a x := by
  obtain ⟨bl, -, -, b2, -, b4, b5, -, -⟩ := cells8 hb
  have HK : Hid _ := hK
  clear hK hb
  obtain ⟨cc, hcc, hce⟩ := expand184 hs hd
  have q12 := (hce 12).trans p12
  have q13 := (hce 13).trans p13
  have q14 := (hce 14).trans p14
  have q15 := (hce 15).trans p15
  have q16 := (hce 16).trans p16
  clear hce p12 p13 p14 p15 p16 hs hd
  subst hcc
  have T13 : ∀ a' : Act, a'.eval (.tmp 0) = cc 0 → a'.eval (.tmp 1) = cc 1 → a'.eval (.tmp 2) = cc 2 → a'.eval (.tmp 3) = cc 3 → a'.eval (.tmp 4) = cc 4 → a'.eval (.tmp 5) = cc 5 → a'.eval (.tmp 6) = cc 6 → a'.eval (.tmp 7) = cc 7 → a'.eval (.tmp 8) = cc 8 → a'.eval (.tmp 9) = cc 9 → a'.eval (.tmp 10) = cc 10 → a'.eval (.tmp 11) = cc 11 → a'.eval (.tmp 12) = .pointer (some ⟨db, 0, none⟩) → a'.eval (.tmp 17) = cc 17 → a'.eval (.tmp 18) = cc 18 → a'.eval (.tmp 19) = cc 19 → a'.eval (.tmp 20) = cc 20 → a'.eval (.tmp 21) = cc 21 → a'.eval (.tmp 22) = cc 22 → a'.eval (.tmp 165) = cc 165 → a'.eval (.tmp 166) = cc 166 → a'.eval (.tmp 167) = cc 167 → a'.eval (.tmp 168) = cc 168 → a'.eval (.tmp 169) = cc 169 → a'.eval (.tmp 170) = cc 170 → a'.eval (.tmp 171) = cc 171 → a'.eval (.tmp 172) = cc 172 → a'.eval (.tmp 173) = cc 173 → a'.eval (.tmp 174) = cc 174 → a'.eval (.tmp 175) = cc 175 → a'.eval (.tmp 176) = cc 176 → a'.eval (.tmp 177) = cc 177 → a'.eval (.tmp 178) = cc 178 → a'.eval (.tmp 179) = cc 179 → a'.eval (.tmp 180) = cc 180 → a'.eval (.tmp 181) = cc 181 → a'.eval (.tmp 182) = cc 182 → a'.eval (.tmp 183) = cc 183 → ∀ s ∈ keepL, a'.eval (.tmp s) = (⟨lit184 cc, []⟩ : Act).eval (.tmp s) := by
    intro a' z0 z1 z2 z3 z4 z5 z6 z7 z8 z9 z10 z11 z12 z17 z18 z19 z20 z21 z22 z165 z166 z167 z168 z169 z170 z171 z172 z173 z174 z175 z176 z177 z178 z179 z180 z181 z182 z183 s hs
    simp only [keepL, List.mem_cons, List.not_mem_nil, or_false] at hs
    rcases hs with rfl | rfl | rfl | rfl | rfl | rfl | rfl | rfl | rfl | rfl | rfl | rfl | rfl | rfl | rfl | rfl | rfl | rfl | rfl | rfl | rfl | rfl | rfl | rfl | rfl | rfl | rfl | rfl | rfl | rfl | rfl | rfl | rfl | rfl | rfl | rfl | rfl | rfl
    · exact z0
    · exact z1
    · exact z2
    · exact z3
    · exact z4
    · exact z5
    · exact z6
    · exact z7
    · exact z8
    · exact z9
    · exact z10
    · exact z11
    · exact z12.trans q12.symm
    · exact z17
    · exact z18
    · exact z19
    · exact z20
    · exact z21
    · exact z22
    · exact z165
    · exact z166
    · exact z167
    · exact z168
    · exact z169
    · exact z170
    · exact z171
    · exact z172
    · exact z173
    · exact z174
    · exact z175
    · exact z176
    · exact z177
    · exact z178
    · exact z179
    · exact z180
    · exact z181
    · exact z182
    · exact z183
  have HT13 : Hid _ := T13
  clear T13
  conv => arg 2; whnf
  unfold lit184
  simp only [q12, q13, q14, q15, q16]
  rcases (by omega : d.k = 1 ∨ d.k = 2 ∨ d.k = 3 ∨ d.k = 4 ∨ d.k = 5 ∨ d.k = 6 ∨ d.k = 7) with g | g | g | g | g | g | g
  · rw [g] at b2
    go_wp2
    exact HK.out _ 0 rfl rfl (HT13.out _ rfl rfl rfl rfl rfl rfl rfl rfl rfl rfl rfl rfl rfl rfl rfl rfl rfl rfl rfl rfl rfl rfl rfl rfl rfl rfl rfl rfl rfl rfl rfl rfl rfl rfl rfl rfl rfl rfl) (by rw [show d.next v = v by simp [Dd.next, g]]; rfl) (by rw [show d.ans v = v by simp [Dd.ans, g]]; rfl) (by rw [show d.did v = false by simp [Dd.did, g]]; rfl)
  · rw [g] at b2
    go_wp2
    exact HK.out _ 0 rfl rfl (HT13.out _ rfl rfl rfl rfl rfl rfl rfl rfl rfl rfl rfl rfl rfl rfl rfl rfl rfl rfl rfl rfl rfl rfl rfl rfl rfl rfl rfl rfl rfl rfl rfl rfl rfl rfl rfl rfl rfl rfl) (by rw [show d.next v = d.x by simp [Dd.next, g]]; rfl) (by rw [show d.ans v = 0 by simp [Dd.ans, g]]; rfl) (by rw [show d.did v = false by simp [Dd.did, g]]; rfl)
  · rw [g] at b2
    go_wp2
    go_quiet (fail)
    go_wp2
    exact HK.out _ _ rfl rfl (HT13.out _ rfl rfl rfl rfl rfl rfl rfl rfl rfl rfl rfl rfl rfl rfl rfl rfl rfl rfl rfl rfl rfl rfl rfl rfl rfl rfl rfl rfl rfl rfl rfl rfl rfl rfl rfl rfl rfl rfl) (by rw [show d.next v = wrap64 (v + d.x) by simp [Dd.next, g]]; rfl) (by rw [show d.ans v = wrap64 (v + d.x) by simp [Dd.ans, g]]; rfl) (by rw [show d.did v = false by simp [Dd.did, g]]; rfl)
  · rw [g] at b2
    go_wp2
    exact HK.out _ 0 rfl rfl (HT13.out _ rfl rfl rfl rfl rfl rfl rfl rfl rfl rfl rfl rfl rfl rfl rfl rfl rfl rfl rfl rfl rfl rfl rfl rfl rfl rfl rfl rfl rfl rfl rfl rfl rfl rfl rfl rfl rfl rfl) (by rw [show d.next v = d.x by simp [Dd.next, g]]; rfl) (by rw [show d.ans v = v by simp [Dd.ans, g]]; rfl) (by rw [show d.did v = false by simp [Dd.did, g]]; rfl)
  · rw [g] at b2
    by_cases e : v = d.x
    · have e2 : (v == d.x) = true := by simpa using e
      go_wp2
      exact HK.out _ 0 rfl rfl (HT13.out _ rfl rfl rfl rfl rfl rfl rfl rfl rfl rfl rfl rfl rfl rfl rfl rfl rfl rfl rfl rfl rfl rfl rfl rfl rfl rfl rfl rfl rfl rfl rfl rfl rfl rfl rfl rfl rfl rfl) (by rw [show d.next v = d.c by simp [Dd.next, g, e]]; rfl) (by rw [show d.ans v = 0 by simp [Dd.ans, g]]; rfl) (by rw [show d.did v = true by simp [Dd.did, g, e]]; rfl)
    · have e2 : (v == d.x) = false := by simpa using e
      go_wp2
      exact HK.out _ 0 rfl rfl (HT13.out _ rfl rfl rfl rfl rfl rfl rfl rfl rfl rfl rfl rfl rfl rfl rfl rfl rfl rfl rfl rfl rfl rfl rfl rfl rfl rfl rfl rfl rfl rfl rfl rfl rfl rfl rfl rfl rfl rfl) (by rw [show d.next v = v by simp [Dd.next, g, e]]; rfl) (by rw [show d.ans v = 0 by simp [Dd.ans, g]]; rfl) (by rw [show d.did v = false by simp [Dd.did, g, e]]; rfl)
  · rw [g] at b2
    have hN : d.next v = max v d.x := by simp [Dd.next, g]
    have hA : d.ans v = max v d.x := by simp [Dd.ans, g]
    rcases (by omega : v < d.x ∨ ¬ v < d.x) with e | e
    · have hm : max v d.x = d.x := by omega
      go_wp2
      go_quiet (fail)
      go_wp2
      exact HK.out _ _ rfl rfl (HT13.out _ rfl rfl rfl rfl rfl rfl rfl rfl rfl rfl rfl rfl rfl rfl rfl rfl rfl rfl rfl rfl rfl rfl rfl rfl rfl rfl rfl rfl rfl rfl rfl rfl rfl rfl rfl rfl rfl rfl) (by rw [hN, hm]; rfl) (by rw [hA, hm]; rfl) (by rw [show d.did v = false by simp [Dd.did, g]]; rfl)
    · have hm : max v d.x = v := by omega
      go_wp2
      go_quiet (fail)
      go_wp2
      exact HK.out _ _ rfl rfl (HT13.out _ rfl rfl rfl rfl rfl rfl rfl rfl rfl rfl rfl rfl rfl rfl rfl rfl rfl rfl rfl rfl rfl rfl rfl rfl rfl rfl rfl rfl rfl rfl rfl rfl rfl rfl rfl rfl rfl rfl) (by rw [hN, hm]; rfl) (by rw [hA, hm]; rfl) (by rw [show d.did v = false by simp [Dd.did, g]]; rfl)
  · rw [g] at b2
    have hN : d.next v = min v d.x := by simp [Dd.next, g]
    have hA : d.ans v = min v d.x := by simp [Dd.ans, g]
    rcases (by omega : v < d.x ∨ ¬ v < d.x) with e | e
    · have hm : min v d.x = v := by omega
      go_wp2
      go_quiet (fail)
      go_wp2
      exact HK.out _ _ rfl rfl (HT13.out _ rfl rfl rfl rfl rfl rfl rfl rfl rfl rfl rfl rfl rfl rfl rfl rfl rfl rfl rfl rfl rfl rfl rfl rfl rfl rfl rfl rfl rfl rfl rfl rfl rfl rfl rfl rfl rfl rfl) (by rw [hN, hm]; rfl) (by rw [hA, hm]; rfl) (by rw [show d.did v = false by simp [Dd.did, g]]; rfl)
    · have hm : min v d.x = d.x := by omega
      go_wp2
      go_quiet (fail)
      go_wp2
      exact HK.out _ _ rfl rfl (HT13.out _ rfl rfl rfl rfl rfl rfl rfl rfl rfl rfl rfl rfl rfl rfl rfl rfl rfl rfl rfl rfl rfl rfl rfl rfl rfl rfl rfl rfl rfl rfl rfl rfl rfl rfl rfl rfl rfl rfl) (by rw [hN, hm]; rfl) (by rw [hA, hm]; rfl) (by rw [show d.did v = false by simp [Dd.did, g]]; rfl)
end Go.Proofs.YtbielnehggcaoaaDoor
/-
  Does a deed answer what it would alone? Its cell is written. (By the verifier; no statement.)
-/
namespace Go.Proofs.YtbielnehggcaoaaDoor
open Go.RowKit
set_option maxRecDepth 100000 in
set_option maxHeartbeats 6400000 in
theorem fit_tail {a : Act} {y : World} {Q : Exit → Act → World → Prop} {db cg cc0 m ix : Nat} {d : Dd} {v nx old : Int} (hs : a.tmps.size = 184) (hd : a.defers = []) (ha : d.a = (ix : Int)) (hix : ix < m) (p7 : a.eval (.tmp 7) = .slice (some ⟨cg, 0, none⟩) m cc0) (p12 : a.eval (.tmp 12) = .pointer (some ⟨db, 0, none⟩)) (p14 : a.eval (.tmp 14) = .int .i64 nx) (p15 : a.eval (.tmp 15) = .int .i64 (d.ans v)) (p16 : a.eval (.tmp 16) = .bool (d.did v))
    (hb : y.heap[db]? = some (.cells (dcs d).toArray 27 (0, 0))) (hcell : y.cell? ⟨cg, ix, none⟩ = some (.int .i64 old)) (hfr : y.frozen? ⟨cg, ix, none⟩ = false)
    (hN : d.fits v = true → ∀ a' : Act, a'.tmps.size = 184 → a'.defers = [] → (∀ s ∈ keepL, a'.eval (.tmp s) = a.eval (.tmp s)) → Q .normal a' (y.setCell ⟨cg, ix, none⟩ (.int .i64 nx)))
    (hF : d.fits v = false → ∀ a' : Act, a'.defers = [] → a'.eval (.tmp 6) = .bool false → Q .ret a' y) :
    (atc Tryd.f16.body [1, 1, 1, 0, 1, 0, 0, 1, 0, 0, 1, 1, 1, 1, 1, 1, 1, 1]).wp Tryd.prog Q a y := by
  obtain ⟨bl, -, b1, -, b3, -, -, b6, b7⟩ := cells8 hb
  rw [ha] at b3
  have HN : Hid _ := hN
  have HF : Hid _ := hF
  clear hN hF hb ha
  obtain ⟨cc, hcc, hce⟩ := expand184 hs hd
  have q7 := (hce 7).trans p7
  have q12 := (hce 12).trans p12
  have q14 := (hce 14).trans p14
  have q15 := (hce 15).trans p15
  have q16 := (hce 16).trans p16
  clear hce p7 p12 p14 p15 p16 hs hd
  subst hcc
  have T13 : ∀ a' : Act, a'.eval (.tmp 0) = cc 0 → a'.eval (.tmp 1) = cc 1 → a'.eval (.tmp 2) = cc 2 → a'.eval (.tmp 3) = cc 3 → a'.eval (.tmp 4) = cc 4 → a'.eval (.tmp 5) = cc 5 → a'.eval (.tmp 6) = cc 6 → a'.eval (.tmp 7) = .slice (some ⟨cg, 0, none⟩) m cc0 → a'.eval (.tmp 8) = cc 8 → a'.eval (.tmp 9) = cc 9 → a'.eval (.tmp 10) = cc 10 → a'.eval (.tmp 11) = cc 11 → a'.eval (.tmp 12) = .pointer (some ⟨db, 0, none⟩) → a'.eval (.tmp 17) = cc 17 → a'.eval (.tmp 18) = cc 18 → a'.eval (.tmp 19) = cc 19 → a'.eval (.tmp 20) = cc 20 → a'.eval (.tmp 21) = cc 21 → a'.eval (.tmp 22) = cc 22 → a'.eval (.tmp 165) = cc 165 → a'.eval (.tmp 166) = cc 166 → a'.eval (.tmp 167) = cc 167 → a'.eval (.tmp 168) = cc 168 → a'.eval (.tmp 169) = cc 169 → a'.eval (.tmp 170) = cc 170 → a'.eval (.tmp 171) = cc 171 → a'.eval (.tmp 172) = cc 172 → a'.eval (.tmp 173) = cc 173 → a'.eval (.tmp 174) = cc 174 → a'.eval (.tmp 175) = cc 175 → a'.eval (.tmp 176) = cc 176 → a'.eval (.tmp 177) = cc 177 → a'.eval (.tmp 178) = cc 178 → a'.eval (.tmp 179) = cc 179 → a'.eval (.tmp 180) = cc 180 → a'.eval (.tmp 181) = cc 181 → a'.eval (.tmp 182) = cc 182 → a'.eval (.tmp 183) = cc 183 → ∀ s ∈ keepL, a'.eval (.tmp s) = (⟨lit184 cc, []⟩ : Act).eval (.tmp s) := by
    intro a' z0 z1 z2 z3 z4 z5 z6 z7 z8 z9 z10 z11 z12 z17 z18 z19 z20 z21 z22 z165 z166 z167 z168 z169 z170 z171 z172 z173 z174 z175 z176 z177 z178 z179 z180 z181 z182 z183 s hs
    simp only [keepL, List.mem_cons, List.not_mem_nil, or_false] at hs
    rcases hs with rfl | rfl | rfl | rfl | rfl | rfl | rfl | rfl | rfl | rfl | rfl | rfl | rfl | rfl | rfl | rfl | rfl | rfl | rfl | rfl | rfl | rfl | rfl | rfl | rfl | rfl | rfl | rfl | rfl | rfl | rfl | rfl | rfl | rfl | rfl | rfl | rfl | rfl
    · exact z0
    · exact z1
    · exact z2
    · exact z3
    · exact z4
    · exact z5
    · exact z6
    · exact z7.trans q7.symm
    · exact z8
    · exact z9
    · exact z10
    · exact z11
    · exact z12.trans q12.symm
    · exact z17
    · exact z18
    · exact z19
    · exact z20
    · exact z21
    · exact z22
    · exact z165
    · exact z166
    · exact z167
    · exact z168
    · exact z169
    · exact z170
    · exact z171
    · exact z172
    · exact z173
    · exact z174
    · exact z175
    · exact z176
    · exact z177
    · exact z178
    · exact z179
    · exact z180
    · exact z181
    · exact z182
    · exact z183
  have HT13 : Hid _ := T13
  clear T13
  conv => arg 2; whnf
  unfold lit184
  simp only [q7, q12, q14, q15, q16]
  have HFt : Hid (d.fits v = (decide (d.e = 0) || (decide (d.ans v = d.n) && decide (d.did v = d.ok)))) := rfl
  rcases (by omega : d.e = 0 ∨ d.e ≠ 0) with g | g
  · have HT : Hid (d.fits v = true) := by rw [Hid, HFt.out, decide_eq_true g]; rfl
    rw [g] at b1
    go_wp2
    exact HN.out HT.out _ rfl rfl (HT13.out _ rfl rfl rfl rfl rfl rfl rfl rfl rfl rfl rfl rfl rfl rfl rfl rfl rfl rfl rfl rfl rfl rfl rfl rfl rfl rfl rfl rfl rfl rfl rfl rfl rfl rfl rfl rfl rfl rfl)
  · have g1 : (d.e != 0) = true := by simpa using g
    rcases (by omega : d.ans v = d.n ∨ d.ans v ≠ d.n) with g2 | g2
    · have g3 : (d.ans v != d.n) = false := by simpa using g2
      have HFa : Hid (d.fits v = decide (d.did v = d.ok)) := by rw [Hid, HFt.out, decide_eq_false g, decide_eq_true g2]; simp
      clear g2 HFt
      cases hdd : d.did v with
      | true =>
        cases hkk : d.ok with
        | true =>
          have HT : Hid (d.fits v = true) := by rw [Hid, HFa.out, hdd, hkk]; rfl
          rw [hkk] at b7
          clear hdd hkk
          go_wp2
          exact HN.out HT.out _ rfl rfl (HT13.out _ rfl rfl rfl rfl rfl rfl rfl rfl rfl rfl rfl rfl rfl rfl rfl rfl rfl rfl rfl rfl rfl rfl rfl rfl rfl rfl rfl rfl rfl rfl rfl rfl rfl rfl rfl rfl rfl rfl)
        | false =>
          have HT : Hid (d.fits v = false) := by rw [Hid, HFa.out, hdd, hkk]; rfl
          rw [hkk] at b7
          clear hdd hkk
          go_wp2
          exact HF.out HT.out _ rfl rfl
      | false =>
        cases hkk : d.ok with
        | false =>
          have HT : Hid (d.fits v = true) := by rw [Hid, HFa.out, hdd, hkk]; rfl
          rw [hkk] at b7
          clear hdd hkk
          go_wp2
          exact HN.out HT.out _ rfl rfl (HT13.out _ rfl rfl rfl rfl rfl rfl rfl rfl rfl rfl rfl rfl rfl rfl rfl rfl rfl rfl rfl rfl rfl rfl rfl rfl rfl rfl rfl rfl rfl rfl rfl rfl rfl rfl rfl rfl rfl rfl)
        | true =>
          have HT : Hid (d.fits v = false) := by rw [Hid, HFa.out, hdd, hkk]; rfl
          rw [hkk] at b7
          clear hdd hkk
          go_wp2
          exact HF.out HT.out _ rfl rfl
    · have g3 : (d.ans v != d.n) = true := by simpa using g2
      have HT : Hid (d.fits v = false) := by rw [Hid, HFt.out, decide_eq_false g, decide_eq_false g2]; simp
      go_wp2
      exact HF.out HT.out _ rfl rfl
end Go.Proofs.YtbielnehggcaoaaDoor

/- The document's words (skeinref1): the same numbers as the program's. -/
import Derived.Test.YtjbhnpofdafmbaaGreatDoorRows
import Derived.Test.YtjbhnpofdafmbaaGreatDoorJ01
import Derived.WalkKit
import Derived.WalkSpells
import Derived.WalkLawsBesides
import Derived.Test.YtjbhnpofdafmbaaGreatDoorJ28
import Derived.Test.YtjbhnpofdafmbaaGreatDoorJ06
import Derived.Test.YtjbhnpofdafmbaaGreatDoorJ03
import Derived.Test.YtjbhnpofdafmbaaGreatDoorJ26
import Derived.Test.YtjbhnpofdafmbaaGreatDoorJ15
import Derived.Test.YtjbhnpofdafmbaaGreatDoorJ27
import Derived.Test.YtjbhnpofdafmbaaGreatDoorJ21
import Derived.Test.YtjbhnpofdafmbaaGreatDoorJ13
namespace Go.Proofs.YtjbhnpofdafmbaaGreatDoor
open Go.RowKit
theorem rIsWord (x : Int) (w : World) : Calls Tryz.prog 122 #[.int .i64 x] w fun e w' => e = .returned (.bool (decide (0 ≤ x ∧ x ≤ 1152921504606846975))) ∧ w' = w := by
  rcases (by omega : x < 0 ∨ 1152921504606846975 < x ∨ (0 ≤ x ∧ x ≤ 1152921504606846975)) with h | h | ⟨h0, h1⟩
  · rw [decide_eq_false (by omega)]
    go_enter Tryz.func122, Tryz.ntmps122
    go_wp2
    go_ret
    exact ⟨rfl, rfl⟩
  · rw [decide_eq_false (by omega)]
    have hd : decide (x < 1152921504606846976) = false := decide_eq_false (by omega)
    go_enter Tryz.func122, Tryz.ntmps122
    go_wp2
    go_ret
    exact ⟨rfl, rfl⟩
  · rw [decide_eq_true (by omega)]
    have hd : decide (x < 1152921504606846976) = true := decide_eq_true (by omega)
    go_enter Tryz.func122, Tryz.ntmps122
    go_wp2
    go_ret
    exact ⟨rfl, rfl⟩
theorem rIsWord_of {x : Int} {b : Bool} (h : decide (0 ≤ x ∧ x ≤ 1152921504606846975) = b) (w : World) : Calls Tryz.prog 122 #[.int .i64 x] w fun e w' => e = .returned (.bool b) ∧ w' = w := by
  have := rIsWord x w
  rwa [h] at this
theorem rPack (i t : Int) (w : World) :
    Calls Tryz.prog 74 #[.int .i64 i, .int .i64 t] w fun e w' => e = .returned (.tuple #[.int .i64 (packV i t), .int .i64 (packE i t)]) ∧ w' = w := by
  rcases (by omega : i < 0 ∨ 1048575 < i ∨ (0 ≤ i ∧ i ≤ 1048575 ∧ t < 0) ∨ (0 ≤ i ∧ i ≤ 1048575 ∧ 1099511627775 < t) ∨ (0 ≤ i ∧ i ≤ 1048575 ∧ 0 ≤ t ∧ t ≤ 1099511627775)) with h | h | ⟨h0, h1, h⟩ | ⟨h0, h1, h⟩ | ⟨h0, h1, h2, h3⟩
  · rw [(pack_badI i t (.inl h)).1, (pack_badI i t (.inl h)).2]
    go_enter Tryz.func74, Tryz.ntmps74
    go_wp2
    go_ret2
    exact ⟨rfl, rfl⟩
  · rw [(pack_badI i t (.inr h)).1, (pack_badI i t (.inr h)).2]
    go_enter Tryz.func74, Tryz.ntmps74
    go_wp2
    go_ret2
    exact ⟨rfl, rfl⟩
  · rw [(pack_badT i t h0 h1 (.inl h)).1, (pack_badT i t h0 h1 (.inl h)).2]
    go_enter Tryz.func74, Tryz.ntmps74
    go_wp2
    go_ret2
    exact ⟨rfl, rfl⟩
  · rw [(pack_badT i t h0 h1 (.inr h)).1, (pack_badT i t h0 h1 (.inr h)).2]
    go_enter Tryz.func74, Tryz.ntmps74
    go_wp2
    go_ret2
    exact ⟨rfl, rfl⟩
  · rw [(pack_ok i t h0 h1 h2 h3).1, (pack_ok i t h0 h1 h2 h3).2]
    go_enter Tryz.func74, Tryz.ntmps74
    go_wp2
    go_ret2
    exact ⟨rfl, rfl⟩
theorem rIndex (x : Int) (w : World) :
    Calls Tryz.prog 118 #[.int .i64 x] w fun e w' => e = .returned (.int .i64 (idxV x)) ∧ w' = w := by
  by_cases h : 0 ≤ x ∧ x ≤ 1152921504606846975
  · rw [idx_ok x h.1 h.2]
    obtain ⟨h0, h1⟩ := h
    go_enter Tryz.func118, Tryz.ntmps118
    go_wp2_with (go_at_call 122; refine (rIsWord_of (decide_eq_true ⟨h0, h1⟩) _).mono ?_; rintro e w' ⟨rfl, rfl⟩)
    go_ret
    exact ⟨rfl, rfl⟩
  · rw [idx_bad x (by omega)]
    go_enter Tryz.func118, Tryz.ntmps118
    go_wp2_with (go_at_call 122; refine (rIsWord_of (decide_eq_false h) _).mono ?_; rintro e w' ⟨rfl, rfl⟩)
    go_ret
    exact ⟨rfl, rfl⟩
theorem rTag (x : Int) (w : World) :
    Calls Tryz.prog 79 #[.int .i64 x] w fun e w' => e = .returned (.int .i64 (tagV x)) ∧ w' = w := by
  by_cases h : 0 ≤ x ∧ x ≤ 1152921504606846975
  · rw [tag_ok x h.1 h.2]
    obtain ⟨h0, h1⟩ := h
    go_enter Tryz.func79, Tryz.ntmps79
    go_wp2_with (go_at_call 122; refine (rIsWord_of (decide_eq_true ⟨h0, h1⟩) _).mono ?_; rintro e w' ⟨rfl, rfl⟩)
    go_ret
    exact ⟨rfl, rfl⟩
  · rw [tag_bad x (by omega)]
    go_enter Tryz.func79, Tryz.ntmps79
    go_wp2_with (go_at_call 122; refine (rIsWord_of (decide_eq_false h) _).mono ?_; rintro e w' ⟨rfl, rfl⟩)
    go_ret
    exact ⟨rfl, rfl⟩
set_option maxRecDepth 100000 in
theorem rNext_ok (x i : Int) (w : World) (h0 : 0 ≤ i) (h1 : i ≤ 1048575) (h2 : 0 ≤ x) (h3 : x ≤ 1152921504606846975) :
    Calls Tryz.prog 119 #[.int .i64 x, .int .i64 i] w fun e w' => e = .returned (.tuple #[.int .i64 (nextV x i), .int .i64 (nextE x i)]) ∧ w' = w := by
  have hp := rPack i ((x + 1) % 1099511627776) w
  rw [(pack_ok i _ h0 h1 (by omega) (by omega)).1, (pack_ok i _ h0 h1 (by omega) (by omega)).2] at hp
  have ht := rTag x w
  rw [tag_ok x h2 h3] at ht
  rw [(next_ok x i h0 h1 h2 h3).1, (next_ok x i h0 h1 h2 h3).2, show (x % 1099511627776 + 1) % 1099511627776 = (x + 1) % 1099511627776 by omega]
  go_enter Tryz.func119, Tryz.ntmps119
  go_wp2_with (first
    | (go_at_call 122; refine (rIsWord_of (decide_eq_true ⟨h2, h3⟩) _).mono ?_; rintro e w' ⟨rfl, rfl⟩)
    | (go_at_call 79; refine ht.mono ?_; rintro e w' ⟨rfl, rfl⟩)
    | (go_at_call 74; refine hp.mono ?_; rintro e w' ⟨rfl, rfl⟩))
  go_ret2
  exact ⟨rfl, rfl⟩
end Go.Proofs.YtjbhnpofdafmbaaGreatDoor
/- The document's pile alone (skeinref8): Pop. -/
namespace Go.Proofs.YtjbhnpofdafmbaaGreatDoor
open Go.RowKit
/-- The document's pile: where its words are. -/
def RPile (w : World) (pb mb hd nx n : Nat) : Prop := w.heap[pb]? = some (.cells #[.pointer (some ⟨mb, 0, none⟩), .int .i64 (hd : Nat), .int .i64 (nx : Nat), .int .i64 (n : Nat)] 181 (0, 0))
section
variable {tb mb g c c' N pb hd nx n : Nat} {w w' w2 : World} {ws : Nat → Int} {l T T' : List Nat}
theorem RPile.out (h : RPile w pb mb hd nx n) (hT : Th T w tb mb c) : pb ∉ T := hT.ty h (by decide) (by decide)
theorem RPile.did (h : RPile w pb mb hd nx n) (hT : Th T w tb mb c) (hd' : Did l T w tb mb c' T' w') (hl : pb ∉ l) : RPile w' pb mb hd nx n := (hd'.turned.block pb (lt_of_heap h) (by simp [hl, h.out hT])).trans h
theorem RPile.c1 (h : RPile w pb mb hd nx n) : w.cell? ⟨pb, 1, none⟩ = some (.int .i64 (hd : Nat)) := by
  have := cell_at h 1
  simpa using this
theorem RPile.c2 (h : RPile w pb mb hd nx n) : w.cell? ⟨pb, 2, none⟩ = some (.int .i64 (nx : Nat)) := by
  have := cell_at h 2
  simpa using this
theorem RPile.c0 (h : RPile w pb mb hd nx n) : w.cell? ⟨pb, 0, none⟩ = some (.pointer (some ⟨mb, 0, none⟩)) := by
  have := cell_at h 0
  simpa using this
theorem RPile.c3 (h : RPile w pb mb hd nx n) : w.cell? ⟨pb, 3, none⟩ = some (.int .i64 (n : Nat)) := by
  have := cell_at h 3
  simpa using this
set_option maxRecDepth 100000 in
set_option maxHeartbeats 1600000 in
theorem cRPop0 (hT : Th T w tb mb c) (hM : MemAt w mb g N ws) (hP : RPile w pb mb hd nx n) (hc : c ≤ 800000) (hg : g ∉ T) (hhd : hd < N) (hi : idxV (ws hd) = 0) :
    Calls Tryz.prog 70 #[.pointer (some ⟨pb, 0, none⟩), .pointer (some ⟨tb, 0, none⟩)] w fun e w' => e = .returned (.int .i64 0) ∧ ∃ T', Did [] T w tb mb (c + 2) T' w' := by
  have HL := cRLoad hT hM (by omega) hg hhd
  have HI := rIndex (ws hd)
  rw [hi] at HI
  have p1 := hP.c1
  clear hT hM hP
  go_enter Tryz.func70, Tryz.ntmps70
  go_wp2
  refine wp_loop_once ?_
  go_wp2_with (first
    | (go_at_call 117; refine HL.mono ?_; rintro e w1 ⟨rfl, T1, d1⟩; have o1 := d1.th.m2; have HD1 : Hid _ := d1; clear d1)
    | (go_at_call 118; refine (HI _).mono ?_; rintro e w' ⟨rfl, rfl⟩))
  go_ret
  exact ⟨rfl, _, HD1.out⟩
set_option maxRecDepth 100000 in
set_option maxHeartbeats 1600000 in
theorem cRPop {i : Nat} {k : Int} (hT : Th T w tb mb c) (hM : MemAt w mb g N ws) (hP : RPile w pb mb hd nx n) (hc : c ≤ 800000) (hg : g ∉ T) (hhd : hd < N) (hi : idxV (ws hd) = (i : Nat)) (hi0 : i ≠ 0) (hin : nx + i < N) (hN : N ≤ 1000000) (hk : ws (nx + i) = k) (k0 : 0 ≤ k) (k1 : k ≤ 1048575) (w0 : 0 ≤ ws hd) (w1 : ws hd ≤ 1152921504606846975) :
    Calls Tryz.prog 70 #[.pointer (some ⟨pb, 0, none⟩), .pointer (some ⟨tb, 0, none⟩)] w fun e w' => e = .returned (.int .i64 (i : Nat)) ∧ MemAt w' mb g N (updI ws hd (nextV (ws hd) k)) ∧ ∃ T', Did [g] T w tb mb (c + 6) T' w' := by
  have HL := cRLoad hT hM (by omega) hg hhd
  have HI := rIndex (ws hd)
  rw [hi] at HI
  have HN := fun w => rNext_ok (ws hd) k w k0 k1 w0 w1
  have p1 := hP.c1
  have p2 := hP.c2
  have hz : ((i : Int) == 0) = false := by simp; omega
  have EA : Hid (((nx + i : Nat) : Int) = (nx : Int) + (i : Int)) := by show ((nx + i : Nat) : Int) = (nx : Int) + (i : Int); omega
  have HM : Hid _ := hM
  have HP : Hid _ := hP
  have HT : Hid _ := hT
  clear hT hM hP
  go_enter Tryz.func70, Tryz.ntmps70
  go_wp2
  refine wp_loop_once ?_
  go_wp2_with (first
    | (go_at_call 117; refine HL.mono ?_; clear HL p1 p2; rintro e x1 ⟨rfl, T1, d1⟩; obtain ⟨m1, hg1⟩ := HM.out.did HT.out hg d1; have q1 := RPile.did HP.out HT.out d1 (by simp); have p2 := RPile.c2 q1; have o1 := d1.th.m2; have HL2 := cRLoad d1.th m1 (by omega) hg1 hin; rw [hk, EA.out] at HL2; have HD1 : Hid _ := d1; have HM1 : Hid _ := m1; have HP1 : Hid _ := q1; have HG1 : Hid _ := hg1; clear d1 m1 q1 hg1 HM HP HT)
    | (go_at_call 118; refine (HI _).mono ?_; rintro e w' ⟨rfl, rfl⟩)
    | (go_at_call 117; refine HL2.mono ?_; clear HL2 p2 o1; rintro e x2 ⟨rfl, T2, d2⟩; obtain ⟨m2, hg2⟩ := HM1.out.did HD1.out.th HG1.out d2; have q2 := RPile.did HP1.out HD1.out.th d2 (by simp); have p1 := RPile.c1 q2; have o2 := d2.th.m2; have HC := cRCas (v := nextV (ws hd) k) (rfl : ws hd = ws hd) d2.th m2 (by omega) hg2 hhd; have HLL : Hid _ := HD1.out.trans d2; clear d2 m2 q2 hg2 HM1 HP1 HD1 HG1)
    | (go_at_call 119; refine (HN _).mono ?_; rintro e w' ⟨rfl, rfl⟩)
    | (go_at_call 80; refine HC.mono ?_; clear HC p1 o2; rintro e x3 ⟨rfl, m3, T3, d3⟩; have o3 := d3.th.m2; have HD3 : Hid _ := d3; have HM3 : Hid _ := m3; clear m3 d3))
  go_ret
  exact ⟨rfl, HM3.out, _, (HLL.out.mono (by simp)).trans HD3.out⟩
end
end Go.Proofs.YtjbhnpofdafmbaaGreatDoor
/- A row of records in memory: n of them, of sz cells each. -/
namespace Go.Proofs.YtjbhnpofdafmbaaGreatDoor
open Go.RowKit
abbrev recObj (T : TypeId) (sz : Nat) (f : Nat → Nat → Value) (n : Nat) : Obj := .cells ((List.range (n * sz)).map fun t => f (t / sz) (t % sz)).toArray T (0, 0)
def upd2 (f : Nat → Nat → Value) (i j : Nat) (v : Value) : Nat → Nat → Value := fun a b => if a = i ∧ b = j then v else f a b
theorem rec_div {sz i j : Nat} (hj : j < sz) : (i * sz + j) / sz = i ∧ (i * sz + j) % sz = j := by
  have h0 : 0 < sz := by omega
  constructor
  · rw [Nat.mul_comm, Nat.mul_add_div h0, Nat.div_eq_of_lt hj]; rfl
  · rw [Nat.mul_comm, Nat.mul_add_mod, Nat.mod_eq_of_lt hj]
theorem rec_lt {sz i j n : Nat} (hi : i < n) (hj : j < sz) : i * sz + j < n * sz := by
  have : (i + 1) * sz ≤ n * sz := Nat.mul_le_mul_right _ hi
  rw [Nat.add_mul] at this
  omega
theorem rec_cell {w : World} {b n sz : Nat} {T : TypeId} {f : Nat → Nat → Value} (h : w.heap[b]? = some (recObj T sz f n)) {i j : Nat} (hi : i < n) (hj : j < sz) : w.cell? ⟨b, i * sz + j, none⟩ = some (f i j) := by
  rw [cell_at h, List.getElem?_toArray, List.getElem?_map, List.getElem?_range (rec_lt hi hj)]
  simp only [Option.map_some, (rec_div (i := i) hj).1, (rec_div (i := i) hj).2]
theorem rec_put {w : World} {b n sz : Nat} {T : TypeId} {f : Nat → Nat → Value} (h : w.heap[b]? = some (recObj T sz f n)) {i j : Nat} (hj : j < sz) (v : Value) : (w.setCell ⟨b, i * sz + j, none⟩ v).heap[b]? = some (recObj T sz (upd2 f i j v) n) := by
  rw [blk_set h]
  congr 2
  apply Array.ext
  · simp
  · intro t h1 h2
    simp only [List.size_toArray, List.length_map, List.length_range] at h2
    by_cases e : i * sz + j = t
    · subst e
      simp [upd2, (rec_div (i := i) hj).1, (rec_div (i := i) hj).2]
    · have e' : ¬ t = i * sz + j := fun x => e x.symm
      have : ¬ (t / sz = i ∧ t % sz = j) := fun ⟨a1, a2⟩ => e (by
        have := Nat.div_add_mod t sz
        rw [a1, a2, Nat.mul_comm] at this
        exact this)
      simp [upd2, e, this]
theorem rec_made (T : TypeId) (zs : Array Value) (n : Nat) : (.cells (madeCells zs (n * zs.size)) T : Obj) = recObj T zs.size (fun _ j => zs.getD j undef) n := by
  unfold recObj
  congr 1
  apply Array.ext
  · simp [madeCells]
  · intro i h1 h2
    simp only [List.size_toArray, List.length_map, List.length_range] at h2
    have h0 : 0 < zs.size := by
      rcases Nat.eq_zero_or_pos zs.size with e | e
      · rw [e] at h2; simp at h2
      · exact e
    have hm : i % zs.size < zs.size := Nat.mod_lt _ h0
    simp [madeCells, hm]
theorem upd2_same (f : Nat → Nat → Value) (i j : Nat) (v : Value) : upd2 f i j v i j = v := by simp [upd2]
theorem upd2_other (f : Nat → Nat → Value) {i j a b : Nat} (v : Value) (h : ¬ (a = i ∧ b = j)) : upd2 f i j v a b = f a b := by unfold upd2; rw [if_neg h]
theorem rec_congr {T : TypeId} {sz n : Nat} {f g : Nat → Nat → Value} (h0 : 0 < sz) (h : ∀ j k, k < sz → f j k = g j k) : recObj T sz f n = recObj T sz g n := by
  unfold recObj
  congr 2
  refine List.map_congr_left fun t _ => ?_
  exact h _ _ (Nat.mod_lt _ h0)
end Go.Proofs.YtjbhnpofdafmbaaGreatDoor
/- The document's pool in memory (skeinref10). -/
namespace Go.Proofs.YtjbhnpofdafmbaaGreatDoor
open Go.RowKit
/-- The document's words: the head, what is below each place, the generations. -/
def memF (s : PSt) (j : Nat) : Int := if j = 0 then s.h else if j < s.n + 2 then (s.f (j - 1) : Int) else (s.slot (j - (s.n + 2))).gen
structure RB where
  q : Nat
  p : Nat
  m : Nat
  g : Nat
  b : Nat
def RB.all (r : RB) : List Nat := [r.q, r.p, r.m, r.g, r.b]
def rfld (s : Slot) : Nat → Value
  | 0 => .int .i64 0
  | 1 => .int .i64 s.a
  | 2 => .int .i64 s.b
  | 3 => .int .i64 s.c
  | 4 => .int .i64 s.d
  | 5 => .int .i64 s.mark
  | _ => .int .i64 s.link
abbrev rpoolObj (r : RB) (n : Nat) (fa : Int) : Obj := .cells #[.pointer (some ⟨r.m, 0, none⟩), .pointer (some ⟨r.p, 0, none⟩), .int .i64 ((n + 2 : Nat) : Int), .int .i64 (n : Nat), .slice (some ⟨r.b, 0, none⟩) (n + 1) (n + 1), .int .i64 fa] 132 (0, 0)
structure RP (w : World) (r : RB) (s : PSt) : Prop where
  pool : w.heap[r.q]? = some (rpoolObj r s.n s.faults)
  pile : RPile w r.p r.m 0 1 s.n
  mem : MemAt w r.m r.g (2 * s.n + 3) (memF s)
  slots : w.heap[r.b]? = some (recObj 64 7 (fun i k => rfld (s.slot i) k) (s.n + 1))
section
variable {w w' w2 : World} {r : RB} {s s' : PSt} {i : Nat} {l : List Nat}
theorem memF_h (s : PSt) : memF s 0 = s.h := by simp [memF]
theorem memF_f (s : PSt) {k : Nat} (hk : k ≤ s.n) : memF s (1 + k) = (s.f k : Int) := by
  unfold memF
  rw [if_neg (by omega), if_pos (by omega), show 1 + k - 1 = k by omega]
theorem memF_g (s : PSt) (k : Nat) : memF s (s.n + 2 + k) = (s.slot k).gen := by
  unfold memF
  rw [if_neg (by omega), if_neg (by omega), show s.n + 2 + k - (s.n + 2) = k by omega]
theorem memF_setH (s : PSt) (v : Int) : memF { s with h := v } = updI (memF s) 0 v := by
  funext j
  simp only [memF, updI]
  by_cases e : j = 0
  · simp [e]
  · simp [e]
theorem memF_setF (s : PSt) {k : Nat} (hk : k ≤ s.n) (v : Nat) : memF { s with f := upd s.f k v } = updI (memF s) (1 + k) (v : Int) := by
  funext j
  simp only [memF, updI]
  by_cases e : j = 0
  · subst e
    simp only [if_true, if_neg (show ¬ 0 = 1 + k by omega)]
  · by_cases e2 : j = 1 + k
    · subst e2
      simp only [if_neg e, if_pos (show 1 + k < s.n + 2 by omega), if_true, show 1 + k - 1 = k by omega, upd_same]
    · simp only [if_neg e, if_neg e2]
      by_cases e3 : j < s.n + 2
      · simp only [if_pos e3, upd_other s.f v (show j - 1 ≠ k by omega)]
      · simp only [if_neg e3]
theorem memF_setG (s : PSt) (k : Nat) (S : Slot) : memF { s with slot := upd s.slot k S } = updI (memF s) (s.n + 2 + k) S.gen := by
  funext j
  simp only [memF, updI]
  by_cases e : j = 0
  · subst e
    simp only [if_true, if_neg (show ¬ 0 = s.n + 2 + k by omega)]
  · simp only [if_neg e]
    by_cases e3 : j < s.n + 2
    · simp only [if_pos e3, if_neg (show ¬ j = s.n + 2 + k by omega)]
    · simp only [if_neg e3]
      by_cases e2 : j = s.n + 2 + k
      · subst e2
        simp only [if_true, show s.n + 2 + k - (s.n + 2) = k by omega, upd_same]
      · simp only [if_neg e2, upd_other s.slot S (show j - (s.n + 2) ≠ k by omega)]
theorem RP.mObj (h : RP w r s) : ∃ cap : Nat, w.heap[r.m]? = some (.cells #[.slice (some ⟨r.g, 0, none⟩) (2 * s.n + 3) cap] 128 (0, 0)) := by
  obtain ⟨cap, cs, e1, e2, -⟩ := h.mem.ex
  exact ⟨cap, e1⟩
theorem RP.gObj (h : RP w r s) : ∃ cs : Array Value, w.heap[r.g]? = some (.cells cs 3 (0, 0)) := by
  obtain ⟨cap, cs, e1, e2, -⟩ := h.mem.ex
  exact ⟨cs, e2⟩
theorem RP.qg (h : RP w r s) : r.q ≠ r.g := by obtain ⟨cs, e⟩ := h.gObj; exact other_type h.pool e (by decide)
theorem RP.qb (h : RP w r s) : r.q ≠ r.b := other_type h.pool h.slots (by decide)
theorem RP.pg (h : RP w r s) : r.p ≠ r.g := by obtain ⟨cs, e⟩ := h.gObj; exact other_type h.pile e (by decide)
theorem RP.pb (h : RP w r s) : r.p ≠ r.b := other_type h.pile h.slots (by decide)
theorem RP.pq (h : RP w r s) : r.p ≠ r.q := other_type h.pile h.pool (by decide)
theorem RP.mg (h : RP w r s) : r.m ≠ r.g := by obtain ⟨cs, e⟩ := h.gObj; obtain ⟨cap, e1⟩ := h.mObj; exact other_type e1 e (by decide)
theorem RP.mb (h : RP w r s) : r.m ≠ r.b := by obtain ⟨cap, e1⟩ := h.mObj; exact other_type e1 h.slots (by decide)
theorem RP.mq (h : RP w r s) : r.m ≠ r.q := by obtain ⟨cap, e1⟩ := h.mObj; exact other_type e1 h.pool (by decide)
theorem RP.bg (h : RP w r s) : r.b ≠ r.g := by obtain ⟨cs, e⟩ := h.gObj; exact other_type h.slots e (by decide)
theorem RP.same (h : RP w r s) (hk : ∀ x, x ∈ r.all → w'.heap[x]? = w.heap[x]?) : RP w' r s := by
  obtain ⟨cap, cs, e1, e2, e3⟩ := h.mem.ex
  exact ⟨(hk _ (by simp [RB.all])).trans h.pool, (hk _ (by simp [RB.all])).trans h.pile, ⟨cap, cs, (hk _ (by simp [RB.all])).trans e1, (hk _ (by simp [RB.all])).trans e2, e3⟩, (hk _ (by simp [RB.all])).trans h.slots⟩
theorem RP.lt (h : RP w r s) : ∀ x, x ∈ r.all → x < w.heap.size := fun x hx => by
  obtain ⟨cap, cs, e1, e2, e3⟩ := h.mem.ex
  simp only [RB.all, List.mem_cons, List.not_mem_nil, or_false] at hx
  rcases hx with rfl | rfl | rfl | rfl | rfl
  · exact lt_of_heap h.pool
  · exact lt_of_heap h.pile
  · exact lt_of_heap e1
  · exact lt_of_heap e2
  · exact lt_of_heap h.slots
theorem RP.turned (h : RP w r s) (hk : Turned l w w') (hl : ∀ x, x ∈ l → x ∉ r.all) : RP w' r s := h.same fun x hx => hk.block x (h.lt x hx) (fun hm => hl x hm hx)
/-- The words alone turned. -/
theorem RP.words (h : RP w r s) (hk : ∀ x, x ∈ r.all → x ≠ r.g → w'.heap[x]? = w.heap[x]?) (hm : MemAt w' r.m r.g (2 * s.n + 3) (memF s')) (hn : s'.n = s.n) (hf : s'.faults = s.faults) (hs : ∀ i k, k < 7 → rfld (s'.slot i) k = rfld (s.slot i) k) : RP w' r s' := by
  have hb := hk
  refine ⟨?_, ?_, by rw [hn]; exact hm, ?_⟩
  · rw [hb _ (by simp [RB.all]) h.qg, h.pool, hn, hf]
  · rw [hn]
    exact (hb _ (by simp [RB.all]) h.pg).trans h.pile
  · rw [hb _ (by simp [RB.all]) h.bg, h.slots, hn]
    exact congrArg some (rec_congr (by decide) fun j k hk => (hs j k hk).symm)
theorem RP.c0 (h : RP w r s) : w.cell? ⟨r.q, 0, none⟩ = some (.pointer (some ⟨r.m, 0, none⟩)) := by
  have := cell_at h.pool 0
  simpa using this
theorem RP.c1 (h : RP w r s) : w.cell? ⟨r.q, 1, none⟩ = some (.pointer (some ⟨r.p, 0, none⟩)) := by
  have := cell_at h.pool 1
  simpa using this
theorem RP.c2 (h : RP w r s) : w.cell? ⟨r.q, 2, none⟩ = some (.int .i64 ((s.n : Int) + 2)) := by
  have := cell_at h.pool 2
  simpa using this
theorem RP.c3 (h : RP w r s) : w.cell? ⟨r.q, 3, none⟩ = some (.int .i64 (s.n : Nat)) := by
  have := cell_at h.pool 3
  simpa using this
theorem RP.c4 (h : RP w r s) : w.cell? ⟨r.q, 4, none⟩ = some (.slice (some ⟨r.b, 0, none⟩) (s.n + 1) (s.n + 1)) := by
  have := cell_at h.pool 4
  simpa using this
theorem RP.c5 (h : RP w r s) : w.cell? ⟨r.q, 5, none⟩ = some (.int .i64 s.faults) := by
  have := cell_at h.pool 5
  simpa using this
theorem RP.sl (h : RP w r s) (hi : i ≤ s.n) {k : Nat} (hk : k < 7) : w.cell? ⟨r.b, i * 7 + k, none⟩ = some (rfld (s.slot i) k) := rec_cell h.slots (by omega) hk
theorem RP.fault (h : RP w r s) : RP (w.setCell ⟨r.q, 5, none⟩ (.int .i64 (s.faults + 1))) r s.fault := by
  obtain ⟨cap, cs, e1, e2, e3⟩ := h.mem.ex
  exact ⟨(blk_set h.pool 5 _).trans (by simp [PSt.fault]), (blk_other h.pq _ _).trans h.pile, ⟨cap, cs, (blk_other h.mq _ _).trans e1, (blk_other h.qg.symm _ _).trans e2, e3⟩, (blk_other h.qb.symm _ _).trans h.slots⟩
/-- A slot's row is written; the words are as they are. -/
theorem RP.row (h : RP w r s) {w1 : World} {S : Slot} (hg : S.gen = (s.slot i).gen) (ho : ∀ x, x ≠ r.b → w1.heap[x]? = w.heap[x]?) (hb : w1.heap[r.b]? = some (recObj 64 7 (fun j k => rfld (upd s.slot i S j) k) (s.n + 1))) : RP w1 r { s with slot := upd s.slot i S } := by
  obtain ⟨cap, cs, e1, e2, e3, e4⟩ := h.mem.ex
  refine ⟨(ho _ h.qb).trans h.pool, (ho _ h.pb).trans h.pile, ⟨cap, cs, (ho _ h.mb).trans e1, (ho _ h.bg.symm).trans e2, e3, fun j hj => ?_⟩, hb⟩
  rw [memF_setG, e4 j hj, hg]
  unfold updI
  by_cases e : j = s.n + 2 + i
  · rw [if_pos e, e, memF_g]
  · rw [if_neg e]
theorem RP.putMark (h : RP w r s) (v : Int) : RP (w.setCell ⟨r.b, i * 7 + 5, none⟩ (.int .i64 v)) r (s.putMark i v) := by
  refine h.row (S := { s.slot i with mark := v }) rfl (fun x hx => blk_other hx _ _) ((rec_put h.slots (i := i) (j := 5) (by decide) _).trans (congrArg some (rec_congr (by decide) fun j k hk => ?_)))
  unfold upd2
  by_cases e : j = i
  · subst e
    rw [upd_same]
    match k, hk with
    | 0, _ => simp [rfld]
    | 1, _ => simp [rfld]
    | 2, _ => simp [rfld]
    | 3, _ => simp [rfld]
    | 4, _ => simp [rfld]
    | 5, _ => simp [rfld]
    | 6, _ => simp [rfld]
  · rw [upd_other _ _ e, if_neg (fun x => e x.1)]
theorem RP.putLink (h : RP w r s) (v : Int) : RP (w.setCell ⟨r.b, i * 7 + 6, none⟩ (.int .i64 v)) r (s.putLink i v) := by
  refine h.row (S := { s.slot i with link := v }) rfl (fun x hx => blk_other hx _ _) ((rec_put h.slots (i := i) (j := 6) (by decide) _).trans (congrArg some (rec_congr (by decide) fun j k hk => ?_)))
  unfold upd2
  by_cases e : j = i
  · subst e
    rw [upd_same]
    match k, hk with
    | 0, _ => simp [rfld]
    | 1, _ => simp [rfld]
    | 2, _ => simp [rfld]
    | 3, _ => simp [rfld]
    | 4, _ => simp [rfld]
    | 5, _ => simp [rfld]
    | 6, _ => simp [rfld]
  · rw [upd_other _ _ e, if_neg (fun x => e x.1)]
/-- All seven cells of a row. -/
def rowW (w : World) (b i : Nat) (S : Slot) : World := ((((((w.setCell ⟨b, i * 7, none⟩ (rfld S 0)).setCell ⟨b, i * 7 + 1, none⟩ (rfld S 1)).setCell ⟨b, i * 7 + 2, none⟩ (rfld S 2)).setCell ⟨b, i * 7 + 3, none⟩ (rfld S 3)).setCell ⟨b, i * 7 + 4, none⟩ (rfld S 4)).setCell ⟨b, i * 7 + 5, none⟩ (rfld S 5)).setCell ⟨b, i * 7 + 6, none⟩ (rfld S 6)
theorem rowW_other {b x : Nat} (hx : x ≠ b) (S : Slot) : (rowW w b i S).heap[x]? = w.heap[x]? := by
  unfold rowW
  rw [blk_other hx, blk_other hx, blk_other hx, blk_other hx, blk_other hx, blk_other hx, blk_other hx]
theorem RP.all7 (h : RP w r s) (S : Slot) (hg : S.gen = (s.slot i).gen) : RP (rowW w r.b i S) r { s with slot := upd s.slot i S } := by
  refine h.row hg (fun x hx => rowW_other hx S) ?_
  have h0 := rec_put h.slots (i := i) (j := 0) (by decide) (rfld S 0)
  have h1 := rec_put h0 (i := i) (j := 1) (by decide) (rfld S 1)
  have h2 := rec_put h1 (i := i) (j := 2) (by decide) (rfld S 2)
  have h3 := rec_put h2 (i := i) (j := 3) (by decide) (rfld S 3)
  have h4 := rec_put h3 (i := i) (j := 4) (by decide) (rfld S 4)
  have h5 := rec_put h4 (i := i) (j := 5) (by decide) (rfld S 5)
  have h6 := rec_put h5 (i := i) (j := 6) (by decide) (rfld S 6)
  refine h6.trans (congrArg some (rec_congr (by decide) fun j k hk => ?_))
  unfold upd2
  by_cases e : j = i
  · subst e
    rw [upd_same]
    match k, hk with
    | 0, _ => simp
    | 1, _ => simp
    | 2, _ => simp
    | 3, _ => simp
    | 4, _ => simp
    | 5, _ => simp
    | 6, _ => simp
  · rw [upd_other _ _ e]
    simp [e]
theorem rowW_turned {b : Nat} (S : Slot) : Turned [b] w (rowW w b i S) := by
  unfold rowW
  have m : b ∈ [b] ∨ w.heap.size ≤ b := .inl (by simp)
  exact (((((((Turned.refl [b] w).set m _ _).set m _ _).set m _ _).set m _ _).set m _ _).set m _ _).set m _ _
theorem RP.outT {T : List Nat} {tb c : Nat} (h : RP w r s) (hT : Th T w tb r.m c) (hg : r.g ∉ T) : ∀ x, x ∈ r.all → x ∉ T := fun x hx => by
  obtain ⟨cap, cs, e1, e2, e3⟩ := h.mem.ex
  simp only [RB.all, List.mem_cons, List.not_mem_nil, or_false] at hx
  rcases hx with rfl | rfl | rfl | rfl | rfl
  · exact hT.ty h.pool (by decide) (by decide)
  · exact hT.ty h.pile (by decide) (by decide)
  · exact hT.ty e1 (by decide) (by decide)
  · exact hg
  · exact hT.ty h.slots (by decide) (by decide)
/-- Lines that turned none of the pool's memory. -/
theorem RP.did {T T' : List Nat} {tb c c' : Nat} (h : RP w r s) (hT : Th T w tb r.m c) (hg : r.g ∉ T) (hd : Did [] T w tb r.m c' T' w') : RP w' r s ∧ r.g ∉ T' :=
  ⟨h.turned hd.turned (fun x hx hm => h.outT hT hg x hm (by simpa using hx)), hd.wide.out h.mem.ltg hg⟩
/-- Lines that turned its words. -/
theorem RP.didG {T T' : List Nat} {tb c c' : Nat} (h : RP w r s) (hT : Th T w tb r.m c) (hg : r.g ∉ T) (hd : Did [r.g] T w tb r.m c' T' w') (hm : MemAt w' r.m r.g (2 * s.n + 3) (memF s')) (hn : s'.n = s.n) (hf : s'.faults = s.faults) (hs : ∀ i k, k < 7 → rfld (s'.slot i) k = rfld (s.slot i) k) : RP w' r s' ∧ r.g ∉ T' :=
  ⟨h.words (fun x hx hne => hd.turned.block x (h.lt x hx) (by simp [hne, h.outT hT hg x hx])) hm hn hf hs, hd.wide.out h.mem.ltg hg⟩
end
end Go.Proofs.YtjbhnpofdafmbaaGreatDoor
/- Single operations, run: what the document's pool does. -/
namespace Go.Proofs.YtjbhnpofdafmbaaGreatDoor
open Go.RowKit
section
variable {ρ : Operand → Value} {o : Oper} {w : World}
theorem x_extract {x : Operand} {k : Nat} {vs : Array Value} {v : Value} (h : o.op = .extract x k) (hx : ρ x = .tuple vs) (hv : vs[k]? = some v) : (execOp ρ o).run Tryz.prog w = .ok (.value v) w := by
  simp [execOp, h, hx, Instr.extract, hv]
theorem ld_mem {bb i c : Nat} (h : w.cell? ⟨bb, i, none⟩ = some (.pointer (some ⟨c, 0, none⟩))) : (Instr.loadAt 65 (pv bb i)).run Tryz.prog w = .ok (pv c 0) w := by
  unfold pv
  go_simp
theorem ld_pile {bb i c : Nat} (h : w.cell? ⟨bb, i, none⟩ = some (.pointer (some ⟨c, 0, none⟩))) : (Instr.loadAt 129 (pv bb i)).run Tryz.prog w = .ok (pv c 0) w := by
  unfold pv
  go_simp
theorem ld_slots {bb i n c : Nat} {a : Option Addr} (h : w.cell? ⟨bb, i, none⟩ = some (.slice a n c)) : (Instr.loadAt 58 (pv bb i)).run Tryz.prog w = .ok (.slice a n c) w := by
  unfold pv
  go_simp
end
section
variable {tb mb g c N : Nat} {w w' : World} {ws : Nat → Int} {l T T' : List Nat} {r : RB} {s : PSt}
theorem MemAt.drew (h : MemAt w mb g N ws) : MemAt w.drew mb g N ws := h.same rfl rfl
theorem RP.drew (h : RP w r s) : RP w.drew r s := h.same fun _ _ => rfl
theorem Did.undrew (h : Did l T w.drew tb mb c T' w') : Did l T w tb mb c T' w' := ⟨h.th, h.wide, (Turned.refl (l ++ T) w).drew.trans h.turned⟩
theorem Did.refl (h : Th T w tb mb c) : Did l T w tb mb c T w := ⟨h, fun _ hx => .inl hx, Turned.refl _ _⟩
end
end Go.Proofs.YtjbhnpofdafmbaaGreatDoor
/- The document's pile alone: Push. -/
namespace Go.Proofs.YtjbhnpofdafmbaaGreatDoor
open Go.RowKit
set_option maxRecDepth 100000 in
set_option maxHeartbeats 1600000 in
theorem rpush_r2 {K : Act → World → Prop} {Q : Exit → Act → World → Prop} {a : Act} {w : World} {tb mb g c N pb hd nx n i : Nat} {ws : Nat → Int} {T : List Nat} {z : Int} (hs : a.tmps.size = 55) (x0 : a.eval (.tmp 0) = pv pb 0) (x1 : a.eval (.tmp 1) = pv tb 0) (x2 : a.eval (.tmp 2) = vi (i : Nat)) (x6 : a.eval (.tmp 6) = vi z) (hT : Th T w tb mb c) (hM : MemAt w mb g N ws) (hP : RPile w pb mb hd nx n) (hc : c ≤ 900000) (hg : g ∉ T) (hin : nx + i < N) (hN : N ≤ 1000000)
    (hEnd : ∀ a1 w1, a1.tmps.size = a.tmps.size → a1.defers = a.defers → (∀ s : Nat, s < 20 → a1.eval (.tmp s) = a.eval (.tmp s)) → (MemAt w1 mb g N (updI ws (nx + i) (idxV z)) ∧ ∃ T1, Did [g] T w tb mb (c + 2) T1 w1) → K a1 w1) :
    (Code.region 2 (opsOf 2 Tryz.f81.body) true).wp Tryz.prog (Exit.then K Q) a w := by
  refine wp_region_chainP (by kernel_rfl) [some 20, some 21, some 22, some 23, some 24, some 25, some 26, some 27, some 28, some 29] (fun kk => match kk with
      | 0 => pv tb 0
      | 1 => pv pb 0
      | 2 => pv pb 0
      | 3 => pv pb 2
      | 4 => vi (nx : Nat)
      | 5 => vi (i : Nat)
      | 6 => vi ((nx + i : Nat) : Int)
      | 7 => vi z
      | 8 => vi (idxV z)
      | 9 => Value.tuple #[]
      | _ => undef) (by rw [hs]; kernel_rfl) [9] (fun jj => match jj with
      | 0 => fun x => x = w.drew
      | _ => fun x => MemAt x mb g N (updI ws (nx + i) (idxV z)) ∧ ∃ T1, Did [g] T w tb mb (c + 2) T1 x) rfl (by decide) (by decide +kernel) ?_ ?_ ?_
  · intro kk gg bq h
    exact (no_guard (by kernel_rfl) h).elim
  · intro kk hk _ o ac wa M K ho hd _ hoff hv hpre hL hK
    rcases (by simp at hk; omega : kk = 0 ∨ kk = 1 ∨ kk = 2 ∨ kk = 3 ∨ kk = 4 ∨ kk = 5 ∨ kk = 6 ∨ kk = 7 ∨ kk = 8 ∨ kk = 9) with rfl | rfl | rfl | rfl | rfl | rfl | rfl | rfl | rfl | rfl
    · obtain ⟨hM, jw, hjw, hW, hjR⟩ := hL.off (by decide)
      replace hK := hK _ hM
      exact l_val hd ((x_move (op_is rfl ho)).trans (by rw [(hoff 1 (by decide)).trans x1]; rfl)) hK
    · obtain ⟨hM, jw, hjw, hW, hjR⟩ := hL.off (by decide)
      replace hK := hK _ hM
      exact l_val hd ((x_move (op_is rfl ho)).trans (by rw [(hoff 0 (by decide)).trans x0]; rfl)) hK
    · obtain ⟨hM, jw, hjw, hW, hjR⟩ := hL.off (by decide)
      replace hK := hK _ hM
      exact l_val hd (x_nil (op_is rfl ho) (hv 1 21 rfl (by kernel_rfl))) hK
    · obtain ⟨hM, jw, hjw, hW, hjR⟩ := hL.off (by decide)
      replace hK := hK _ hM
      exact l_val hd (x_field (op_is rfl ho) (by rw [hv 2 22 rfl (by kernel_rfl)]; unfold pv; go_simp)) hK
    · obtain ⟨hM, jw, hjw, hW, hjR⟩ := hL.off (by decide)
      replace hK := hK _ hM
      have hj := hjR 0 9 rfl (by decide +kernel)
      obtain rfl : jw = 0 := by omega
      exact l_val hd (x_load (op_is rfl ho) (by rw [hv 3 23 rfl (by kernel_rfl)]; refine ld_int ?_; exact (show wa = w.drew from hW) ▸ RPile.c2 (w := w) hP)) hK
    · obtain ⟨hM, jw, hjw, hW, hjR⟩ := hL.off (by decide)
      replace hK := hK _ hM
      exact l_val hd ((x_move (op_is rfl ho)).trans (by rw [(hoff 2 (by decide)).trans x2]; rfl)) hK
    · obtain ⟨hM, jw, hjw, hW, hjR⟩ := hL.off (by decide)
      replace hK := hK _ hM
      exact l_val (v := vi ((nx + i : Nat) : Int)) hd ((x_addc (op_is rfl ho) (hv 4 24 rfl (by kernel_rfl)) (hv 5 25 rfl (by kernel_rfl)) (by omega) (by omega)).trans (by rw [show ((nx : Int) + (i : Int)) = ((nx + i : Nat) : Int) by omega])) hK
    · obtain ⟨hM, jw, hjw, hW, hjR⟩ := hL.off (by decide)
      replace hK := hK _ hM
      exact l_val hd ((x_move (op_is rfl ho)).trans (by rw [(hoff 6 (by decide)).trans x6]; rfl)) hK
    · obtain ⟨hM, jw, hjw, hW, hjR⟩ := hL.off (by decide)
      replace hK := hK _ hM
      exact l_call hd (op_is rfl ho) (by simp only [List.map_toArray, List.map_cons, List.map_nil, hv 7 27 rfl (by kernel_rfl)] <;> rfl) Tryz.func118 (by kernel_rfl) (by rfl) (rIndex z _) hK
    · obtain ⟨hW, rfl⟩ := hL.at_ (by decide) (j := 0) rfl
      have hW : wa = w.drew := hW
      subst hW
      exact l_callP hd (op_is rfl ho) (by simp only [List.map_toArray, List.map_cons, List.map_nil, hv 0 20 rfl (by kernel_rfl), hv 6 26 rfl (by kernel_rfl), hv 8 28 rfl (by kernel_rfl)] <;> rfl) Tryz.func123 (by kernel_rfl) (by rfl) ((cRStore (v := idxV z) hT.drew hM.drew hc hg hin).mono (fun e x h => ⟨h.1, h.2.1, h.2.2.imp fun T1 d => d.undrew⟩)) hK
  · intro a1 g1 g2 g3 g4 w1 hW
    exact hEnd a1 w1 g1 g2 (fun s hs'  => ev_same (g3 s (fun hm => by simp at hm; omega))) hW
section
variable {tb mb g c N pb hd nx n : Nat} {w w' w2 : World} {ws : Nat → Int} {l T : List Nat}
set_option maxRecDepth 100000 in
set_option maxHeartbeats 1600000 in
theorem cRPush {i : Nat} (hT : Th T w tb mb c) (hM : MemAt w mb g N ws) (hP : RPile w pb mb hd nx n) (hc : c ≤ 800000) (hg : g ∉ T) (hpg : pb ≠ g) (hhd : hd < N) (hin : nx + i < N) (hne : hd ≠ nx + i) (hN : N ≤ 1000000) (w0 : 0 ≤ ws hd) (w1 : ws hd ≤ 1152921504606846975) :
    Calls Tryz.prog 81 #[.pointer (some ⟨pb, 0, none⟩), .pointer (some ⟨tb, 0, none⟩), .int .i64 (i : Nat)] w fun e w' => e = .returned (.tuple #[]) ∧ MemAt w' mb g N (updI (updI ws (nx + i) (idxV (ws hd))) hd (nextV (ws hd) i)) ∧ ∃ T', Did [g] T w tb mb (c + 6) T' w' := by
  have HL := cRLoad hT hM (by omega) hg hhd
  have HN := fun w => rNext_ok (ws hd) (i : Nat) w (by omega) (by omega) w0 w1
  have p1 := hP.c1
  have EH : Hid (updI ws (nx + i) (idxV (ws hd)) hd = ws hd) := by show updI ws (nx + i) (idxV (ws hd)) hd = ws hd; unfold updI; rw [if_neg hne]
  have HM : Hid _ := hM
  have HP : Hid _ := hP
  have HT : Hid _ := hT
  clear hT hM hP
  go_enter Tryz.func81, Tryz.ntmps81
  go_wp2
  refine wp_loop_once ?_
  go_wp2_with (first
    | (go_at_call 117; refine HL.mono ?_; clear HL p1; rintro e x1 ⟨rfl, T1, d1⟩; obtain ⟨m1, hg1⟩ := HM.out.did HT.out hg d1; have q1 := RPile.did HP.out HT.out d1 (by simp); have o1 := d1.th.m2; have HD1 : Hid _ := d1; have HM1 : Hid _ := m1; have HP1 : Hid _ := q1; have HG1 : Hid _ := hg1; clear d1 m1 q1 hg1 HM HP HT))
  rename_i K hK
  refine rpush_r2 rfl rfl rfl rfl rfl HD1.out.th HM1.out HP1.out (by omega) HG1.out hin hN ?_
  rintro a1 x2 s1 d1 k1 ⟨m2, T2, d2⟩
  have q2 := RPile.did HP1.out HD1.out.th d2 (by simpa using hpg)
  have p1 := RPile.c1 q2
  have o2 := d2.th.m2
  have HC := cRCas (v := nextV (ws hd) i) EH.out d2.th m2 (by omega) (d2.wide.out HM1.out.ltg HG1.out) hhd
  have HD2 : Hid _ := (HD1.out.mono (by simp)).trans d2
  obtain ⟨cc, rfl, hcc⟩ := expand55 s1 d1
  have y0 : cc 0 = .pointer (some ⟨pb, 0, none⟩) := (hcc 0).trans (k1 0 (by omega))
  have y1 : cc 1 = .pointer (some ⟨tb, 0, none⟩) := (hcc 1).trans (k1 1 (by omega))
  have y2 : cc 2 = .int .i64 (i : Nat) := (hcc 2).trans (k1 2 (by omega))
  have y6 : cc 6 = .int .i64 (ws hd) := (hcc 6).trans (k1 6 (by omega))
  clear s1 d1 k1 hcc m2 d2 q2 HM1 HP1 HD1 HG1 o1
  refine hK _ _ ?_
  unfold lit55
  simp only [y0, y1, y2, y6]
  clear y0 y1 y2 y6
  go_wp2_with (first
    | (go_at_call 119; refine (HN _).mono ?_; rintro e w' ⟨rfl, rfl⟩)
    | (go_at_call 80; refine HC.mono ?_; clear HC p1 o2; rintro e x3 ⟨rfl, m3, T3, d3⟩; have o3 := d3.th.m2; have HD3 : Hid _ := d3; have HM3 : Hid _ := m3; clear m3 d3))
  refine bodyPost_ret (v := .tuple #[]) (by simp [results, Tryz.results81, go_sem]) rfl ⟨rfl, HM3.out, _, HD2.out.trans HD3.out⟩
end
end Go.Proofs.YtjbhnpofdafmbaaGreatDoor
/- The document's pool alone: its calls that draw no order. -/
namespace Go.Proofs.YtjbhnpofdafmbaaGreatDoor
open Go.RowKit
/-- Lines were done: the pool is s' now. -/
structure RGo (r : RB) (T : List Nat) (w : World) (tb c : Nat) (s' : PSt) (T' : List Nat) (w' : World) : Prop where
  rp : RP w' r s'
  out : r.g ∉ T'
  did : Did r.all T w tb r.m c T' w'
section
variable {tb c c1 c2 i : Nat} {w w' w1 w2 : World} {T T1 T2 : List Nat} {r : RB} {s s1 s2 : PSt} {x g : Int}
theorem RGo.trans (h : RGo r T w tb c1 s1 T1 w1) (k : RGo r T1 w1 tb c2 s2 T2 w2) : RGo r T w tb c2 s2 T2 w2 := ⟨k.rp, k.out, h.did.trans k.did⟩
theorem RGo.read (hT : Th T w tb r.m c) (hR : RP w r s) (hg : r.g ∉ T) (hd : Did [] T w tb r.m c1 T1 w1) : RGo r T w tb c1 s T1 w1 := ⟨(hR.did hT hg hd).1, (hR.did hT hg hd).2, hd.mono (by simp)⟩
theorem RGo.set (hT : Th T w tb r.m c) (hR : RP w r s) (hg : r.g ∉ T) (hp : RP w1 r s1) {b : Nat} (hb : b ∈ r.all) (ht : Turned [b] w w1) : RGo r T w tb c s1 T w1 :=
  ⟨hp, hg, hT.turned ht (by simpa using hR.outT hT hg b hb), fun _ hx => .inl hx, ht.mono (by simp [hb])⟩
theorem RGo.up (h : RGo r T w tb c1 s1 T1 w1) (hc : c1 ≤ c2) : RGo r T w tb c2 s1 T1 w1 := ⟨h.rp, h.out, h.did.up hc⟩
theorem RGo.undrew (h : RGo r T w.drew tb c s1 T1 w1) : RGo r T w tb c s1 T1 w1 := ⟨h.rp, h.out, h.did.undrew⟩
theorem cRIndex (x : Int) (w : World) : Calls Tryz.prog 78 #[.int .i64 x] w fun e w' => e = .returned (.int .i64 (idxV x)) ∧ w' = w := by
  have HI := rIndex x w
  go_enter Tryz.func78, Tryz.ntmps78
  go_wp2_with (go_at_call 118; refine HI.mono ?_; rintro e w' ⟨rfl, hw⟩; obtain rfl := hw.symm)
  go_ret
  exact ⟨rfl, rfl⟩
set_option maxHeartbeats 800000 in
theorem cRIsHandle (hR : RP w r s) (hn : s.n ≤ 4096) (hx : IsHandle s.n x i g) : Calls Tryz.prog 76 #[.pointer (some ⟨r.q, 0, none⟩), .int .i64 x] w fun e w' => e = .returned (.bool true) ∧ w' = w := by
  have HI := cRIndex x w
  have HG := rTag x w
  have h1 := hx.i1
  have h2 := hx.i2
  have h3 := hx.g0
  have h4 := hx.g1
  have h5 := hx.odd
  rw [hx.eq, hnd_idx (by omega) h3 (by omega), ← hx.eq] at HI
  rw [hx.eq, hnd_tag (by omega) h3 (by omega), ← hx.eq] at HG
  have p3 := hR.c3
  have d1 : decide (1 ≤ (i : Int)) = true := decide_eq_true (by omega)
  have d2 : decide ((i : Int) ≤ (s.n : Int)) = true := decide_eq_true (by omega)
  have d3 : (g % 2 == 1) = true := by simp [h5]
  clear hR hx
  go_enter Tryz.func76, Tryz.ntmps76
  go_wp2_with (first
    | (go_at_call 78; refine HI.mono ?_; rintro e w' ⟨rfl, hw⟩; obtain rfl := hw.symm)
    | (go_at_call 79; refine HG.mono ?_; rintro e w' ⟨rfl, hw⟩; obtain rfl := hw.symm))
  go_ret
  exact ⟨rfl, rfl⟩
set_option maxHeartbeats 1600000 in
theorem cRIsHandleNo (hR : RP w r s) (hx : NoHandle s.n x) : Calls Tryz.prog 76 #[.pointer (some ⟨r.q, 0, none⟩), .int .i64 x] w fun e w' => e = .returned (.bool false) ∧ w' = w := by
  have HI := cRIndex x w
  have HG := rTag x w
  have ht0 : 0 ≤ tagV x := by unfold tagV; split <;> omega
  have p3 := hR.c3
  unfold NoHandle at hx
  generalize idxV x = ix at *
  generalize tagV x = tx at *
  rcases (by omega : ix < 1 ∨ (1 ≤ ix ∧ s.n < ix) ∨ (1 ≤ ix ∧ ix ≤ s.n ∧ tx % 2 = 0)) with h1 | ⟨h1, h2⟩ | ⟨h1, h2, h3⟩
  · have d1 : decide (1 ≤ ix) = false := decide_eq_false (by omega)
    clear hR hx
    go_enter Tryz.func76, Tryz.ntmps76
    go_wp2_with (first
    | (go_at_call 78; refine HI.mono ?_; rintro e w' ⟨rfl, hw⟩; obtain rfl := hw.symm)
    | (go_at_call 79; refine HG.mono ?_; rintro e w' ⟨rfl, hw⟩; obtain rfl := hw.symm))
    go_ret
    exact ⟨rfl, rfl⟩
  · have d1 : decide (1 ≤ ix) = true := decide_eq_true (by omega)
    have d2 : decide (ix ≤ (s.n : Int)) = false := decide_eq_false (by omega)
    clear hR hx
    go_enter Tryz.func76, Tryz.ntmps76
    go_wp2_with (first
    | (go_at_call 78; refine HI.mono ?_; rintro e w' ⟨rfl, hw⟩; obtain rfl := hw.symm)
    | (go_at_call 79; refine HG.mono ?_; rintro e w' ⟨rfl, hw⟩; obtain rfl := hw.symm))
    go_ret
    exact ⟨rfl, rfl⟩
  · have d1 : decide (1 ≤ ix) = true := decide_eq_true (by omega)
    have d2 : decide (ix ≤ (s.n : Int)) = true := decide_eq_true (by omega)
    have d3 : (tx % 2 == 1) = false := by simp; omega
    clear hR hx
    go_enter Tryz.func76, Tryz.ntmps76
    go_wp2_with (first
    | (go_at_call 78; refine HI.mono ?_; rintro e w' ⟨rfl, hw⟩; obtain rfl := hw.symm)
    | (go_at_call 79; refine HG.mono ?_; rintro e w' ⟨rfl, hw⟩; obtain rfl := hw.symm))
    go_ret
    exact ⟨rfl, rfl⟩
set_option maxRecDepth 100000 in
set_option maxHeartbeats 1600000 in
theorem cRMeetBad (hT : Th T w tb r.m c) (hR : RP w r s) (_hn : s.n ≤ 4096) (hc : c ≤ 700000) (hg : r.g ∉ T) (hx : NoHandle s.n x) : Calls Tryz.prog 82 #[.pointer (some ⟨r.q, 0, none⟩), .pointer (some ⟨tb, 0, none⟩), .int .i64 x] w fun e w' => e = .returned (.tuple #[.int .i64 0, .int .i64 103]) ∧ ∃ T', RGo r T w tb (c + 6) s T' w' := by
  have HH := cRIsHandleNo hR hx
  have HL := cRLine hT (by omega)
  have HD : Hid (∀ T1 w1, Did [] T w tb r.m (c + 2) T1 w1 → RGo r T w tb (c + 6) s T1 w1) := fun T1 w1 d => RGo.read hT hR hg (d.up (by omega))
  clear hT hR hx
  go_enter Tryz.func82, Tryz.ntmps82
  go_wp2_with (first
    | (go_at_call 76; refine HH.mono ?_; rintro e w' ⟨rfl, hw⟩; obtain rfl := hw.symm)
    | (go_at_call 77; refine HL.mono ?_; rintro e w1 ⟨rfl, T1, d1⟩; have HD1 : Hid _ := HD.out T1 w1 d1; clear d1 HL HD HH))
  go_ret2
  exact ⟨rfl, _, HD1.out⟩
set_option maxRecDepth 100000 in
set_option maxHeartbeats 1600000 in
theorem cRMeet (hT : Th T w tb r.m c) (hR : RP w r s) (hn : s.n ≤ 4096) (hc : c ≤ 700000) (hg : r.g ∉ T) (hx : IsHandle s.n x i g) (hgen : (s.slot i).gen = g) : Calls Tryz.prog 82 #[.pointer (some ⟨r.q, 0, none⟩), .pointer (some ⟨tb, 0, none⟩), .int .i64 x] w fun e w' => e = .returned (.tuple #[.int .i64 (i : Nat), .int .i64 0]) ∧ ∃ T', RGo r T w tb (c + 6) s T' w' := by
  have h1 := hx.i1
  have h2 := hx.i2
  have h3 := hx.g0
  have h4 := hx.g1
  have HI := cRIndex x
  have HG := rTag x
  rw [hx.eq, hnd_idx (by omega) h3 (by omega), ← hx.eq] at HI
  rw [hx.eq, hnd_tag (by omega) h3 (by omega), ← hx.eq] at HG
  have HH := cRIsHandle hR hn hx
  have p2 := hR.c2
  have HL := cRLoad (a := s.n + 2 + i) hT hR.mem (by omega) hg (by omega)
  rw [memF_g, show ((s.n + 2 + i : Nat) : Int) = (s.n : Int) + 2 + (i : Int) by omega] at HL
  rw [hgen] at HL
  have HD : Hid (∀ T1 w1, Did [] T w tb r.m (c + 2) T1 w1 → RGo r T w tb (c + 6) s T1 w1) := fun T1 w1 d => RGo.read hT hR hg (d.up (by omega))
  clear hT hR hx
  go_enter Tryz.func82, Tryz.ntmps82
  go_wp2_with (first
    | (go_at_call 76; refine HH.mono ?_; rintro e w' ⟨rfl, hw⟩; obtain rfl := hw.symm)
    | (go_at_call 78; refine (HI _).mono ?_; rintro e w' ⟨rfl, hw⟩; obtain rfl := hw.symm)
    | (go_at_call 79; refine (HG _).mono ?_; rintro e w' ⟨rfl, hw⟩; obtain rfl := hw.symm)
    | (go_at_call 117; refine HL.mono ?_; rintro e w1 ⟨rfl, T1, d1⟩; have HD1 : Hid _ := HD.out T1 w1 d1; have o1 := d1.th.m2; clear d1 HL HD HH))
  go_ret2
  exact ⟨rfl, _, HD1.out⟩
set_option maxRecDepth 100000 in
set_option maxHeartbeats 1600000 in
theorem cRMeetGone (hT : Th T w tb r.m c) (hR : RP w r s) (hn : s.n ≤ 4096) (hc : c ≤ 700000) (hg : r.g ∉ T) (hx : IsHandle s.n x i g) (hgen : (s.slot i).gen ≠ g) (hf0 : 0 ≤ s.faults) (hf1 : s.faults ≤ 1000000) : Calls Tryz.prog 82 #[.pointer (some ⟨r.q, 0, none⟩), .pointer (some ⟨tb, 0, none⟩), .int .i64 x] w fun e w' => e = .returned (.tuple #[.int .i64 0, .int .i64 104]) ∧ ∃ T', RGo r T w tb (c + 6) s.fault T' w' := by
  have h1 := hx.i1
  have h2 := hx.i2
  have h3 := hx.g0
  have h4 := hx.g1
  have HI := cRIndex x
  have HG := rTag x
  rw [hx.eq, hnd_idx (by omega) h3 (by omega), ← hx.eq] at HI
  rw [hx.eq, hnd_tag (by omega) h3 (by omega), ← hx.eq] at HG
  have HH := cRIsHandle hR hn hx
  have p2 := hR.c2
  have HL := cRLoad (a := s.n + 2 + i) hT hR.mem (by omega) hg (by omega)
  rw [memF_g, show ((s.n + 2 + i : Nat) : Int) = (s.n : Int) + 2 + (i : Int) by omega] at HL
  have hne : ((s.slot i).gen != g) = true := by simp [hgen]
  have HD : Hid (∀ T1 w1, Did [] T w tb r.m (c + 2) T1 w1 → RGo r T w tb (c + 2) s T1 w1) := fun T1 w1 d => RGo.read hT hR hg d
  clear hT hR hx
  go_enter Tryz.func82, Tryz.ntmps82
  go_wp2_with (first
    | (go_at_call 76; refine HH.mono ?_; rintro e w' ⟨rfl, hw⟩; obtain rfl := hw.symm)
    | (go_at_call 78; refine (HI _).mono ?_; rintro e w' ⟨rfl, hw⟩; obtain rfl := hw.symm)
    | (go_at_call 79; refine (HG _).mono ?_; rintro e w' ⟨rfl, hw⟩; obtain rfl := hw.symm)
    | (go_at_call 117; refine HL.mono ?_; rintro e w1 ⟨rfl, T1, d1⟩; have k1 := HD.out T1 w1 d1; have HF := cRFresh k1.did.th (by omega); have HK1 : Hid _ := k1; have o1 := d1.th.m2; clear d1 HL HD HH k1)
    | (go_at_call 71; refine HF.mono ?_; rintro e w2 ⟨rfl, T2, d2⟩; have k2 := RGo.read HK1.out.did.th HK1.out.rp HK1.out.out d2; have c5 := k2.rp.c5; have z5 := froz_at k2.rp.pool 5; have HK2 : Hid _ := k2; clear d2 HF k2))
  go_ret2
  exact ⟨rfl, _, (HK1.out.trans (HK2.out.trans (RGo.set HK2.out.did.th HK2.out.rp HK2.out.out HK2.out.rp.fault (b := r.q) (by simp [RB.all]) ((Turned.refl [r.q] _).set (.inl (by simp)) _ _)))).up (by omega)⟩
set_option maxRecDepth 100000 in
set_option maxHeartbeats 1600000 in
theorem cRMarkOfBad (hT : Th T w tb r.m c) (hR : RP w r s) (hn : s.n ≤ 4096) (hc : c ≤ 700000) (hg : r.g ∉ T) (hx : NoHandle s.n x) : Calls Tryz.prog 24 #[.pointer (some ⟨r.q, 0, none⟩), .pointer (some ⟨tb, 0, none⟩), .int .i64 x] w fun e w' => e = .returned (.tuple #[.int .i64 0, .int .i64 103]) ∧ ∃ T', RGo r T w tb (c + 10) s T' w' := by
  have HM := cRMeetBad hT hR hn hc hg hx
  clear hT hR hx
  go_enter Tryz.func24, Tryz.ntmps24
  go_wp2_with (go_at_call 82; refine HM.mono ?_; rintro e w1 ⟨rfl, T1, k1⟩; have o1 := k1.did.th.m2; have HK1 : Hid _ := k1; clear k1 HM)
  go_ret2
  exact ⟨rfl, _, HK1.out.up (by omega)⟩
set_option maxRecDepth 100000 in
set_option maxHeartbeats 1600000 in
theorem cRMarkOfGone (hT : Th T w tb r.m c) (hR : RP w r s) (hn : s.n ≤ 4096) (hc : c ≤ 700000) (hg : r.g ∉ T) (hx : IsHandle s.n x i g) (hgen : (s.slot i).gen ≠ g) (hf0 : 0 ≤ s.faults) (hf1 : s.faults ≤ 1000000) : Calls Tryz.prog 24 #[.pointer (some ⟨r.q, 0, none⟩), .pointer (some ⟨tb, 0, none⟩), .int .i64 x] w fun e w' => e = .returned (.tuple #[.int .i64 0, .int .i64 104]) ∧ ∃ T', RGo r T w tb (c + 10) s.fault T' w' := by
  have HM := cRMeetGone hT hR hn hc hg hx hgen hf0 hf1
  clear hT hR hx
  go_enter Tryz.func24, Tryz.ntmps24
  go_wp2_with (go_at_call 82; refine HM.mono ?_; rintro e w1 ⟨rfl, T1, k1⟩; have o1 := k1.did.th.m2; have HK1 : Hid _ := k1; clear k1 HM)
  go_ret2
  exact ⟨rfl, _, HK1.out.up (by omega)⟩
set_option maxRecDepth 100000 in
set_option maxHeartbeats 1600000 in
theorem cRMarkOf (hT : Th T w tb r.m c) (hR : RP w r s) (hn : s.n ≤ 4096) (hc : c ≤ 700000) (hg : r.g ∉ T) (hx : IsHandle s.n x i g) (hgen : (s.slot i).gen = g) : Calls Tryz.prog 24 #[.pointer (some ⟨r.q, 0, none⟩), .pointer (some ⟨tb, 0, none⟩), .int .i64 x] w fun e w' => e = .returned (.tuple #[.int .i64 (s.slot i).mark, .int .i64 0]) ∧ ∃ T', RGo r T w tb (c + 10) s T' w' := by
  have HM := cRMeet hT hR hn hc hg hx hgen
  have h2 := hx.i2
  have hlt : (i : Int) < (s.n : Int) + 1 := by omega
  clear hT hR hx
  go_enter Tryz.func24, Tryz.ntmps24
  go_wp2_with (first
    | (go_at_call 82; refine HM.mono ?_; rintro e w1 ⟨rfl, T1, k1⟩; have o1 := k1.did.th.m2; have p4 := k1.rp.c4; have q5 : w1.cell? ⟨r.b, i * 7 + 5, none⟩ = some (.int .i64 (s.slot i).mark) := k1.rp.sl h2 (k := 5) (by decide); have HKp := cRKept (v := (s.slot i).mark) k1.did.th (by omega); have HK1 : Hid _ := k1; clear k1 HM)
    | (go_at_call 75; refine HKp.mono ?_; rintro e w2 ⟨rfl, T2, d2⟩; have k2 := RGo.read HK1.out.did.th HK1.out.rp HK1.out.out d2; have o2 := d2.th.m2; have HK2 : Hid _ := k2; clear d2 HKp k2))
  go_ret2
  exact ⟨rfl, _, (HK1.out.trans HK2.out).up (by omega)⟩
set_option maxRecDepth 100000 in
set_option maxHeartbeats 1600000 in
theorem cRLinkOfBad (hT : Th T w tb r.m c) (hR : RP w r s) (hn : s.n ≤ 4096) (hc : c ≤ 700000) (hg : r.g ∉ T) (hx : NoHandle s.n x) : Calls Tryz.prog 28 #[.pointer (some ⟨r.q, 0, none⟩), .pointer (some ⟨tb, 0, none⟩), .int .i64 x] w fun e w' => e = .returned (.tuple #[.int .i64 0, .int .i64 103]) ∧ ∃ T', RGo r T w tb (c + 10) s T' w' := by
  have HM := cRMeetBad hT hR hn hc hg hx
  clear hT hR hx
  go_enter Tryz.func28, Tryz.ntmps28
  go_wp2_with (go_at_call 82; refine HM.mono ?_; rintro e w1 ⟨rfl, T1, k1⟩; have o1 := k1.did.th.m2; have HK1 : Hid _ := k1; clear k1 HM)
  go_ret2
  exact ⟨rfl, _, HK1.out.up (by omega)⟩
set_option maxRecDepth 100000 in
set_option maxHeartbeats 1600000 in
theorem cRLinkOfGone (hT : Th T w tb r.m c) (hR : RP w r s) (hn : s.n ≤ 4096) (hc : c ≤ 700000) (hg : r.g ∉ T) (hx : IsHandle s.n x i g) (hgen : (s.slot i).gen ≠ g) (hf0 : 0 ≤ s.faults) (hf1 : s.faults ≤ 1000000) : Calls Tryz.prog 28 #[.pointer (some ⟨r.q, 0, none⟩), .pointer (some ⟨tb, 0, none⟩), .int .i64 x] w fun e w' => e = .returned (.tuple #[.int .i64 0, .int .i64 104]) ∧ ∃ T', RGo r T w tb (c + 10) s.fault T' w' := by
  have HM := cRMeetGone hT hR hn hc hg hx hgen hf0 hf1
  clear hT hR hx
  go_enter Tryz.func28, Tryz.ntmps28
  go_wp2_with (go_at_call 82; refine HM.mono ?_; rintro e w1 ⟨rfl, T1, k1⟩; have o1 := k1.did.th.m2; have HK1 : Hid _ := k1; clear k1 HM)
  go_ret2
  exact ⟨rfl, _, HK1.out.up (by omega)⟩
set_option maxRecDepth 100000 in
set_option maxHeartbeats 1600000 in
theorem cRLinkOf (hT : Th T w tb r.m c) (hR : RP w r s) (hn : s.n ≤ 4096) (hc : c ≤ 700000) (hg : r.g ∉ T) (hx : IsHandle s.n x i g) (hgen : (s.slot i).gen = g) : Calls Tryz.prog 28 #[.pointer (some ⟨r.q, 0, none⟩), .pointer (some ⟨tb, 0, none⟩), .int .i64 x] w fun e w' => e = .returned (.tuple #[.int .i64 (s.slot i).link, .int .i64 0]) ∧ ∃ T', RGo r T w tb (c + 10) s T' w' := by
  have HM := cRMeet hT hR hn hc hg hx hgen
  have h2 := hx.i2
  have hlt : (i : Int) < (s.n : Int) + 1 := by omega
  clear hT hR hx
  go_enter Tryz.func28, Tryz.ntmps28
  go_wp2_with (first
    | (go_at_call 82; refine HM.mono ?_; rintro e w1 ⟨rfl, T1, k1⟩; have o1 := k1.did.th.m2; have p4 := k1.rp.c4; have q6 : w1.cell? ⟨r.b, i * 7 + 6, none⟩ = some (.int .i64 (s.slot i).link) := k1.rp.sl h2 (k := 6) (by decide); have HKp := cRKept (v := (s.slot i).link) k1.did.th (by omega); have HK1 : Hid _ := k1; clear k1 HM)
    | (go_at_call 75; refine HKp.mono ?_; rintro e w2 ⟨rfl, T2, d2⟩; have k2 := RGo.read HK1.out.did.th HK1.out.rp HK1.out.out d2; have o2 := d2.th.m2; have HK2 : Hid _ := k2; clear d2 HKp k2))
  go_ret2
  exact ⟨rfl, _, (HK1.out.trans HK2.out).up (by omega)⟩
set_option maxRecDepth 100000 in
set_option maxHeartbeats 1600000 in
theorem cRCasMarkOfBad (hT : Th T w tb r.m c) (hR : RP w r s) (hn : s.n ≤ 4096) (hc : c ≤ 700000) (hg : r.g ∉ T) (hx : NoHandle s.n x) (old v : Int) : Calls Tryz.prog 26 #[.pointer (some ⟨r.q, 0, none⟩), .pointer (some ⟨tb, 0, none⟩), .int .i64 x, .int .i64 old, .int .i64 v] w fun e w' => e = .returned (.tuple #[.bool false, .int .i64 103]) ∧ ∃ T', RGo r T w tb (c + 10) s T' w' := by
  have HM := cRMeetBad hT hR hn hc hg hx
  clear hT hR hx
  go_enter Tryz.func26, Tryz.ntmps26
  go_wp2_with (go_at_call 82; refine HM.mono ?_; rintro e w1 ⟨rfl, T1, k1⟩; have o1 := k1.did.th.m2; have HK1 : Hid _ := k1; clear k1 HM)
  go_ret2
  exact ⟨rfl, _, HK1.out.up (by omega)⟩
set_option maxRecDepth 100000 in
set_option maxHeartbeats 1600000 in
theorem cRCasMarkOfGone (hT : Th T w tb r.m c) (hR : RP w r s) (hn : s.n ≤ 4096) (hc : c ≤ 700000) (hg : r.g ∉ T) (hx : IsHandle s.n x i g) (hgen : (s.slot i).gen ≠ g) (hf0 : 0 ≤ s.faults) (hf1 : s.faults ≤ 1000000) (old v : Int) : Calls Tryz.prog 26 #[.pointer (some ⟨r.q, 0, none⟩), .pointer (some ⟨tb, 0, none⟩), .int .i64 x, .int .i64 old, .int .i64 v] w fun e w' => e = .returned (.tuple #[.bool false, .int .i64 104]) ∧ ∃ T', RGo r T w tb (c + 10) s.fault T' w' := by
  have HM := cRMeetGone hT hR hn hc hg hx hgen hf0 hf1
  clear hT hR hx
  go_enter Tryz.func26, Tryz.ntmps26
  go_wp2_with (go_at_call 82; refine HM.mono ?_; rintro e w1 ⟨rfl, T1, k1⟩; have o1 := k1.did.th.m2; have HK1 : Hid _ := k1; clear k1 HM)
  go_ret2
  exact ⟨rfl, _, HK1.out.up (by omega)⟩
set_option maxRecDepth 100000 in
set_option maxHeartbeats 1600000 in
theorem cRCasMarkOf (hT : Th T w tb r.m c) (hR : RP w r s) (hn : s.n ≤ 4096) (hc : c ≤ 700000) (hg : r.g ∉ T) (hx : IsHandle s.n x i g) (hgen : (s.slot i).gen = g) (old v : Int) (hm : (s.slot i).mark = old) : Calls Tryz.prog 26 #[.pointer (some ⟨r.q, 0, none⟩), .pointer (some ⟨tb, 0, none⟩), .int .i64 x, .int .i64 old, .int .i64 v] w fun e w' => e = .returned (.tuple #[.bool true, .int .i64 0]) ∧ ∃ T', RGo r T w tb (c + 10) (s.putMark i v) T' w' := by
  have HM := cRMeet hT hR hn hc hg hx hgen
  have h2 := hx.i2
  have hlt : (i : Int) < (s.n : Int) + 1 := by omega
  clear hT hR hx
  subst hm
  go_enter Tryz.func26, Tryz.ntmps26
  go_wp2_with (first
    | (go_at_call 82; refine HM.mono ?_; rintro e w1 ⟨rfl, T1, k1⟩; have o1 := k1.did.th.m2; have p4 := k1.rp.c4; have q5 : w1.cell? ⟨r.b, i * 7 + 5, none⟩ = some (.int .i64 (s.slot i).mark) := k1.rp.sl h2 (k := 5) (by decide); have HKp := cRKept (v := (s.slot i).mark) k1.did.th (by omega); have HK1 : Hid _ := k1; clear k1 HM)
    | (go_at_call 75; refine HKp.mono ?_; rintro e w2 ⟨rfl, T2, d2⟩; have k2 := RGo.read HK1.out.did.th HK1.out.rp HK1.out.out d2; have o2 := d2.th.m2; have HF := cRFresh k2.did.th (by omega); have HK2 : Hid _ := k2; have p4x := p4; clear p4 p4x; clear d2 HKp k2)
    | (go_at_call 71; refine HF.mono ?_; rintro e w3 ⟨rfl, T3, d3⟩; have k3 := RGo.read HK2.out.did.th HK2.out.rp HK2.out.out d3; have p4 := k3.rp.c4; have HK3 : Hid _ := k3; have z := froz_at k3.rp.slots; have q5b : w3.cell? ⟨r.b, i * 7 + 5, none⟩ = some (.int .i64 (s.slot i).mark) := k3.rp.sl h2 (k := 5) (by decide); clear d3 HF k3))
  go_ret2
  exact ⟨rfl, _, (HK1.out.trans (HK2.out.trans (HK3.out.trans (RGo.set HK3.out.did.th HK3.out.rp HK3.out.out (HK3.out.rp.putMark (i := i) v) (b := r.b) (by simp [RB.all]) ((Turned.refl [r.b] _).set (.inl (by simp)) _ _))))).up (by omega)⟩
set_option maxRecDepth 100000 in
set_option maxHeartbeats 1600000 in
theorem cRCasMarkNot (hT : Th T w tb r.m c) (hR : RP w r s) (hn : s.n ≤ 4096) (hc : c ≤ 700000) (hg : r.g ∉ T) (hx : IsHandle s.n x i g) (hgen : (s.slot i).gen = g) (old v : Int) (hm : ¬ (s.slot i).mark = old) : Calls Tryz.prog 26 #[.pointer (some ⟨r.q, 0, none⟩), .pointer (some ⟨tb, 0, none⟩), .int .i64 x, .int .i64 old, .int .i64 v] w fun e w' => e = .returned (.tuple #[.bool false, .int .i64 0]) ∧ ∃ T', RGo r T w tb (c + 10) s T' w' := by
  have HM := cRMeet hT hR hn hc hg hx hgen
  have h2 := hx.i2
  have hlt : (i : Int) < (s.n : Int) + 1 := by omega
  clear hT hR hx
  have he : ((s.slot i).mark == old) = false := by simp [hm]
  go_enter Tryz.func26, Tryz.ntmps26
  go_wp2_with (first
    | (go_at_call 82; refine HM.mono ?_; rintro e w1 ⟨rfl, T1, k1⟩; have o1 := k1.did.th.m2; have p4 := k1.rp.c4; have q5 : w1.cell? ⟨r.b, i * 7 + 5, none⟩ = some (.int .i64 (s.slot i).mark) := k1.rp.sl h2 (k := 5) (by decide); have HKp := cRKept (v := (s.slot i).mark) k1.did.th (by omega); have HK1 : Hid _ := k1; clear k1 HM)
    | (go_at_call 75; refine HKp.mono ?_; rintro e w2 ⟨rfl, T2, d2⟩; have k2 := RGo.read HK1.out.did.th HK1.out.rp HK1.out.out d2; have o2 := d2.th.m2; have HF := cRFresh k2.did.th (by omega); have HK2 : Hid _ := k2; have p4x := p4; clear p4 p4x; clear d2 HKp k2)
    | (go_at_call 71; refine HF.mono ?_; rintro e w3 ⟨rfl, T3, d3⟩; have k3 := RGo.read HK2.out.did.th HK2.out.rp HK2.out.out d3; have p4 := k3.rp.c4; have HK3 : Hid _ := k3; have z := froz_at k3.rp.slots; have q5b : w3.cell? ⟨r.b, i * 7 + 5, none⟩ = some (.int .i64 (s.slot i).mark) := k3.rp.sl h2 (k := 5) (by decide); clear d3 HF k3))
  go_ret2
  exact ⟨rfl, _, (HK1.out.trans (HK2.out.trans HK3.out)).up (by omega)⟩
set_option maxRecDepth 100000 in
set_option maxHeartbeats 1600000 in
theorem cRSwapLinkOfBad (hT : Th T w tb r.m c) (hR : RP w r s) (hn : s.n ≤ 4096) (hc : c ≤ 700000) (hg : r.g ∉ T) (hx : NoHandle s.n x) (v : Int) : Calls Tryz.prog 30 #[.pointer (some ⟨r.q, 0, none⟩), .pointer (some ⟨tb, 0, none⟩), .int .i64 x, .int .i64 v] w fun e w' => e = .returned (.tuple #[.int .i64 0, .int .i64 103]) ∧ ∃ T', RGo r T w tb (c + 10) s T' w' := by
  have HM := cRMeetBad hT hR hn hc hg hx
  clear hT hR hx
  go_enter Tryz.func30, Tryz.ntmps30
  go_wp2_with (go_at_call 82; refine HM.mono ?_; rintro e w1 ⟨rfl, T1, k1⟩; have o1 := k1.did.th.m2; have HK1 : Hid _ := k1; clear k1 HM)
  go_ret2
  exact ⟨rfl, _, HK1.out.up (by omega)⟩
set_option maxRecDepth 100000 in
set_option maxHeartbeats 1600000 in
theorem cRSwapLinkOfGone (hT : Th T w tb r.m c) (hR : RP w r s) (hn : s.n ≤ 4096) (hc : c ≤ 700000) (hg : r.g ∉ T) (hx : IsHandle s.n x i g) (hgen : (s.slot i).gen ≠ g) (hf0 : 0 ≤ s.faults) (hf1 : s.faults ≤ 1000000) (v : Int) : Calls Tryz.prog 30 #[.pointer (some ⟨r.q, 0, none⟩), .pointer (some ⟨tb, 0, none⟩), .int .i64 x, .int .i64 v] w fun e w' => e = .returned (.tuple #[.int .i64 0, .int .i64 104]) ∧ ∃ T', RGo r T w tb (c + 10) s.fault T' w' := by
  have HM := cRMeetGone hT hR hn hc hg hx hgen hf0 hf1
  clear hT hR hx
  go_enter Tryz.func30, Tryz.ntmps30
  go_wp2_with (go_at_call 82; refine HM.mono ?_; rintro e w1 ⟨rfl, T1, k1⟩; have o1 := k1.did.th.m2; have HK1 : Hid _ := k1; clear k1 HM)
  go_ret2
  exact ⟨rfl, _, HK1.out.up (by omega)⟩
set_option maxRecDepth 100000 in
set_option maxHeartbeats 1600000 in
theorem cRSwapLinkOf (hT : Th T w tb r.m c) (hR : RP w r s) (hn : s.n ≤ 4096) (hc : c ≤ 700000) (hg : r.g ∉ T) (hx : IsHandle s.n x i g) (hgen : (s.slot i).gen = g) (v : Int) : Calls Tryz.prog 30 #[.pointer (some ⟨r.q, 0, none⟩), .pointer (some ⟨tb, 0, none⟩), .int .i64 x, .int .i64 v] w fun e w' => e = .returned (.tuple #[.int .i64 (s.slot i).link, .int .i64 0]) ∧ ∃ T', RGo r T w tb (c + 10) (s.putLink i v) T' w' := by
  have HM := cRMeet hT hR hn hc hg hx hgen
  have h2 := hx.i2
  have hlt : (i : Int) < (s.n : Int) + 1 := by omega
  clear hT hR hx
  go_enter Tryz.func30, Tryz.ntmps30
  go_wp2_with (first
    | (go_at_call 82; refine HM.mono ?_; rintro e w1 ⟨rfl, T1, k1⟩; have o1 := k1.did.th.m2; have p4 := k1.rp.c4; have q6 : w1.cell? ⟨r.b, i * 7 + 6, none⟩ = some (.int .i64 (s.slot i).link) := k1.rp.sl h2 (k := 6) (by decide); have HKp := cRKept (v := (s.slot i).link) k1.did.th (by omega); have HK1 : Hid _ := k1; clear k1 HM)
    | (go_at_call 75; refine HKp.mono ?_; rintro e w2 ⟨rfl, T2, d2⟩; have k2 := RGo.read HK1.out.did.th HK1.out.rp HK1.out.out d2; have o2 := d2.th.m2; have HF := cRFresh k2.did.th (by omega); have HK2 : Hid _ := k2; have p4x := p4; clear p4 p4x; clear d2 HKp k2)
    | (go_at_call 71; refine HF.mono ?_; rintro e w3 ⟨rfl, T3, d3⟩; have k3 := RGo.read HK2.out.did.th HK2.out.rp HK2.out.out d3; have p4 := k3.rp.c4; have HK3 : Hid _ := k3; have z := froz_at k3.rp.slots; have q6b : w3.cell? ⟨r.b, i * 7 + 6, none⟩ = some (.int .i64 (s.slot i).link) := k3.rp.sl h2 (k := 6) (by decide); clear d3 HF k3))
  go_ret2
  exact ⟨rfl, _, (HK1.out.trans (HK2.out.trans (HK3.out.trans (RGo.set HK3.out.did.th HK3.out.rp HK3.out.out (HK3.out.rp.putLink (i := i) v) (b := r.b) (by simp [RB.all]) ((Turned.refl [r.b] _).set (.inl (by simp)) _ _))))).up (by omega)⟩
theorem cRFaults (hR : RP w r s) : Calls Tryz.prog 39 #[.pointer (some ⟨r.q, 0, none⟩)] w fun e w' => e = .returned (.int .i64 s.faults) ∧ w' = w := by
  have c5 := hR.c5
  clear hR
  go_enter Tryz.func39, Tryz.ntmps39
  go_wp2
  go_ret
  exact ⟨rfl, rfl⟩
end
end Go.Proofs.YtjbhnpofdafmbaaGreatDoor
/- A frame, spelled out. -/
namespace Go.Proofs.YtjbhnpofdafmbaaGreatDoor
open Go.RowKit
def lit78 (c : Nat → Value) : Array Value := #[c 0, c 1, c 2, c 3, c 4, c 5, c 6, c 7, c 8, c 9, c 10, c 11, c 12, c 13, c 14, c 15, c 16, c 17, c 18, c 19, c 20, c 21, c 22, c 23, c 24, c 25, c 26, c 27, c 28, c 29, c 30, c 31, c 32, c 33, c 34, c 35, c 36, c 37, c 38, c 39, c 40, c 41, c 42, c 43, c 44, c 45, c 46, c 47, c 48, c 49, c 50, c 51, c 52, c 53, c 54, c 55, c 56, c 57, c 58, c 59, c 60, c 61, c 62, c 63, c 64, c 65, c 66, c 67, c 68, c 69, c 70, c 71, c 72, c 73, c 74, c 75, c 76, c 77]
set_option maxRecDepth 100000 in
theorem lit78_eq (c : Nat → Value) : lit78 c = ((List.range 78).map c).toArray := by rfl
theorem expand78 {a : Act} (hs : a.tmps.size = 78) (hd : a.defers = []) : ∃ c : Nat → Value, a = ⟨lit78 c, []⟩ ∧ ∀ s, c s = a.eval (.tmp s) := by
  refine ⟨fun s => a.tmps.getD s undef, ?_, fun s => rfl⟩
  obtain ⟨t, d⟩ := a
  simp only at hs hd
  subst hd
  congr 1
  rw [lit78_eq]
  refine Array.ext (by simp [hs]) fun i h1 h2 => ?_
  simp [Array.getD, h1]
end Go.Proofs.YtjbhnpofdafmbaaGreatDoor

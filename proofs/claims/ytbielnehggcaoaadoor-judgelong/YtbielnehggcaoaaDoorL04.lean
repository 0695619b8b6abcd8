/-
  Package judge's small functions by contract. (By the verifier; no statement.)
-/
import Derived.Test.YtbielnehggcaoaaDoorL01
import Derived.Test.YtbielnehggcaoaaDoorL02
import Derived.Test.YtbielnehggcaoaaDoorL03
import Derived.WalkKit
import Derived.WalkSpells
import Derived.WalkLawsBesides
namespace Go.Proofs.YtbielnehggcaoaaDoor
open Go.RowKit
def timeB (b e : Int) : Bool := decide (1 ≤ b) && (decide (e = 0) || decide (b ≤ e))
set_option maxHeartbeats 400000 in
theorem cIsTime (b e : Int) (w : World) : Calls Tryd.prog 68 #[.int .i64 b, .int .i64 e] w fun r w' => r = .returned (.bool (timeB b e)) ∧ w' = w := by
  unfold timeB
  rcases (by omega : ¬ 1 ≤ b ∨ (1 ≤ b ∧ e = 0) ∨ (1 ≤ b ∧ e ≠ 0 ∧ b ≤ e) ∨ (1 ≤ b ∧ e ≠ 0 ∧ ¬ b ≤ e)) with h | ⟨h, rfl⟩ | ⟨h, h1, h2⟩ | ⟨h, h1, h2⟩
  · have d1 : decide (1 ≤ b) = false := decide_eq_false h
    rw [d1]
    go_enter Tryd.func68, Tryd.ntmps68
    go_wp2
    go_ret
    exact ⟨rfl, rfl⟩
  · have d1 : decide (1 ≤ b) = true := decide_eq_true h
    rw [d1]
    go_enter Tryd.func68, Tryd.ntmps68
    go_wp2
    go_ret
    exact ⟨rfl, rfl⟩
  · have d1 : decide (1 ≤ b) = true := decide_eq_true h
    have d2 : decide (b ≤ e) = true := decide_eq_true h2
    have d3 : (e == 0) = false := by simpa using h1
    have d4 : decide (e = 0) = false := decide_eq_false h1
    rw [d1, d2, d4]
    go_enter Tryd.func68, Tryd.ntmps68
    go_wp2
    go_ret
    exact ⟨rfl, rfl⟩
  · have d1 : decide (1 ≤ b) = true := decide_eq_true h
    have d2 : decide (b ≤ e) = false := decide_eq_false h2
    have d3 : (e == 0) = false := by simpa using h1
    have d4 : decide (e = 0) = false := decide_eq_false h1
    rw [d1, d2, d4]
    go_enter Tryd.func68, Tryd.ntmps68
    go_wp2
    go_ret
    exact ⟨rfl, rfl⟩
set_option maxHeartbeats 400000 in
theorem cWasA (e b : Int) (w : World) : Calls Tryd.prog 46 #[.int .i64 e, .int .i64 b] w fun r w' => r = .returned (.bool (wasA e b)) ∧ w' = w := by
  unfold wasA
  rcases (by omega : e = 0 ∨ (e ≠ 0 ∧ e < b) ∨ (e ≠ 0 ∧ ¬ e < b)) with rfl | ⟨h, h1⟩ | ⟨h, h1⟩
  · go_enter Tryd.func46, Tryd.ntmps46
    go_wp2
    go_ret
    exact ⟨rfl, rfl⟩
  · have d1 : decide (e ≠ 0) = true := decide_eq_true h
    have d2 : decide (e < b) = true := decide_eq_true h1
    have d3 : (e != 0) = true := by simpa using h
    rw [d1, d2]
    go_enter Tryd.func46, Tryd.ntmps46
    go_wp2
    go_ret
    exact ⟨rfl, rfl⟩
  · have d1 : decide (e ≠ 0) = true := decide_eq_true h
    have d2 : decide (e < b) = false := decide_eq_false h1
    have d3 : (e != 0) = true := by simpa using h
    rw [d1, d2]
    go_enter Tryd.func46, Tryd.ntmps46
    go_wp2
    go_ret
    exact ⟨rfl, rfl⟩
set_option maxHeartbeats 400000 in
theorem cWith {m i : Nat} (hm : m < 18446744073709551616) (hi : i < 64) (w : World) : Calls Tryd.prog 45 #[.int .u64 m, .int .i64 i] w fun r w' => r = .returned (.int .u64 ((m ||| 2 ^ i : Nat) : Int)) ∧ w' = w := by
  go_enter Tryd.func45, Tryd.ntmps45
  go_wp2
  go_ret
  exact ⟨congrArg (fun x : Int => Ending.returned (.int .u64 x)) (bits_with hm hi), rfl⟩
set_option maxHeartbeats 400000 in
theorem cHas {m i : Nat} (hm : m < 18446744073709551616) (hi : i < 64) (w : World) : Calls Tryd.prog 47 #[.int .u64 m, .int .i64 i] w fun r w' => r = .returned (.bool (m.testBit i)) ∧ w' = w := by
  go_enter Tryd.func47, Tryd.ntmps47
  go_wp2
  go_ret
  exact ⟨congrArg (fun x : Bool => Ending.returned (.bool x)) (bits_has hm), rfl⟩
theorem blk_new2 (w : World) (o o' : Obj) : ((w.alloc o).alloc o').heap[w.heap.size + 1]? = some o' := by
  have := blk_new (w.alloc o) o'
  have e : (w.alloc o).heap.size = w.heap.size + 1 := by show (w.heap.push o).size = _; simp
  rwa [e] at this
/-- A deed as a value. -/
abbrev dcs (d : Dd) : List Value := [.int .i64 d.b, .int .i64 d.e, .int .i64 d.k, .int .i64 d.a, .int .i64 d.x, .int .i64 d.c, .int .i64 d.n, .bool d.ok]
set_option maxHeartbeats 1600000 in
theorem cAlone {b e k a x c n v : Int} {ok : Bool} (h1 : 1 ≤ k) (h7 : k ≤ 7) (w : World) : Calls Tryd.prog 69 #[.agg #[.int .i64 b, .int .i64 e, .int .i64 k, .int .i64 a, .int .i64 x, .int .i64 c, .int .i64 n, .bool ok], .int .i64 v] w fun r w' => r = .returned (.agg #[.int .i64 ((⟨b, e, k, a, x, c, n, ok⟩ : Dd).next v), .int .i64 ((⟨b, e, k, a, x, c, n, ok⟩ : Dd).ans v), .bool ((⟨b, e, k, a, x, c, n, ok⟩ : Dd).did v)]) ∧ w' = (w.alloc (.cells #[.int .i64 b, .int .i64 e, .int .i64 k, .int .i64 a, .int .i64 x, .int .i64 c, .int .i64 n, .bool ok] 27 (0, 0))).alloc (.cells #[.int .i64 ((⟨b, e, k, a, x, c, n, ok⟩ : Dd).next v), .int .i64 ((⟨b, e, k, a, x, c, n, ok⟩ : Dd).ans v), .bool ((⟨b, e, k, a, x, c, n, ok⟩ : Dd).did v)] 131 (0, 0)) := by
  rcases (by omega : k = 1 ∨ k = 2 ∨ k = 3 ∨ k = 4 ∨ k = 5 ∨ k = 6 ∨ k = 7) with rfl | rfl | rfl | rfl | rfl | rfl | rfl
  · go_enter Tryd.func69, Tryd.ntmps69
    go_wp2
    refine bodyPost_ret (results_cell_row rfl _ _ (w.heap.size + 1) _ _ (0, 0) _ rfl (blk_new2 w _ _) Tryd.underlying131 rfl (by kernel_rfl)) rfl ⟨?_, ?_⟩
    all_goals simp [Dd.next, Dd.ans, Dd.did]
  · go_enter Tryd.func69, Tryd.ntmps69
    go_wp2
    refine bodyPost_ret (results_cell_row rfl _ _ (w.heap.size + 1) _ _ (0, 0) _ rfl (blk_new2 w _ _) Tryd.underlying131 rfl (by kernel_rfl)) rfl ⟨?_, ?_⟩
    all_goals simp [Dd.next, Dd.ans, Dd.did]
  · go_enter Tryd.func69, Tryd.ntmps69
    go_wp2
    refine bodyPost_ret (results_cell_row rfl _ _ (w.heap.size + 1) _ _ (0, 0) _ rfl (blk_new2 w _ _) Tryd.underlying131 rfl (by kernel_rfl)) rfl ⟨?_, ?_⟩
    all_goals simp [Dd.next, Dd.ans, Dd.did]
  · go_enter Tryd.func69, Tryd.ntmps69
    go_wp2
    refine bodyPost_ret (results_cell_row rfl _ _ (w.heap.size + 1) _ _ (0, 0) _ rfl (blk_new2 w _ _) Tryd.underlying131 rfl (by kernel_rfl)) rfl ⟨?_, ?_⟩
    all_goals simp [Dd.next, Dd.ans, Dd.did]
  · by_cases hv : v = x
    · subst hv
      go_enter Tryd.func69, Tryd.ntmps69
      go_wp2
      refine bodyPost_ret (results_cell_row rfl _ _ (w.heap.size + 1) _ _ (0, 0) _ rfl (blk_new2 w _ _) Tryd.underlying131 rfl (by kernel_rfl)) rfl ⟨?_, ?_⟩
      all_goals simp [Dd.next, Dd.ans, Dd.did]
    · have d1 : (v == x) = false := by simpa using hv
      go_enter Tryd.func69, Tryd.ntmps69
      go_wp2
      refine bodyPost_ret (results_cell_row rfl _ _ (w.heap.size + 1) _ _ (0, 0) _ rfl (blk_new2 w _ _) Tryd.underlying131 rfl (by kernel_rfl)) rfl ⟨?_, ?_⟩
      all_goals simp [Dd.next, Dd.ans, Dd.did, hv]
  · go_enter Tryd.func69, Tryd.ntmps69
    go_wp2
    all_goals
      refine bodyPost_ret (results_cell_row rfl _ _ (w.heap.size + 1) _ _ (0, 0) _ rfl (blk_new2 w _ _) Tryd.underlying131 rfl (by kernel_rfl)) rfl ⟨?_, ?_⟩
      all_goals simp [Dd.next, Dd.ans, Dd.did]
      all_goals first | omega | (rw [show max v x = x by omega]) | (rw [show max v x = v by omega])
  · go_enter Tryd.func69, Tryd.ntmps69
    go_wp2
    all_goals
      refine bodyPost_ret (results_cell_row rfl _ _ (w.heap.size + 1) _ _ (0, 0) _ rfl (blk_new2 w _ _) Tryd.underlying131 rfl (by kernel_rfl)) rfl ⟨?_, ?_⟩
      all_goals simp [Dd.next, Dd.ans, Dd.did]
      all_goals first | omega | (rw [show min v x = x by omega]) | (rw [show min v x = v by omega])
set_option maxHeartbeats 800000 in
theorem cFits {h n2 : Int} {o2 : Bool} {b e k a x c n : Int} {ok : Bool} (w : World) : Calls Tryd.prog 70 #[.agg #[.int .i64 h, .int .i64 n2, .bool o2], .agg #[.int .i64 b, .int .i64 e, .int .i64 k, .int .i64 a, .int .i64 x, .int .i64 c, .int .i64 n, .bool ok]] w fun r w' => r = .returned (.bool (decide (e = 0) || (decide (n2 = n) && decide (o2 = ok)))) ∧ w' = (w.alloc (.cells #[.int .i64 h, .int .i64 n2, .bool o2] 131 (0, 0))).alloc (.cells #[.int .i64 b, .int .i64 e, .int .i64 k, .int .i64 a, .int .i64 x, .int .i64 c, .int .i64 n, .bool ok] 27 (0, 0)) := by
  rcases (by omega : e = 0 ∨ (e ≠ 0 ∧ n2 = n) ∨ (e ≠ 0 ∧ n2 ≠ n)) with rfl | ⟨h1, rfl⟩ | ⟨h1, h2⟩
  · go_enter Tryd.func70, Tryd.ntmps70
    go_wp2
    go_ret
    exact ⟨rfl, rfl⟩
  · have d1 : (e == 0) = false := by simpa using h1
    have d2 : decide (e = 0) = false := decide_eq_false h1
    rw [d2]
    go_enter Tryd.func70, Tryd.ntmps70
    go_wp2
    go_ret
    exact ⟨by cases o2 <;> cases ok <;> simp, rfl⟩
  · have d1 : (e == 0) = false := by simpa using h1
    have d2 : decide (e = 0) = false := decide_eq_false h1
    have d3 : (n2 == n) = false := by simpa using h2
    have d4 : decide (n2 = n) = false := decide_eq_false h2
    rw [d2, d4]
    go_enter Tryd.func70, Tryd.ntmps70
    go_wp2
    go_ret
    exact ⟨rfl, rfl⟩
def rightB (m : Int) (d : Dd) : Bool := decide (1 ≤ d.k) && decide (d.k ≤ 7) && decide (0 ≤ d.a) && decide (d.a < m) && timeB d.b d.e
set_option maxHeartbeats 800000 in
theorem cRight {b e k a x c n m : Int} {ok : Bool} (w : World) : Calls Tryd.prog 43 #[.agg #[.int .i64 b, .int .i64 e, .int .i64 k, .int .i64 a, .int .i64 x, .int .i64 c, .int .i64 n, .bool ok], .int .i64 m] w fun r w' => r = .returned (.bool (rightB m ⟨b, e, k, a, x, c, n, ok⟩)) ∧ Turned [] w w' := by
  unfold rightB
  dsimp only
  cases d1 : decide (1 ≤ k) with
  | false =>
    go_enter Tryd.func43, Tryd.ntmps43
    go_wp2
    go_ret
    exact ⟨rfl, (Turned.refl [] w).alloc _⟩
  | true =>
    cases d2 : decide (k ≤ 7) with
    | false =>
      go_enter Tryd.func43, Tryd.ntmps43
      go_wp2
      go_ret
      exact ⟨rfl, (Turned.refl [] w).alloc _⟩
    | true =>
      cases d3 : decide (0 ≤ a) with
      | false =>
        go_enter Tryd.func43, Tryd.ntmps43
        go_wp2
        go_ret
        exact ⟨rfl, (Turned.refl [] w).alloc _⟩
      | true =>
        cases d4 : decide (a < m) with
        | false =>
          go_enter Tryd.func43, Tryd.ntmps43
          go_wp2
          go_ret
          exact ⟨rfl, (Turned.refl [] w).alloc _⟩
        | true =>
          have P := fun w => cIsTime b e w
          go_enter Tryd.func43, Tryd.ntmps43
          go_wp2_with (go_at_call 68; refine (P _).mono ?_; rintro r x1 ⟨rfl, rfl⟩)
          go_ret
          exact ⟨rfl, (Turned.refl [] w).alloc _⟩
end Go.Proofs.YtbielnehggcaoaaDoor
/-
  Deeds in memory; how many are there at a time; which can't be. (By the verifier; no statement.)
-/
namespace Go.Proofs.YtbielnehggcaoaaDoor
open Go.RowKit
/-- A list of deeds as it lies in memory. -/
structure DsAt (w : World) (ad : Option Addr) (D : List Dd) : Prop where
  all : ∀ (i : Nat) (d : Dd), D[i]? = some d → ∃ b o : Nat, ad = some ⟨b, o, none⟩ ∧ b < w.heap.size ∧ w.cell? ⟨b, o + i * 8, none⟩ = some (.int .i64 d.b) ∧ w.cell? ⟨b, o + i * 8 + 1, none⟩ = some (.int .i64 d.e) ∧ w.cell? ⟨b, o + i * 8 + 2, none⟩ = some (.int .i64 d.k) ∧ w.cell? ⟨b, o + i * 8 + 3, none⟩ = some (.int .i64 d.a) ∧
    w.cell? ⟨b, o + i * 8 + 4, none⟩ = some (.int .i64 d.x) ∧ w.cell? ⟨b, o + i * 8 + 5, none⟩ = some (.int .i64 d.c) ∧ w.cell? ⟨b, o + i * 8 + 6, none⟩ = some (.int .i64 d.n) ∧ w.cell? ⟨b, o + i * 8 + 7, none⟩ = some (.bool d.ok)
theorem DsAt.keep {w w' : World} {ad : Option Addr} {D : List Dd} (h : DsAt w ad D) {l : List Nat} (ht : Turned l w w') (hl : ∀ b o, ad = some ⟨b, o, none⟩ → b ∉ l) : DsAt w' ad D := ⟨fun i d hd => by
  obtain ⟨b, o, e, hb, h0, h1, h2, h3, h4, h5, h6, h7⟩ := h.all i d hd
  have hn := hl b o e
  exact ⟨b, o, e, Nat.lt_of_lt_of_le hb ht.size, ht.cell h0 hn, ht.cell h1 hn, ht.cell h2 hn, ht.cell h3 hn, ht.cell h4 hn, ht.cell h5 hn, ht.cell h6 hn, ht.cell h7 hn⟩⟩
theorem DsAt.still {w w' : World} {ad : Option Addr} {D : List Dd} (h : DsAt w ad D) (ht : Turned [] w w') : DsAt w' ad D := h.keep ht fun _ _ _ => by simp
def inB (t : Int) (d : Dd) : Bool := decide (d.b ≤ t) && !wasA d.e t
def cntB (D : List Dd) (t : Int) : Nat := (D.filter (inB t)).length
theorem cnt_take {D : List Dd} {t : Int} {k : Nat} {d : Dd} (h : D[k]? = some d) : cntB (D.take (k + 1)) t = cntB (D.take k) t + (if inB t d then 1 else 0) := by
  obtain ⟨hk, e⟩ := List.getElem?_eq_some_iff.1 h
  unfold cntB
  rw [List.take_add_one, h, Option.toList_some, List.filter_append, List.length_append]
  congr 1
  cases hi : inB t d <;> simp [hi]
set_option maxHeartbeats 1600000 in
theorem cCountAt {D : List Dd} {ad : Option Addr} {cap : Nat} {t : Int} {w : World} (hD : DsAt w ad D) (hn : D.length ≤ 1000) : Calls Tryd.prog 44 #[.slice ad D.length cap, .int .i64 t] w fun r w' => r = .returned (.int .i64 (cntB D t)) ∧ Turned [] w w' := by
  obtain ⟨n, hln⟩ : ∃ n, n = D.length := ⟨_, rfl⟩
  have HN : Hid (n = D.length) := hln
  have HD : Hid (DsAt w ad D) := hD
  have HC : Hid (cntB (D.take n) t = cntB D t) := by rw [Hid, hln, List.take_length]
  have HL : Hid (∀ k, cntB (D.take k) t ≤ k) := fun k => Nat.le_trans (List.length_filter_le _ _) (by rw [List.length_take]; exact Nat.min_le_left _ _)
  rw [← hln] at hn ⊢
  clear hln hD
  have P := fun e b w => cWasA e b w
  go_enter Tryd.func44, Tryd.ntmps44
  go_wp2
  go_loopw [5, 10] (fun c i wx => ∃ k : Nat, k ≤ n ∧ i = .int .i64 k ∧ c = .int .i64 (cntB (D.take k) t : Nat) ∧ Hid (Turned [] w wx)) (fun _ i _ => n - (intOf i).toNat)
  case atStart => exact ⟨0, Nat.zero_le _, rfl, rfl, Turned.refl _ _⟩
  case round =>
    obtain ⟨k, hk, rfl, rfl, HT⟩ := hrel
    by_cases hlt : k < n
    · obtain ⟨d, hd⟩ : ∃ d, D[k]? = some d := ⟨_, List.getElem?_eq_getElem (by rw [← HN.out]; exact hlt)⟩
      obtain ⟨b, o, rfl, hb, h0, h1, h2, h3, h4, h5, h6, h7⟩ := (HD.out.still HT.out).all k d hd
      have hc := HL.out k
      have HE : Hid (cntB (D.take (k + 1)) t = cntB (D.take k) t + (if inB t d then 1 else 0)) := cnt_take hd
      clear hd
      cases d1 : decide (d.b ≤ t) with
      | false =>
        have HI : Hid (inB t d = false) := by rw [Hid, inB, d1]; rfl
        go_wp2
        go_roundw
        case rel => exact ⟨k + 1, by omega, by go_num, by rw [HE.out, HI.out]; rfl, HT.out.alloc _⟩
        case measure => simp [intOf]; omega
      | true =>
        cases d2 : wasA d.e t with
        | true =>
          have HI : Hid (inB t d = false) := by rw [Hid, inB, d1, d2]; rfl
          go_wp2_with (go_at_call 46; refine (P _ _ _).mono ?_; rintro r x1 ⟨rfl, rfl⟩)
          go_roundw
          case rel => exact ⟨k + 1, by omega, by go_num, by rw [HE.out, HI.out]; rfl, HT.out.alloc _⟩
          case measure => simp [intOf]; omega
        | false =>
          have HI : Hid (inB t d = true) := by rw [Hid, inB, d1, d2]; rfl
          go_wp2_with (go_at_call 46; refine (P _ _ _).mono ?_; rintro r x1 ⟨rfl, rfl⟩)
          go_roundw
          case rel => exact ⟨k + 1, by omega, by go_num, by rw [HE.out, HI.out]; go_num, HT.out.alloc _⟩
          case measure => simp [intOf]; omega
    · have e : k = n := by omega
      subst e
      rw [HC.out]
      go_wp2
      go_ret
      exact ⟨rfl, HT.out⟩
/-- The error of Order, ahead of the search. -/
def chkD (m : Int) (D : List Dd) : Int := if m = 0 ∨ 256 < m ∨ 64 < D.length then 201 else if D.all (rightB m) then (if D.all (fun d => decide (cntB D d.b ≤ 8)) then 0 else 201) else 200
theorem all_take {D : List Dd} {p : Dd → Bool} {k : Nat} {d : Dd} (h : D[k]? = some d) : (D.take (k + 1)).all p = ((D.take k).all p && p d) := by
  rw [List.take_add_one, h, Option.toList_some, List.all_append]
  simp
theorem all_no {D : List Dd} {p : Dd → Bool} {k : Nat} {d : Dd} (h : D[k]? = some d) (hp : p d = false) : D.all p = false := by
  rw [List.all_eq_false]
  exact ⟨d, List.mem_of_getElem? h, by simp [hp]⟩
set_option maxHeartbeats 1600000 in
theorem cCheck {D : List Dd} {ad : Option Addr} {cap : Nat} {m : Int} {w : World} (hD : DsAt w ad D) (hn : D.length ≤ 1000) : Calls Tryd.prog 29 #[.int .i64 m, .slice ad D.length cap] w fun r w' => r = .returned (.int .i64 (chkD m D)) ∧ Turned [] w w' := by
  by_cases h0 : m = 0
  · subst h0
    rw [show chkD 0 D = 201 by simp [chkD]]
    go_enter Tryd.func29, Tryd.ntmps29
    go_wp2
    go_ret
    exact ⟨rfl, Turned.refl _ _⟩
  have d0 : (m == 0) = false := by simpa using h0
  by_cases h1 : 256 < m
  · have d1 : decide (256 < m) = true := decide_eq_true h1
    rw [show chkD m D = 201 by simp [chkD, h1]]
    go_enter Tryd.func29, Tryd.ntmps29
    go_wp2
    go_ret
    exact ⟨rfl, Turned.refl _ _⟩
  have d1 : decide (256 < m) = false := decide_eq_false h1
  by_cases h2 : 64 < D.length
  · have d2 : decide ((64 : Int) < D.length) = true := decide_eq_true (by omega)
    rw [show chkD m D = 201 by simp [chkD, h2]]
    go_enter Tryd.func29, Tryd.ntmps29
    go_wp2
    go_ret
    exact ⟨rfl, Turned.refl _ _⟩
  have HS : Hid (chkD m D = if D.all (rightB m) then (if D.all (fun d => decide (cntB D d.b ≤ 8)) then 0 else 201) else 200) := by rw [Hid, chkD, if_neg (by omega)]
  clear h0 h1
  obtain ⟨n, hln⟩ : ∃ n, n = D.length := ⟨_, rfl⟩
  have PC : ∀ {t : Int} {x : World}, Turned [] w x → Calls Tryd.prog 44 #[.slice ad n cap, .int .i64 t] x fun r w' => r = .returned (.int .i64 (cntB D t)) ∧ Turned [] x w' := fun {t x} ht => by
    rw [hln]
    exact cCountAt (hD.still ht) hn
  have HN : Hid (n = D.length) := hln
  have HD : Hid (DsAt w ad D) := hD
  have d2 : decide ((64 : Int) < n) = false := decide_eq_false (by omega)
  have hn2 : n ≤ 64 := by omega
  rw [← hln]
  clear hln hD h2 hn
  have P := fun b e k a x c n ok w => cRight (b := b) (e := e) (k := k) (a := a) (x := x) (c := c) (n := n) (ok := ok) (m := m) w
  have HP : Hid (∀ (t : Int) (x : World), Turned [] w x → Calls Tryd.prog 44 #[.slice ad n cap, .int .i64 t] x fun r w' => r = .returned (.int .i64 (cntB D t)) ∧ Turned [] x w') := fun t x ht => PC ht
  clear PC
  go_enter Tryd.func29, Tryd.ntmps29
  go_wp2
  go_loopw [22] (fun i wx => ∃ k : Nat, k ≤ n ∧ i = .int .i64 k ∧ Hid ((D.take k).all (rightB m) = true) ∧ Hid (Turned [] w wx)) (fun i _ => n - (intOf i).toNat)
  case atStart => exact ⟨0, Nat.zero_le _, rfl, rfl, Turned.refl _ _⟩
  case round =>
    obtain ⟨k, hk, rfl, HA, HT⟩ := hrel
    by_cases hlt : k < n
    · obtain ⟨d, hd⟩ : ∃ d, D[k]? = some d := ⟨_, List.getElem?_eq_getElem (by rw [← HN.out]; exact hlt)⟩
      obtain ⟨b, o, rfl, hb, h0, h1, h2, h3, h4, h5, h6, h7⟩ := (HD.out.still HT.out).all k d hd
      have Hd : Hid (D[k]? = some d) := hd
      clear hd
      cases d3 : rightB m d with
      | false =>
        have d4 : rightB m ⟨d.b, d.e, d.k, d.a, d.x, d.c, d.n, d.ok⟩ = false := d3
        go_wp2_with (go_at_call 43; refine (P _ _ _ _ _ _ _ _ _).mono ?_; rintro r x1 ⟨rfl, T1⟩; have HT1 : Hid _ := T1; clear T1)
        go_ret
        refine ⟨?_, (HT.out.alloc _).trans HT1.out⟩
        rw [HS.out, all_no Hd.out d3]
        rfl
      | true =>
        have d4 : rightB m ⟨d.b, d.e, d.k, d.a, d.x, d.c, d.n, d.ok⟩ = true := d3
        go_wp2_with (go_at_call 43; refine (P _ _ _ _ _ _ _ _ _).mono ?_; rintro r x1 ⟨rfl, T1⟩; have HT1 : Hid _ := T1; clear T1)
        go_roundw
        case rel => exact ⟨k + 1, by omega, by go_num, by rw [Hid, all_take Hd.out, HA.out, d3]; rfl, (HT.out.alloc _).trans HT1.out⟩
        case measure => simp [intOf]; omega
    · have e : k = n := by omega
      subst e
      have HA2 : Hid (D.all (rightB m) = true) := by
        have := HA.out
        rw [HN.out, List.take_length] at this
        exact this
      clear HA P
      go_wp2
      go_loopw [33] (fun i wx => ∃ j : Nat, j ≤ k ∧ i = .int .i64 j ∧ Hid ((D.take j).all (fun d => decide (cntB D d.b ≤ 8)) = true) ∧ Hid (Turned [] w wx)) (fun i _ => k - (intOf i).toNat)
      case atStart => exact ⟨0, Nat.zero_le _, rfl, rfl, HT⟩
      case round =>
        obtain ⟨j, hj, rfl, HB, HT2⟩ := hrel
        by_cases hlt2 : j < k
        · obtain ⟨d, hd⟩ : ∃ d, D[j]? = some d := ⟨_, List.getElem?_eq_getElem (by rw [← HN.out]; exact hlt2)⟩
          obtain ⟨b, o, rfl, hb, h0, h1, h2, h3, h4, h5, h6, h7⟩ := (HD.out.still HT2.out).all j d hd
          have Hd : Hid (D[j]? = some d) := hd
          clear hd
          by_cases h8 : cntB D d.b ≤ 8
          · have d5 : decide ((8 : Int) < cntB D d.b) = false := decide_eq_false (by omega)
            go_wp2_with (go_at_call 44; refine (HP.out _ _ (HT2.out.alloc _)).mono ?_; rintro r x1 ⟨rfl, T1⟩; have HT1 : Hid _ := T1; clear T1)
            go_roundw
            case rel => exact ⟨j + 1, by omega, by go_num, by rw [Hid, all_take Hd.out, HB.out]; simp [h8], (HT2.out.alloc _).trans HT1.out⟩
            case measure => simp [intOf]; omega
          · have d5 : decide ((8 : Int) < cntB D d.b) = true := decide_eq_true (by omega)
            go_wp2_with (go_at_call 44; refine (HP.out _ _ (HT2.out.alloc _)).mono ?_; rintro r x1 ⟨rfl, T1⟩; have HT1 : Hid _ := T1; clear T1)
            go_ret
            refine ⟨?_, (HT2.out.alloc _).trans HT1.out⟩
            rw [HS.out, HA2.out, all_no (p := fun d => decide (cntB D d.b ≤ 8)) Hd.out (by simp [h8])]
            rfl
        · have e : j = k := by omega
          subst e
          have HB2 : Hid (D.all (fun d => decide (cntB D d.b ≤ 8)) = true) := by
            have := HB.out
            rw [HN.out, List.take_length] at this
            exact this
          go_wp2
          go_ret
          refine ⟨?_, HT2.out⟩
          rw [HS.out, HA2.out, HB2.out]
          rfl
end Go.Proofs.YtbielnehggcaoaaDoor

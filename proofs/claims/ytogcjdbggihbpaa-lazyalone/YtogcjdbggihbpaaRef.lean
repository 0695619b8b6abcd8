/- The document's cells: a Once's, a Retry's. -/
import Derived.Test.YtogcjdbggihbpaaMaker
namespace Go.Proofs.Ytogcjdbggihbpaa
open Go.RowKit Go.Conc Go.MuLone

abbrev cellObj (F : Int) (L : Bool) (V : Int) (o : Bool) (c : Int) (d s : Bool) (er nu : Int) : Obj := .cells #[.int .i64 F, .bool L, .int .i64 V, .bool o, .int .i64 c, .bool d, .bool s, .int .i64 er, .int .i64 nu] 42 (0, 0)

theorem out_hit {F : Int} {L : Bool} {V c : Int} (h : F < c) : out F L V c = some (some V) := by simp [out, h]
theorem out_fell {F : Int} {V c : Int} (h : ¬ F < c) : out F true V c = none := by simp [out, h]
theorem out_fail {F : Int} {V c : Int} (h : ¬ F < c) : out F false V c = some none := by simp [out, h]
theorem oV_out (F : Int) (L : Bool) (V c : Int) : oV (out F L V c) = if F < c then V else 0 := by
  unfold out; split
  · rfl
  · split <;> rfl
theorem oE_out (F : Int) (L : Bool) (V c : Int) : oE (out F L V c) = if F < c then 0 else if L then 73 else 72 := by
  unfold out; split
  · rfl
  · split <;> simp_all [oE]
theorem oM_out (F : Int) (L : Bool) (V c : Int) : oM (out F L V c) = if F < c then 1 else 0 := by
  unfold out; split
  · rfl
  · split <;> rfl

set_option maxHeartbeats 800000 in
theorem cMake {w : World} {a : Nat} {F : Int} {L : Bool} {V : Int} {o : Bool} {c : Int} {s : Bool} {er : Int} (ha : w.heap[a]? = some (cellObj F L V o c false s er 0)) (h0 : 0 ≤ c) (h1 : c ≤ 1000) :
    Calls Try.prog 49 #[.pointer (some ⟨a, 0, none⟩)] w fun e w' => e = .returned (.int .i64 (oE (out F L V (c + 1)))) ∧ Turned [a] w w' ∧ w'.heap[a]? = some (cellObj F L V o (c + 1) (decide (F < c + 1)) s er (oV (out F L V (c + 1)))) := by
  have c0 := cell_at ha 0
  have c1 := cell_at ha 1
  have c2 := cell_at ha 2
  have c4 := cell_at ha 4
  have z4 := froz_at ha 4
  have c5 := cell_at ha 5
  have z5 := froz_at ha 5
  have c8 := cell_at ha 8
  have z8 := froz_at ha 8
  simp at c0 c1 c2 c4 c5 c8
  have hw : wrap64 (c + 1) = c + 1 := by unfold wrap64; omega
  rw [oV_out, oE_out]
  have HA : Hid _ := ha
  clear ha
  by_cases hF : F < c + 1
  · go_enter Try.func49, Try.ntmps49
    go_wp2
    go_region
    all_goals
      go_wp2
      go_ret
      refine ⟨by simp, ?_, ?_⟩
      · exact (((Turned.refl _ _).set (.inl (by simp)) 4 _).drew.set (.inl (by simp)) 5 _).set (.inl (by simp)) 8 _
      · exact (blk_set (blk_set (w := (w.setCell ⟨a, 4, none⟩ (.int .i64 (c + 1))).drew) (blk_set HA.out 4 _) 5 _) 8 _).trans (by simp)
  · cases L with
    | false =>
      go_enter Try.func49, Try.ntmps49
      go_wp2
      go_region
      all_goals
        go_wp2
        go_ret
        refine ⟨by simp, ?_, ?_⟩
        · exact ((Turned.refl _ _).set (.inl (by simp)) 4 _).drew
        · exact (blk_set HA.out 4 _).trans (by simp)
    | true =>
      go_enter Try.func49, Try.ntmps49
      go_wp2
      go_region
      all_goals
        go_wp2
        go_ret
        refine ⟨by simp, ?_, ?_⟩
        · exact ((Turned.refl _ _).set (.inl (by simp)) 4 _).drew
        · exact (blk_set HA.out 4 _).trans (by simp)
set_option maxHeartbeats 800000 in
theorem cCellOnceNew {w : World} {a : Nat} {F : Int} {L : Bool} {V : Int} (ha : w.heap[a]? = some (cellObj F L V true 0 false false 0 0)) :
    Calls Try.prog 37 #[.pointer (some ⟨a, 0, none⟩)] w fun e w' => e = .returned (.tuple #[.int .i64 (oV (out F L V 1)), .int .i64 (oE (out F L V 1))]) ∧ Turned [a] w w' ∧ w'.heap[a]? = some (cellObj F L V true 1 (decide (F < 1)) true (oE (out F L V 1)) (oV (out F L V 1))) := by
  have hnot : ∀ (x : Bool) (w : World), (Op.unary .not (.bool x)).run Try.prog w = .ok (.bool (!x)) w := fun _ _ => rfl
  have c3 := cell_at ha 3
  have c5 := cell_at ha 5
  have c6 := cell_at ha 6
  have z6 := froz_at ha 6
  simp at c3 c5 c6
  have ha1 : (w.setCell ⟨a, 6, none⟩ (.bool true)).heap[a]? = some (cellObj F L V true 0 false true 0 0) := (blk_set ha 6 _).trans (by simp)
  have HM := cMake ha1 (by omega) (by omega)
  clear ha ha1
  go_enter Try.func37, Try.ntmps37
  go_wp2_with (go_at_call 49; refine HM.mono ?_; rintro e w2 ⟨rfl, hT, hA⟩; have d7 := cell_at hA 7; have y7 := froz_at hA 7; have d8 := cell_at hA 8; simp at d7 d8)
  go_region
  all_goals
    go_wp2
    go_ret2
    refine ⟨by simp, ?_, ?_⟩
    · exact ((((Turned.refl _ _).set (.inl (by simp)) 6 _).trans hT).set (.inl (by simp)) 7 _).drew
    · exact (blk_set hA 7 _).trans (by simp)
set_option maxHeartbeats 800000 in
theorem cCellOnceOld {w : World} {a : Nat} {F : Int} {L : Bool} {V : Int} (ha : w.heap[a]? = some (cellObj F L V true 1 (decide (F < 1)) true (oE (out F L V 1)) (oV (out F L V 1)))) :
    Calls Try.prog 37 #[.pointer (some ⟨a, 0, none⟩)] w fun e w' => e = .returned (.tuple #[.int .i64 (oV (out F L V 1)), .int .i64 (oE (out F L V 1))]) ∧ (w' = w ∨ w' = w.drew) := by
  have hnot : ∀ (x : Bool) (w : World), (Op.unary .not (.bool x)).run Try.prog w = .ok (.bool (!x)) w := fun _ _ => rfl
  have c3 := cell_at ha 3
  have c5 := cell_at ha 5
  have c6 := cell_at ha 6
  have c7 := cell_at ha 7
  have c8 := cell_at ha 8
  simp at c3 c5 c6 c7 c8
  clear ha
  by_cases hF : F < 1
  · have hE : oE (out F L V 1) = 0 := by rw [oE_out]; simp [hF]
    rw [hE]
    have hd : decide (F < 1) = true := by simp [hF]
    rw [hd] at c5
    clear hd
    go_enter Try.func37, Try.ntmps37
    go_wp2
    go_ret2
    exact ⟨rfl, .inl rfl⟩
  · have hd : decide (F < 1) = false := by simp [hF]
    rw [hd] at c5
    clear hd
    go_enter Try.func37, Try.ntmps37
    go_wp2
    go_region
    all_goals
      go_wp2
      go_ret2
      exact ⟨rfl, .inr rfl⟩
set_option maxHeartbeats 800000 in
theorem cCellRetryNew {w : World} {a : Nat} {F : Int} {L : Bool} {V c : Int} (ha : w.heap[a]? = some (cellObj F L V false c false false 0 0)) (h0 : 0 ≤ c) (h1 : c ≤ 1000) :
    Calls Try.prog 37 #[.pointer (some ⟨a, 0, none⟩)] w fun e w' => e = .returned (.tuple #[.int .i64 (oV (out F L V (c + 1))), .int .i64 (oE (out F L V (c + 1)))]) ∧ Turned [a] w w' ∧ w'.heap[a]? = some (cellObj F L V false (c + 1) (decide (F < c + 1)) false 0 (oV (out F L V (c + 1)))) := by
  have c3 := cell_at ha 3
  have c5 := cell_at ha 5
  simp at c3 c5
  have HM := cMake ha h0 h1
  clear ha
  go_enter Try.func37, Try.ntmps37
  go_wp2_with (go_at_call 49; refine HM.mono ?_; rintro e w2 ⟨rfl, hT, hA⟩; have d8 := cell_at hA 8; simp at d8)
  go_ret2
  exact ⟨rfl, hT, hA⟩
theorem cCellRetryOld {w : World} {a : Nat} {F : Int} {L : Bool} {V c nu : Int} (ha : w.heap[a]? = some (cellObj F L V false c true false 0 nu)) :
    Calls Try.prog 37 #[.pointer (some ⟨a, 0, none⟩)] w fun e w' => e = .returned (.tuple #[.int .i64 nu, .int .i64 0]) ∧ w' = w := by
  have c5 := cell_at ha 5
  have c8 := cell_at ha 8
  simp at c5 c8
  clear ha
  go_enter Try.func37, Try.ntmps37
  go_wp2
  go_ret2
  exact ⟨rfl, rfl⟩
/-- 'cell' hands on what Get answers. -/
theorem cCell {w : World} {a : Addr} {u v : Int} {R : World → Prop} (h : Calls Try.prog 37 #[.pointer (some a)] w fun e w' => e = .returned (.tuple #[.int .i64 u, .int .i64 v]) ∧ R w') :
    Calls Try.prog 12 #[.pointer (some a)] w fun e w' => e = .returned (.tuple #[.int .i64 u, .int .i64 v]) ∧ R w' := by
  go_enter Try.func12, Try.ntmps12
  go_wp2_with (go_at_call 37; refine h.mono ?_; rintro e w2 ⟨rfl, hR⟩)
  go_ret2
  exact ⟨rfl, hR⟩
end Go.Proofs.Ytogcjdbggihbpaa

/-
  ScriptBehind by contract. (By the verifier; no statement.)
-/
import Derived.Test.YtbnpdfakniebnaaGreatDoorSpKn
import Derived.Test.YtbnpdfakniebnaaGreatDoorSpBhP
namespace Go.Proofs.YtbnpdfakniebnaaGreatDoor
open Go.RowKit
theorem ba_app (a b : Bs) : (⟨a.toArray⟩ ++ ⟨b.toArray⟩ : ByteArray) = ⟨(a ++ b).toArray⟩ := by
  apply ByteArray.ext
  simp
theorem ba_nl (a b : Bs) : (⟨a.toArray⟩ ++ ⟨#[10]⟩ ++ ⟨b.toArray⟩ : ByteArray) = ⟨(a ++ [10] ++ b).toArray⟩ := by
  rw [show (⟨#[10]⟩ : ByteArray) = ⟨([10] : Bs).toArray⟩ from rfl, ba_app, ba_app]
theorem FtAt.of {w0 w : World} {t : Bs} {s e : Value} {x : Nat × Nat} (h : PaP w0 w t s e) (hp : parseB t = .error x) : s = scZ ∧ ∃ fb, e = .iface 61 (.pointer (some ⟨fb, 0, none⟩)) ∧ ∀ w', Turned [] w w' → FtAt w' e x.1 x.2 := by
  unfold PaP at h
  rw [hp] at h
  obtain ⟨rfl, fb, rfl, hb, -⟩ := h
  have := parse_ne hp
  exact ⟨rfl, fb, rfl, fun w' ht => .inr ⟨fb, rfl, ht.heap hb (by simp), by omega⟩⟩
set_option maxRecDepth 100000 in
set_option maxHeartbeats 6400000 in
theorem cBehind {w : World} (hT : TabC w) (hP : PowW w) (hB : LibW w) {t m : Bs} : Calls Tryz.prog 8 #[sV t, sV m] w fun q w' => q = .returned (.bool true) ∧ Turned [] w w' := by
  have HT : Hid _ := hT
  have HB : Hid _ := hB
  have HK : Hid (Calls Tryz.prog 9 #[] w fun q w' => q = .returned (.bool true) ∧ Turned [] w w') := cKnown hT hP hB
  clear hT hP hB
  by_cases h1 : t.length ≤ 30000
  · have h1' : ¬ (30000 : Int) < (t.length : Int) := by omega
    by_cases h2 : m.length ≤ 30000
    · have h2' : ¬ (30000 : Int) < (m.length : Int) := by omega
      have HP1 : Hid (∀ W, Turned [] w W → Calls Tryz.prog 11 #[sV t] W fun q w' => ∃ s e, q = .returned (.tuple #[s, e]) ∧ Turned [] W w' ∧ PaP W w' t s e) := fun W h => cParse (HT.out.still h) (HB.out.still h) (by omega)
      have HP2 : Hid (∀ W, Turned [] w W → Calls Tryz.prog 11 #[.string (⟨t.toArray⟩ ++ ⟨#[10]⟩ ++ ⟨m.toArray⟩)] W fun q w' => ∃ s e, q = .returned (.tuple #[s, e]) ∧ Turned [] W w' ∧ PaP W w' (t ++ [10] ++ m) s e) := fun W h => by
        rw [ba_nl]
        exact cParse (HT.out.still h) (HB.out.still h) (by simp only [List.length_append, List.length_cons, List.length_nil]; omega)
      clear HT HB
      rcases hpe : parseB t with ⟨x1, x2⟩ | r
      · have HPe : Hid _ := hpe
        have HBh : Hid (¬ (x2 = 224 ∧ x1 = t.count 10 + 1) → parseB (t ++ [10] ++ m) = .error (x1, x2)) := fun hn => behind h1 h2 hpe hn
        clear hpe
        by_cases hE : x2 = 224
        · subst hE
          have hcl : t.count 10 ≤ 30000 := Nat.le_trans List.count_le_length h1
          have HCn : Hid (∀ W, Calls Tryz.prog 26 #[sV t, .string ⟨#[10]⟩] W fun e w' => e = .returned (.int .i64 (t.count 10)) ∧ w' = W) := fun W => Tryz.strings_Count_one ⟨t.toArray⟩ 10 W
          clear h1 h2
          generalize t.count 10 = n at *
          by_cases hL : x1 = n + 1
          · subst hL
            go_enter Tryz.func8, Tryz.ntmps8
            go_wp2_with (first | (go_at_call 12; refine (cTold (HF.out _ ((Turned.refl [] _).alloc _))).mono ?_; rintro r3 w3 ⟨rfl, ht⟩; have HT3 : Hid _ := (HT2.out.alloc _).trans ht; clear ht) | (go_at_call 11; refine (HP1.out _ HT1.out).mono ?_; rintro r2 w2 ⟨s, e, rfl, ht, hp⟩; have HT2 : Hid _ := HT1.out.trans ht; obtain ⟨rfl, fb, rfl, hf⟩ := FtAt.of hp HPe.out; have HF : Hid _ := hf; clear ht hf) | (go_at_call 9; refine HK.out.mono ?_; rintro r1 w1 ⟨rfl, ht⟩; have HT1 : Hid _ := ht; clear ht))
            go_quiet ((go_at_call 26; exact Calls.quiet_of_same (HCn.out _)))
            go_wp2
            go_ret
            exact ⟨rfl, by repeat first | exact HT3.out | refine Turned.drew ?_ | refine Turned.alloc ?_ _ | refine Turned.trans ?_ (Turned.drewN _ _)⟩
          · have hn : ¬ (224 = 224 ∧ x1 = n + 1) := fun h => hL h.2
            have hL' : ¬ ((x1 : Int) = (n : Int) + 1) := by omega
            go_enter Tryz.func8, Tryz.ntmps8
            go_wp2_with (first | (go_at_call 12; refine (cTold (HF.out _ ((Turned.refl [] _).alloc _))).mono ?_; rintro r3 w3 ⟨rfl, ht⟩; have HT3 : Hid _ := (HT2.out.alloc _).trans ht; clear ht) | (go_at_call 11; refine (HP1.out _ HT1.out).mono ?_; rintro r2 w2 ⟨s, e, rfl, ht, hp⟩; have HT2 : Hid _ := HT1.out.trans ht; obtain ⟨rfl, fb, rfl, hf⟩ := FtAt.of hp HPe.out; have HF : Hid _ := hf; clear ht hf) | (go_at_call 9; refine HK.out.mono ?_; rintro r1 w1 ⟨rfl, ht⟩; have HT1 : Hid _ := ht; clear ht))
            go_quiet ((go_at_call 26; exact Calls.quiet_of_same (HCn.out _)))
            go_wp2_with (first | (go_at_call 12; refine (cTold (HF2.out _ ((Turned.refl [] _).alloc _))).mono ?_; rintro r7 w7 ⟨rfl, ht⟩; have HT7 : Hid (Turned [] w w7) := (HT6.out.alloc _).trans ht; have hb := ((HC6.out.alloc _).trans ht).heap (blk_new w3 _) (by simp); have e0 := lt_of_heap hb; have e1 := (cell_at hb 0).trans (show _ = some (Value.int .i64 _) from rfl); have e2 := (cell_at hb 1).trans (show _ = some (Value.int .i64 _) from rfl); clear ht hb) | (go_at_call 11; refine (HP2.out _ (by repeat first | exact HT3.out | refine Turned.drew ?_ | refine Turned.alloc ?_ _ | refine Turned.trans ?_ (Turned.drewN _ _))).mono ?_; rintro r6 w6 ⟨s2, e2, rfl, ht, hp⟩; have HC6 : Hid _ := (Turned.drewN _ _).trans ht; have HT6 : Hid (Turned [] w w6) := Turned.trans (l := []) (by repeat first | exact HT3.out | refine Turned.drew ?_ | refine Turned.alloc ?_ _ | refine Turned.trans ?_ (Turned.drewN _ _)) ht; obtain ⟨rfl, fb2, rfl, hf⟩ := FtAt.of hp (HBh.out hn); have HF2 : Hid _ := hf; clear ht hf))
            go_ret
            exact ⟨rfl, by repeat first | exact HT7.out | refine Turned.drew ?_ | refine Turned.alloc ?_ _ | refine Turned.trans ?_ (Turned.drewN _ _)⟩
        · have hE' : ¬ ((x2 : Int) = 224) := by omega
          have hn : ¬ (x2 = 224 ∧ x1 = t.count 10 + 1) := fun h => hE h.1
          clear h1 h2
          go_enter Tryz.func8, Tryz.ntmps8
          go_wp2_with (first | (go_at_call 12; refine (cTold (HF.out _ ((Turned.refl [] _).alloc _))).mono ?_; rintro r3 w3 ⟨rfl, ht⟩; have HT3 : Hid _ := (HT2.out.alloc _).trans ht; clear ht) | (go_at_call 11; refine (HP1.out _ HT1.out).mono ?_; rintro r2 w2 ⟨s, e, rfl, ht, hp⟩; have HT2 : Hid _ := HT1.out.trans ht; obtain ⟨rfl, fb, rfl, hf⟩ := FtAt.of hp HPe.out; have HF : Hid _ := hf; clear ht hf) | (go_at_call 9; refine HK.out.mono ?_; rintro r1 w1 ⟨rfl, ht⟩; have HT1 : Hid _ := ht; clear ht))
          go_quiet (fail)
          go_wp2_with (first | (go_at_call 12; refine (cTold (HF2.out _ ((Turned.refl [] _).alloc _))).mono ?_; rintro r7 w7 ⟨rfl, ht⟩; have HT7 : Hid (Turned [] w w7) := (HT6.out.alloc _).trans ht; have hb := ((HC6.out.alloc _).trans ht).heap (blk_new w3 _) (by simp); have e0 := lt_of_heap hb; have e1 := (cell_at hb 0).trans (show _ = some (Value.int .i64 _) from rfl); have e2 := (cell_at hb 1).trans (show _ = some (Value.int .i64 _) from rfl); clear ht hb) | (go_at_call 11; refine (HP2.out _ (by repeat first | exact HT3.out | refine Turned.drew ?_ | refine Turned.alloc ?_ _ | refine Turned.trans ?_ (Turned.drewN _ _))).mono ?_; rintro r6 w6 ⟨s2, e2, rfl, ht, hp⟩; have HC6 : Hid _ := (Turned.drewN _ _).trans ht; have HT6 : Hid (Turned [] w w6) := Turned.trans (l := []) (by repeat first | exact HT3.out | refine Turned.drew ?_ | refine Turned.alloc ?_ _ | refine Turned.trans ?_ (Turned.drewN _ _)) ht; obtain ⟨rfl, fb2, rfl, hf⟩ := FtAt.of hp (HBh.out hn); have HF2 : Hid _ := hf; clear ht hf))
          go_ret
          exact ⟨rfl, by repeat first | exact HT7.out | refine Turned.drew ?_ | refine Turned.alloc ?_ _ | refine Turned.trans ?_ (Turned.drewN _ _)⟩
      · have HPe : Hid _ := hpe
        clear hpe h1 h2
        go_enter Tryz.func8, Tryz.ntmps8
        go_wp2_with (first | (go_at_call 12; refine (cTold (L := 0) (E := 0) (.inl ⟨rfl, rfl, rfl⟩)).mono ?_; rintro r3 w3 ⟨rfl, ht⟩; have HT3 : Hid _ := (HT2.out.alloc _).trans ht; clear ht) | (go_at_call 11; refine (HP1.out _ HT1.out).mono ?_; rintro r2 w2 ⟨s, e, rfl, ht, hp⟩; have HT2 : Hid _ := HT1.out.trans ht; obtain ⟨rfl, a1, c1, a2, c2, a3, c3, a4, c4, vb, rows, bd, rfl, -, -⟩ := hp.ok HPe.out; clear ht) | (go_at_call 9; refine HK.out.mono ?_; rintro r1 w1 ⟨rfl, ht⟩; have HT1 : Hid _ := ht; clear ht))
        go_ret
        exact ⟨rfl, HT3.out.alloc _⟩
    · have h2' : (30000 : Int) < (m.length : Int) := by omega
      clear h2
      go_enter Tryz.func8, Tryz.ntmps8
      go_wp2_with (go_at_call 9; refine HK.out.mono ?_; rintro r1 w1 ⟨rfl, ht⟩; have HT1 : Hid _ := ht; clear ht)
      go_ret
      exact ⟨rfl, HT1.out⟩
  · have h1' : (30000 : Int) < (t.length : Int) := by omega
    clear h1
    go_enter Tryz.func8, Tryz.ntmps8
    go_wp2_with (go_at_call 9; refine HK.out.mono ?_; rintro r1 w1 ⟨rfl, ht⟩; have HT1 : Hid _ := ht; clear ht)
    go_ret
    exact ⟨rfl, HT1.out⟩
end Go.Proofs.YtbnpdfakniebnaaGreatDoor

/-
  Lines and words of a text, by bytes; that the library's ways of cutting give them. (By the verifier; no statement.)
-/
import Derived.Lib.Split
import Derived.Lib.FieldsP
import Derived.Lib.SpaceUEq
import Derived.Lib.CutLaws
namespace Go.Proofs.YtbnpdfakniebnaaGreatDoor
open Go.Lib
def isBl (b : UInt8) : Bool := b == 32 || b == 9
def pBl (r : Nat) : Bool := r == 32 || r == 9
/-- The words of a line without a remark: what of a word is read so far, what is left. -/
def fieldsB : List UInt8 → List UInt8 → List (List UInt8)
  | cur, [] => if cur = [] then [] else [cur]
  | cur, b :: t => if isBl b then (if cur = [] then fieldsB [] t else cur :: fieldsB [] t) else fieldsB (cur ++ [b]) t
/-- A text's lines. -/
def linesB : List UInt8 → List UInt8 → List (List UInt8)
  | cur, [] => [cur]
  | cur, b :: t => if b = 10 then cur :: linesB [] t else linesB (cur ++ [b]) t
/-- A line without its remark. -/
def bareB (l : List UInt8) : List UInt8 := l.takeWhile (fun b => b != 35)
def wordsB (l : List UInt8) : List (List UInt8) := fieldsB [] (bareB l)

theorem b_skip : ∀ (k : Nat) (cur l : List UInt8), k ≤ l.length → (∀ j, j < k → isBl (l.getD j 0) = false) → fieldsB cur l = fieldsB (cur ++ l.take k) (l.drop k)
  | 0, cur, l, _, _ => by simp
  | k + 1, cur, [], h, _ => by simp at h
  | k + 1, cur, b :: t, h, hz => by
    have h0 : isBl b = false := hz 0 (by omega)
    rw [fieldsB, h0]
    rw [if_neg (by simp), b_skip k (cur ++ [b]) t (by simpa using h) (fun j hj => by have := hz (j + 1) (by omega); simpa using this)]
    simp
theorem blank_dec (n b0 b1 b2 b3 : Nat) (h : pBl (decodeN n b0 b1 b2 b3).1 = true) : (b0 = 32 ∨ b0 = 9) ∧ (decodeN n b0 b1 b2 b3).2 = 1 := by
  rcases decodeN_cases n b0 b1 b2 b3 with ⟨_, e⟩ | ⟨_, _, _, h1, e⟩ | ⟨_, _, _, _, h1, e⟩ | ⟨h1, _⟩ | e
  · rw [e] at h ⊢; simpa [pBl] using h
  · rw [e] at h; simp [pBl] at h; omega
  · rw [e] at h; simp [pBl] at h; omega
  · simp [pBl] at h; omega
  · rw [e] at h; simp [pBl] at h
theorem plain_dec (n b0 b1 b2 b3 : Nat) (hn : 1 ≤ n) (h : pBl (decodeN n b0 b1 b2 b3).1 = false) :
    1 ≤ (decodeN n b0 b1 b2 b3).2 ∧ (decodeN n b0 b1 b2 b3).2 ≤ n ∧ (decodeN n b0 b1 b2 b3).2 ≤ 4 ∧ (b0 ≠ 32 ∧ b0 ≠ 9) ∧ (2 ≤ (decodeN n b0 b1 b2 b3).2 → 128 ≤ b1) ∧ (3 ≤ (decodeN n b0 b1 b2 b3).2 → 128 ≤ b2) ∧ (4 ≤ (decodeN n b0 b1 b2 b3).2 → 128 ≤ b3) := by
  obtain ⟨c1, c2, c3, c4⟩ := decodeN_conts n b0 b1 b2 b3
  have h5 : (b0 ≠ 32 ∧ b0 ≠ 9) ∧ 1 ≤ (decodeN n b0 b1 b2 b3).2 := by
    rcases decodeN_cases n b0 b1 b2 b3 with ⟨_, e⟩ | ⟨_, _, _, h1, e⟩ | ⟨_, _, _, _, h1, e⟩ | ⟨h1, h2⟩ | e
    · rw [e] at h ⊢; simp [pBl] at h; exact ⟨h, Nat.le_refl _⟩
    · rw [e]; exact ⟨by omega, by simp⟩
    · rw [e]; exact ⟨by omega, by simp⟩
    · refine ⟨?_, by omega⟩
      have : ¬ b0 < 128 := fun hb => by rw [decodeN_ascii _ _ _ _ _ hb] at h1; simp only at h1; omega
      omega
    · rw [e]
      refine ⟨?_, by simp⟩
      have : ¬ b0 < 128 := fun hb => by rw [decodeN_ascii _ _ _ _ _ hb] at e; simp at e; omega
      omega
  refine ⟨h5.2, ?_, c4, h5.1, fun h => ?_, fun h => ?_, fun h => ?_⟩
  · have := decodeN_le_n' n b0 b1 b2 b3 hn
    exact this
  · have := (c1 h).1; omega
  · have := (c2 h).1; omega
  · have := (c3 h).1; omega
theorem isBl_ge {b : UInt8} (h : 128 ≤ b.toNat) : isBl b = false := by
  simp only [isBl, Bool.or_eq_false_iff, beq_eq_false_iff_ne, ne_eq]
  exact ⟨fun e => by subst e; simp at h, fun e => by subst e; simp at h⟩
theorem isBl_ne {b : UInt8} (h : b.toNat ≠ 32 ∧ b.toNat ≠ 9) : isBl b = false := by
  simp only [isBl, Bool.or_eq_false_iff, beq_eq_false_iff_ne, ne_eq]
  exact ⟨fun e => by subst e; simp at h, fun e => by subst e; simp at h⟩
theorem isBl_of {b : UInt8} (h : b.toNat = 32 ∨ b.toNat = 9) : isBl b = true := by
  simp only [isBl, Bool.or_eq_true, beq_iff_eq]
  rcases h with h | h
  · left; exact UInt8.toNat_inj.1 h
  · right; exact UInt8.toNat_inj.1 h
theorem fieldsB_nil (cur : List UInt8) : fieldsB cur [] = if cur = [] then [] else [cur] := rfl
theorem spans_b (s : ByteArray) : ∀ (f pos : Nat) (st : Option Nat) (acc : List (Nat × Nat)), s.size ≤ pos + f → pos ≤ s.size → (∀ a, st = some a → a < pos) →
    acc.map (fun p => pieceU s.data.toList p.1 p.2) ++ fieldsB (openPiece s.data.toList st pos) (s.data.toList.drop pos) = (closeSpans s (spansFromP pBl s f pos st acc)).map (fun p => pieceU s.data.toList p.1 p.2)
  | 0, pos, st, acc, h, hp, hst => by
    obtain rfl : pos = s.size := by omega
    have hd : s.data.toList.drop s.size = [] := List.drop_eq_nil_of_le (by rw [← size_eq]; exact Nat.le_refl _)
    rw [hd, fieldsB_nil]
    cases st with
    | none => simp [spansFromP, closeSpans, openPiece]
    | some a =>
      have := pieceU_ne s.data.toList a s.size (hst a rfl) (by rw [← size_eq]; exact Nat.le_refl _)
      simp [spansFromP, closeSpans, openPiece, this]
  | f + 1, pos, st, acc, h, hp, hst => by
    by_cases hlt : pos < s.size
    · have hlen : s.data.toList.length = s.size := (size_eq s).symm
      have hdec := decode_N s pos
      simp only [spansFromP, if_pos hlt]
      cases hsp : pBl (Utf8.decode s pos).1 with
      | true =>
        rw [hdec] at hsp
        obtain ⟨hb, hw⟩ := blank_dec _ _ _ _ _ hsp
        rw [← hdec] at hw
        rw [hw]
        have hcons : s.data.toList.drop pos = s.data.toList.getD pos 0 :: s.data.toList.drop (pos + 1) := by
          rw [List.drop_eq_getElem_cons (by omega), List.getD_eq_getElem?_getD, List.getElem?_eq_getElem (by omega)]
          rfl
        have hbl := isBl_of hb
        rw [hcons, fieldsB, if_pos hbl]
        simp only [if_true]
        cases st with
        | none =>
          have ih := spans_b s f (pos + 1) none acc (by omega) (by omega) (fun a h => by cases h)
          simpa [openPiece] using ih
        | some a =>
          have hpn := pieceU_ne s.data.toList a pos (hst a rfl) (by omega)
          have ih := spans_b s f (pos + 1) none (acc ++ [(a, pos)]) (by omega) (by omega) (fun a h => by cases h)
          simpa [openPiece, hpn] using ih
      | false =>
        rw [hdec] at hsp
        obtain ⟨h1, h2, h4, hb0, hb1, hb2, hb3⟩ := plain_dec _ _ _ _ _ (by omega) hsp
        rw [← hdec] at h1 h2 h4 hb1 hb2 hb3
        have hwn : pos + (Utf8.decode s pos).2 ≤ s.size := by omega
        rw [b_skip (Utf8.decode s pos).2 _ (s.data.toList.drop pos) (by rw [List.length_drop]; omega) (fun j hj => by
          rw [getD_dropU]
          rcases (by omega : j = 0 ∨ j = 1 ∨ j = 2 ∨ j = 3) with rfl | rfl | rfl | rfl
          · exact isBl_ne hb0
          · exact isBl_ge (hb1 (by omega))
          · exact isBl_ge (hb2 (by omega))
          · exact isBl_ge (hb3 (by omega))), List.drop_drop]
        simp only [Bool.false_eq_true, if_false]
        cases st with
        | none =>
          have ih := spans_b s f (pos + (Utf8.decode s pos).2) (some pos) acc (by omega) hwn (fun a h => by cases h; omega)
          have e : ([] : List UInt8) ++ (s.data.toList.drop pos).take (Utf8.decode s pos).2 = pieceU s.data.toList pos (pos + (Utf8.decode s pos).2) := by
            unfold pieceU
            rw [List.nil_append, Nat.add_sub_cancel_left]
          simp only [openPiece] at ih ⊢
          rw [e]
          exact ih
        | some a =>
          have ih := spans_b s f (pos + (Utf8.decode s pos).2) (some a) acc (by omega) hwn (fun b h => by cases h; have := hst a rfl; omega)
          simp only [openPiece] at ih ⊢
          rw [pieceU_grow _ _ _ _ (Nat.le_of_lt (hst a rfl))]
          exact ih
    · obtain rfl : pos = s.size := by omega
      have hd : s.data.toList.drop s.size = [] := List.drop_eq_nil_of_le (by rw [← size_eq]; exact Nat.le_refl _)
      rw [hd, fieldsB_nil, spansFromP_end pBl s _ _ _ _ hlt]
      cases st with
      | none => simp [closeSpans, openPiece]
      | some a =>
        have := pieceU_ne s.data.toList a s.size (hst a rfl) (by rw [← size_eq]; exact Nat.le_refl _)
        simp [closeSpans, openPiece, this]
/-- The pieces that strings.FieldsFunc gives. -/
theorem fields_b (s : ByteArray) : (goFieldsP pBl s).map (fun x => x.data.toList) = fieldsB [] s.data.toList := by
  have h := spans_b s s.size 0 none [] (by omega) (Nat.zero_le _) (fun a h => by cases h)
  simp only [List.map_nil, List.nil_append, openPiece, List.drop_zero] at h
  unfold goFieldsP spansOfP
  rw [h, List.map_map]
  congr 1
  funext x
  simp only [Function.comp, pieceU]
  rw [extract_data]
/-- Where a byte stands first. -/
theorem index_one : ∀ (c : UInt8) (a r : List UInt8), c ∉ a → index (a ++ c :: r) [c] = a.length
  | c, [], r, _ => by simp [index, List.isPrefixOf]
  | c, b :: a, r, h => by
    rw [List.mem_cons, not_or] at h
    have ih := index_one c a r h.2
    have hp : List.isPrefixOf [c] (b :: (a ++ c :: r)) = false := by simp [List.isPrefixOf, h.1]
    rw [List.cons_append, index, hp, ih]
    have : ((a.length : Int) == -1) = false := by rw [beq_eq_false_iff_ne]; omega
    simp [this]
theorem index_no : ∀ (c : UInt8) (a : List UInt8), c ∉ a → index a [c] = -1
  | c, [], _ => by simp [index]
  | c, b :: a, h => by
    rw [List.mem_cons, not_or] at h
    have ih := index_no c a h.2
    have hp : List.isPrefixOf [c] (b :: a) = false := by simp [List.isPrefixOf, h.1]
    rw [index, hp, ih]
    simp
theorem cut_bare (l : List UInt8) : (cut l [35]).1 = bareB l := by
  have key : ∀ l : List UInt8, (35 ∉ l ∧ bareB l = l) ∨ ∃ a r, l = a ++ 35 :: r ∧ 35 ∉ a ∧ bareB l = a := by
    intro l
    induction l with
    | nil => exact .inl ⟨by simp, rfl⟩
    | cons b t ih =>
      by_cases hb : b = 35
      · subst hb; exact .inr ⟨[], t, rfl, by simp, by simp [bareB]⟩
      · have hbb : bareB (b :: t) = b :: bareB t := by simp [bareB, hb]
        rcases ih with ⟨h1, h2⟩ | ⟨a, r, h1, h2, h3⟩
        · refine .inl ⟨by rw [List.mem_cons, not_or]; exact ⟨fun e => hb e.symm, h1⟩, by rw [hbb, h2]⟩
        · refine .inr ⟨b :: a, r, by rw [h1]; rfl, by rw [List.mem_cons, not_or]; exact ⟨fun e => hb e.symm, h2⟩, by rw [hbb, h3]⟩
  unfold cut
  rcases key l with ⟨h1, h2⟩ | ⟨a, r, h1, h2, h3⟩
  · rw [index_no 35 l h1, if_neg (by omega), h2]
  · rw [h3, h1, index_one 35 a r h2, if_pos (by omega)]
    simp
theorem lines_run : ∀ (a cur r : List UInt8), 10 ∉ a → linesB cur (a ++ 10 :: r) = (cur ++ a) :: linesB [] r
  | [], cur, r, _ => by simp [linesB]
  | b :: a, cur, r, h => by
    rw [List.mem_cons, not_or] at h
    rw [List.cons_append, linesB, if_neg (fun e => h.1 e.symm), lines_run a (cur ++ [b]) r h.2]
    simp
theorem lines_one : ∀ (a cur : List UInt8), 10 ∉ a → linesB cur a = [cur ++ a]
  | [], cur, _ => by simp [linesB]
  | b :: a, cur, h => by
    rw [List.mem_cons, not_or] at h
    rw [linesB, if_neg (fun e => h.1 e.symm), lines_one a (cur ++ [b]) h.2]
    simp
theorem first_nl : ∀ l : List UInt8, 10 ∉ l ∨ ∃ a r, l = a ++ 10 :: r ∧ 10 ∉ a
  | [] => .inl (by simp)
  | b :: t => by
    by_cases hb : b = 10
    · subst hb; exact .inr ⟨[], t, rfl, by simp⟩
    · rcases first_nl t with h1 | ⟨a, r, h1, h2⟩
      · exact .inl (by rw [List.mem_cons, not_or]; exact ⟨fun e => hb e.symm, h1⟩)
      · exact .inr ⟨b :: a, r, by rw [h1]; rfl, by rw [List.mem_cons, not_or]; exact ⟨fun e => hb e.symm, h2⟩⟩
theorem split_lines : ∀ (n : Nat) (l : List UInt8), l.length ≤ n → split l [10] = linesB [] l
  | n, l, hn => by
    unfold split
    rcases first_nl l with h | ⟨a, r, rfl, h2⟩
    · rw [count_miss (index_no 10 l h), lines_one l [] h]; rfl
    · have hi := index_one 10 a r h2
      have hd : (a ++ 10 :: r).drop (a.length + 1) = r := by rw [List.drop_append]; simp
      rw [count_hit (by simp) hi, lines_run a [] r h2]
      show splitK [10] 0 (1 + count ((a ++ 10 :: r).drop (a.length + 1)) [10]) _ = _
      rw [hd, Nat.add_comm, splitK, hi]
      have h3 : ((a.length : Int) == -1) = false := by rw [beq_eq_false_iff_ne]; omega
      rw [if_neg (by rw [h3]; simp)]
      have h4 : (a ++ 10 :: r).take ((a.length : Int).toNat + 0) = a := by simp
      have h5 : (a ++ 10 :: r).drop ((a.length : Int).toNat + ([10] : List UInt8).length) = r := hd
      rw [h4, h5]
      cases n with
      | zero => simp at hn
      | succ n => rw [show splitK [10] 0 (count r [10]) r = _ from split_lines n r (by simp at hn; omega)]; rfl
def nlB : ByteArray := ⟨#[10]⟩
theorem lines_b (s : ByteArray) : (splitB nlB 0 (countB s nlB) s).map (fun x => x.data.toList) = linesB [] s.data.toList := by
  rw [splitB_data, ← split_lines s.data.toList.length s.data.toList (Nat.le_refl _)]
  rfl
end Go.Proofs.YtbnpdfakniebnaaGreatDoor

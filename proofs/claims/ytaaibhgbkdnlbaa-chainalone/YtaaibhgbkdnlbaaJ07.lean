/-
  Plain mathematics of words, keys and parts; nothing of the program: the answers of the document as functions on integers, and what they do.
-/
import Derived.Laws.Bits64
import Derived.Test.YtaaibhgbkdnlbaaJ04
namespace Go.Proofs.Ytaaibhgbkdnlbaa

def packV (i t : Int) : Int := if (0 ≤ i ∧ i ≤ 1048575) ∧ (0 ≤ t ∧ t ≤ 1099511627775) then i * 1099511627776 + t else 0
def packE (i t : Int) : Int := if 0 ≤ i ∧ i ≤ 1048575 then (if 0 ≤ t ∧ t ≤ 1099511627775 then 0 else 11) else 10
def idxV (w : Int) : Int := if 0 ≤ w ∧ w ≤ 1152921504606846975 then w / 1099511627776 else 0
def tagV (w : Int) : Int := if 0 ≤ w ∧ w ≤ 1152921504606846975 then w % 1099511627776 else 0
def nextV (w i : Int) : Int := if (0 ≤ i ∧ i ≤ 1048575) ∧ (0 ≤ w ∧ w ≤ 1152921504606846975) then i * 1099511627776 + (w % 1099511627776 + 1) % 1099511627776 else 0
def nextE (w i : Int) : Int := if 0 ≤ i ∧ i ≤ 1048575 then (if 0 ≤ w ∧ w ≤ 1152921504606846975 then 0 else 11) else 10

/- bit operations on integers of 64 bits that are not below 0 -/
theorem ofInt_i64 (a : Nat) (ha : a < 9223372036854775808) : (BitVec.ofInt 64 (a : Int)).toNat = a := by
  rw [BitVec.ofInt_natCast, BitVec.toNat_ofNat]; exact Nat.mod_eq_of_lt (by omega)
theorem wrapI64 (n : Int) (h0 : 0 ≤ n) (h : n < 9223372036854775808) : IntKind.i64.wrap n = n := by
  simp [IntKind.wrap, IntKind.bits, IntKind.signed]; omega
theorem i64_and_nat (a b : Nat) (ha : a < 9223372036854775808) (hb : b < 9223372036854775808) : bits .and .i64 (a : Int) (b : Int) = ((a &&& b : Nat) : Int) := by
  have hx : a &&& b ≤ a := Nat.and_le_left
  show IntKind.i64.wrap ((BitVec.ofInt 64 (a : Int) &&& BitVec.ofInt 64 (b : Int)).toNat : Int) = _
  rw [BitVec.toNat_and, ofInt_i64 a ha, ofInt_i64 b hb]
  exact wrapI64 _ (by omega) (by omega)
theorem i64_or_nat (a b : Nat) (ha : a < 9223372036854775808) (hb : b < 9223372036854775808) : bits .or .i64 (a : Int) (b : Int) = ((a ||| b : Nat) : Int) := by
  have hx : a ||| b < 2 ^ 63 := Nat.or_lt_two_pow (by omega) (by omega)
  show IntKind.i64.wrap ((BitVec.ofInt 64 (a : Int) ||| BitVec.ofInt 64 (b : Int)).toNat : Int) = _
  rw [BitVec.toNat_or, ofInt_i64 a ha, ofInt_i64 b hb]
  exact wrapI64 _ (by omega) (by omega)
theorem i64_xor_nat (a b : Nat) (ha : a < 9223372036854775808) (hb : b < 9223372036854775808) : bits .xor .i64 (a : Int) (b : Int) = ((a ^^^ b : Nat) : Int) := by
  have hx : a ^^^ b < 2 ^ 63 := Nat.xor_lt_two_pow (by omega) (by omega)
  show IntKind.i64.wrap ((BitVec.ofInt 64 (a : Int) ^^^ BitVec.ofInt 64 (b : Int)).toNat : Int) = _
  rw [BitVec.toNat_xor, ofInt_i64 a ha, ofInt_i64 b hb]
  exact wrapI64 _ (by omega) (by omega)
theorem i64_and_mask (a : Int) (k : Nat) (m : Int) (hm : m = 2 ^ k - 1) (hk : k < 63) (h0 : 0 ≤ a) (ha : a < 9223372036854775808) : bits .and .i64 a m = a % (m + 1) := by
  obtain ⟨A, rfl⟩ := Int.eq_ofNat_of_zero_le h0
  have h2 : 2 ^ k < 2 ^ 63 := Nat.pow_lt_pow_right (by omega) hk
  have h1 : 1 ≤ 2 ^ k := Nat.one_le_two_pow
  have e : m = ((2 ^ k - 1 : Nat) : Int) := by
    rw [hm]; push_cast [h1]; rfl
  rw [e, i64_and_nat A _ (by omega) (by omega), Nat.and_two_pow_sub_one_eq_mod]
  push_cast [h1]
  congr 1
  omega
theorem i64_or_join (i t : Int) (h0 : 0 ≤ i) (h1 : i ≤ 1048575) (h2 : 0 ≤ t) (h3 : t ≤ 1099511627775) : bits .or .i64 (i * 1099511627776) t = i * 1099511627776 + t := by
  obtain ⟨I, rfl⟩ := Int.eq_ofNat_of_zero_le h0
  obtain ⟨T, rfl⟩ := Int.eq_ofNat_of_zero_le h2
  have hT : T < 2 ^ 40 := by omega
  have e := Nat.two_pow_add_eq_or_of_lt hT I
  have e1 : ((I : Int) * 1099511627776) = ((2 ^ 40 * I : Nat) : Int) := by omega
  rw [e1, i64_or_nat _ _ (by omega) (by omega), ← e]
  omega
theorem i64_and_index (x : Int) (h0 : 0 ≤ x) (h1 : x ≤ 1152921504606846975) : bits .and .i64 (x / 1099511627776) 1048575 = x / 1099511627776 := by
  rw [i64_and_mask _ 20 1048575 (by decide) (by decide) (by omega) (by omega)]; omega
theorem i64_and_tag (x : Int) (h0 : 0 ≤ x) (h1 : x ≤ 1152921504606846976) : bits .and .i64 x 1099511627775 = x % 1099511627776 := by
  rw [i64_and_mask _ 40 1099511627775 (by decide) (by decide) (by omega) (by omega)]; omega
/- the answers, way by way -/
theorem pack_ok (i t : Int) (h0 : 0 ≤ i) (h1 : i ≤ 1048575) (h2 : 0 ≤ t) (h3 : t ≤ 1099511627775) : packV i t = i * 1099511627776 + t ∧ packE i t = 0 := by
  simp [packV, packE, h0, h1, h2, h3]
theorem pack_badI (i t : Int) (h : i < 0 ∨ 1048575 < i) : packV i t = 0 ∧ packE i t = 10 := by
  unfold packV packE; constructor
  · rw [if_neg (by omega)]
  · rw [if_neg (by omega)]
theorem pack_badT (i t : Int) (h0 : 0 ≤ i) (h1 : i ≤ 1048575) (h : t < 0 ∨ 1099511627775 < t) : packV i t = 0 ∧ packE i t = 11 := by
  unfold packV packE; constructor
  · rw [if_neg (by omega)]
  · rw [if_pos (by omega), if_neg (by omega)]
theorem idx_ok (x : Int) (h0 : 0 ≤ x) (h1 : x ≤ 1152921504606846975) : idxV x = x / 1099511627776 := by simp [idxV, h0, h1]
theorem idx_bad (x : Int) (h : x < 0 ∨ 1152921504606846975 < x) : idxV x = 0 := by unfold idxV; rw [if_neg (by omega)]
theorem tag_ok (x : Int) (h0 : 0 ≤ x) (h1 : x ≤ 1152921504606846975) : tagV x = x % 1099511627776 := by simp [tagV, h0, h1]
theorem tag_bad (x : Int) (h : x < 0 ∨ 1152921504606846975 < x) : tagV x = 0 := by unfold tagV; rw [if_neg (by omega)]
theorem next_ok (x i : Int) (h0 : 0 ≤ i) (h1 : i ≤ 1048575) (h2 : 0 ≤ x) (h3 : x ≤ 1152921504606846975) : nextV x i = i * 1099511627776 + (x % 1099511627776 + 1) % 1099511627776 ∧ nextE x i = 0 := by
  simp [nextV, nextE, h0, h1, h2, h3]
theorem next_badI (x i : Int) (h : i < 0 ∨ 1048575 < i) : nextV x i = 0 ∧ nextE x i = 10 := by
  unfold nextV nextE; constructor
  · rw [if_neg (by omega)]
  · rw [if_neg (by omega)]
theorem next_badW (x i : Int) (h0 : 0 ≤ i) (h1 : i ≤ 1048575) (h : x < 0 ∨ 1152921504606846975 < x) : nextV x i = 0 ∧ nextE x i = 11 := by
  unfold nextV nextE; constructor
  · rw [if_neg (by omega)]
  · rw [if_pos (by omega), if_neg (by omega)]
theorem ret_int {k : IntKind} {a b : Int} (h : a = b) : Ending.returned (.int k a) = .returned (.int k b) := by rw [h]
theorem ret_two {k l : IntKind} {a b c d : Int} (h : a = c) (g : b = d) : Ending.returned (.tuple #[.int k a, .int l b]) = .returned (.tuple #[.int k c, .int l d]) := by rw [h, g]
theorem ret_three {k l m : IntKind} {a b c d e f : Int} (h : a = d) (g : b = e) (i : c = f) : Ending.returned (.tuple #[.int k a, .int l b, .int m c]) = .returned (.tuple #[.int k d, .int l e, .int m f]) := by rw [h, g, i]
end Go.Proofs.Ytaaibhgbkdnlbaa
/- A pool as a document has it, and a long row of calls on it: nothing of the program. -/
namespace Go.Proofs.Ytaaibhgbkdnlbaa

structure Slot where
  gen : Int
  mark : Int
  link : Int
  a : Int
  b : Int
  c : Int
  d : Int
/-- A pool: its slots, the pile's head word, for each place the one below it, the faults. -/
structure PSt where
  n : Nat
  slot : Nat → Slot
  h : Int
  f : Nat → Nat
  faults : Int
def PSt.take (s : PSt) (i : Nat) (a b c d link : Int) : PSt := { s with slot := upd s.slot i ⟨(s.slot i).gen + 1, 0, link, a, b, c, d⟩, h := nextV s.h (s.f i) }
def PSt.give (s : PSt) (i : Nat) (P : Int) : PSt := { s with slot := upd s.slot i ⟨(s.slot i).gen + 1, P, P, P, P, P, P⟩, h := nextV s.h i, f := upd s.f i (idxV s.h).toNat }
def PSt.fault (s : PSt) : PSt := { s with faults := s.faults + 1 }
def PSt.putMark (s : PSt) (i : Nat) (v : Int) : PSt := { s with slot := upd s.slot i { s.slot i with mark := v } }
def PSt.putLink (s : PSt) (i : Nat) (v : Int) : PSt := { s with slot := upd s.slot i { s.slot i with link := v } }
/-- What every pool keeps to, spoilt or not. -/
structure PSt.Ok (s : PSt) : Prop where
  n1 : 1 ≤ s.n
  n2 : s.n ≤ 4096
  h0 : 0 ≤ s.h
  h1 : s.h ≤ 1152921504606846975
  top : idxV s.h ≤ s.n
  low : ∀ k, k ≤ s.n → s.f k ≤ s.n
def hnd (i : Nat) (g : Int) : Int := (i : Int) * 1099511627776 + g
theorem hnd_idx {i : Nat} {g : Int} (hi : i ≤ 4096) (h0 : 0 ≤ g) (h1 : g < 1099511627776) : idxV (hnd i g) = i := by
  unfold hnd
  rw [idx_ok _ (by omega) (by omega)]; omega
theorem hnd_tag {i : Nat} {g : Int} (hi : i ≤ 4096) (h0 : 0 ≤ g) (h1 : g < 1099511627776) : tagV (hnd i g) = g := by
  unfold hnd
  rw [tag_ok _ (by omega) (by omega)]; omega
theorem nextV_word {h : Int} {i : Nat} (hi : i ≤ 4096) (h0 : 0 ≤ h) (h1 : h ≤ 1152921504606846975) : 0 ≤ nextV h i ∧ nextV h i ≤ 1152921504606846975 ∧ idxV (nextV h i) = i := by
  have e := (next_ok h i (by omega) (by omega) h0 h1).1
  rw [e]
  refine ⟨by omega, by omega, ?_⟩
  rw [idx_ok _ (by omega) (by omega)]; omega
theorem idx_nat {h : Int} (h0 : 0 ≤ h) : 0 ≤ idxV h := by unfold idxV; split <;> omega
theorem PSt.Ok.take {s : PSt} (h : s.Ok) {i : Nat} (hi : i ≤ s.n) (a b c d link : Int) : (s.take i a b c d link).Ok := by
  have hl := h.low i hi
  have hn := h.n2
  obtain ⟨w0, w1, w2⟩ := nextV_word (h := s.h) (i := s.f i) (by omega) h.h0 h.h1
  exact ⟨h.n1, h.n2, w0, w1, by show idxV (nextV s.h (s.f i)) ≤ (s.n : Int); rw [w2]; omega, h.low⟩
theorem PSt.Ok.give {s : PSt} (h : s.Ok) {i : Nat} (hi : i ≤ s.n) (P : Int) : (s.give i P).Ok := by
  have hn := h.n2
  obtain ⟨w0, w1, w2⟩ := nextV_word (h := s.h) (i := i) (by omega) h.h0 h.h1
  refine ⟨h.n1, h.n2, w0, w1, by show idxV (nextV s.h i) ≤ (s.n : Int); rw [w2]; omega, fun k hk => ?_⟩
  show upd s.f i (idxV s.h).toNat k ≤ s.n
  by_cases e : k = i
  · subst e
    rw [upd_same]
    have := h.top
    omega
  · rw [upd_other _ _ e]; exact h.low k hk
/-- The places from i on are those, one below the other. -/
def Linked (f : Nat → Nat) : Nat → List Nat → Prop
  | i, [] => i = 0
  | i, x :: l => i = x ∧ x ≠ 0 ∧ Linked f (f x) l
theorem Linked.upd {f : Nat → Nat} {k v : Nat} : ∀ {l : List Nat} {i : Nat}, Linked f i l → k ∉ l → Linked (upd f k v) i l
  | [], _, h, _ => h
  | x :: l, i, ⟨h1, h2, h3⟩, hk => by
    have e : x ≠ k := fun e => hk (by simp [e])
    refine ⟨h1, h2, ?_⟩
    rw [upd_other _ _ e]
    exact Linked.upd h3 (fun e => hk (by simp [e]))
structure Held where
  h : Int
  mark : Int
  link : Int
  a : Int
  b : Int
  c : Int
  d : Int
def Held.no (e : Held) : Int := idxV e.h
/-- e's slot is in use and holds what e says. -/
def HeldOk (s : PSt) (St : List Nat) (e : Held) : Prop :=
  ∃ (i : Nat) (g : Int), e.h = hnd i g ∧ 1 ≤ i ∧ i ≤ s.n ∧ i ∉ St ∧ g % 2 = 1 ∧ s.slot i = ⟨g, e.mark, e.link, e.a, e.b, e.c, e.d⟩
def Past (s : PSt) (last : Int) : Prop := last = 0 ∨ ∃ (i : Nat) (g : Int), last = hnd i g ∧ 1 ≤ i ∧ i ≤ s.n ∧ 0 ≤ g ∧ g % 2 = 1 ∧ g < (s.slot i).gen
structure PL (s : PSt) (m : Nat) (HL : Nat → Held) (St : List Nat) (last : Int) (it : Nat) : Prop where
  ok : s.Ok
  top : Linked s.f (idxV s.h).toNat St
  count : St.length + m = s.n
  small : ∀ x ∈ St, 1 ≤ x ∧ x ≤ s.n
  nodup : St.Nodup
  held : ∀ p, p < m → HeldOk s St (HL p)
  apart : ∀ p q, p < m → q < m → (HL p).no = (HL q).no → p = q
  even : ∀ x ∈ St, (s.slot x).gen % 2 = 0
  gens : ∀ i, 1 ≤ i → i ≤ s.n → 0 ≤ (s.slot i).gen ∧ (s.slot i).gen ≤ it
  last : Past s last
  fits : it ≤ 1000000
theorem PL.more {s : PSt} {m : Nat} {HL : Nat → Held} {St : List Nat} {last : Int} {it : Nat} (h : PL s m HL St last it) (hf : it + 1 ≤ 1000000) : PL s m HL St last (it + 1) :=
  ⟨h.ok, h.top, h.count, h.small, h.nodup, h.held, h.apart, h.even, fun i h1 h2 => by have := h.gens i h1 h2; omega, h.last, hf⟩
theorem PL.fault {s : PSt} {m : Nat} {HL : Nat → Held} {St : List Nat} {last : Int} {it : Nat} (h : PL s m HL St last it) (hf : it + 1 ≤ 1000000) : PL s.fault m HL St last (it + 1) :=
  ⟨⟨h.ok.n1, h.ok.n2, h.ok.h0, h.ok.h1, h.ok.top, h.ok.low⟩, h.top, h.count, h.small, h.nodup, h.held, h.apart, h.even, fun i h1 h2 => by have := h.gens i h1 h2; show 0 ≤ (s.slot i).gen ∧ (s.slot i).gen ≤ ((it + 1 : Nat) : Int); omega, h.last, hf⟩
/-- The top is there just if not all are held. -/
theorem PL.empty {s : PSt} {m : Nat} {HL : Nat → Held} {last : Int} {it : Nat} (h : PL s m HL [] last it) : idxV s.h = 0 ∧ m = s.n := by
  have h1 : (idxV s.h).toNat = 0 := h.top
  have h2 := idx_nat h.ok.h0
  have h3 := h.count
  simp at h3
  exact ⟨by omega, h3⟩
theorem PL.some {s : PSt} {m : Nat} {HL : Nat → Held} {i : Nat} {St : List Nat} {last : Int} {it : Nat} (h : PL s m HL (i :: St) last it) : idxV s.h = i ∧ i ≠ 0 ∧ i ≤ s.n ∧ m < s.n := by
  obtain ⟨h1, h2, -⟩ := h.top
  have h3 := idx_nat h.ok.h0
  have h4 := h.count
  have h5 := h.small i (by simp)
  simp at h4
  exact ⟨by omega, h2, h5.2, by omega⟩
theorem PL.take {s : PSt} {m : Nat} {HL : Nat → Held} {i : Nat} {St : List Nat} {last : Int} {it : Nat} (h : PL s m HL (i :: St) last it) (hf : it + 1 ≤ 1000000) (a b c d link : Int) :
    PL (s.take i a b c d link) (m + 1) (upd HL m ⟨hnd i ((s.slot i).gen + 1), 0, link, a, b, c, d⟩) St last (it + 1) := by
  obtain ⟨-, h0, hn, hm⟩ := h.some
  have hnd' := List.nodup_cons.1 h.nodup
  have hg := h.gens i (by omega) hn
  have hev := h.even i (by simp)
  have hok := h.ok
  have hsl : ∀ j, (s.take i a b c d link).slot j = if j = i then ⟨(s.slot i).gen + 1, 0, link, a, b, c, d⟩ else s.slot j := fun j => rfl
  have n2 := h.ok.n2
  have hl := hok.low i hn
  obtain ⟨w0, w1, w2⟩ := nextV_word (h := s.h) (i := s.f i) (by omega) hok.h0 hok.h1
  have hfit := h.fits
  have hno : ∀ p, p < m → (HL p).no ≠ i := fun p hp e => by
    obtain ⟨j, g, e1, e2, e3, e4, e5, e6⟩ := h.held p hp
    have hg' := h.gens j e2 e3
    rw [e6] at hg'
    have := hnd_idx (i := j) (g := g) (by omega) (by simpa using hg'.1) (by have := hg'.2; simp at this; omega)
    rw [Held.no, e1, this] at e
    have : j = i := by omega
    exact e4 (by simp [this])
  refine ⟨hok.take hn _ _ _ _ _, ?_, ?_, fun x hx => h.small x (by simp [hx]), hnd'.2, fun p hp => ?_, fun p q hp hq e => ?_, fun x hx => ?_, fun j h1 h2 => ?_, ?_, hf⟩
  · obtain ⟨-, -, h3⟩ := h.top
    show Linked s.f (idxV (nextV s.h (s.f i))).toNat St
    rw [w2]
    exact h3
  · have := h.count
    show St.length + (m + 1) = s.n
    simp at this; omega
  · by_cases e : p = m
    · subst e
      rw [upd_same]
      exact ⟨i, (s.slot i).gen + 1, rfl, by omega, hn, hnd'.1, by omega, by rw [hsl, if_pos rfl]⟩
    · rw [upd_other _ _ e]
      obtain ⟨j, g, e1, e2, e3, e4, e5, e6⟩ := h.held p (by omega)
      have : j ≠ i := fun x => e4 (by simp [x])
      exact ⟨j, g, e1, e2, e3, fun x => e4 (by simp [x]), e5, by rw [hsl, if_neg this]; exact e6⟩
  · have hself : (⟨hnd i ((s.slot i).gen + 1), 0, link, a, b, c, d⟩ : Held).no = i := hnd_idx (by omega) (by omega) (by omega)
    by_cases e1 : p = m
    · subst e1
      by_cases e2 : q = p
      · exact e2.symm
      · rw [upd_same, upd_other _ _ e2, hself] at e
        exact absurd e.symm (hno q (by omega))
    · by_cases e2 : q = m
      · subst e2
        rw [upd_same, upd_other _ _ e1, hself] at e
        exact absurd e (hno p (by omega))
      · rw [upd_other _ _ e1, upd_other _ _ e2] at e
        exact h.apart p q (by omega) (by omega) e
  · have : x ≠ i := fun e => hnd'.1 (e ▸ hx)
    rw [hsl, if_neg this]
    exact h.even x (by simp [hx])
  · rw [hsl]
    by_cases e : j = i
    · rw [if_pos e]; simp; omega
    · rw [if_neg e]; have := h.gens j h1 h2; omega
  · rcases h.last with e | ⟨j, g, e1, e2, e3, e4, e5, e6⟩
    · exact .inl e
    · refine .inr ⟨j, g, e1, e2, e3, e4, e5, ?_⟩
      rw [hsl]
      by_cases e : j = i
      · rw [if_pos e]; subst e; simp; omega
      · rw [if_neg e]; exact e6
theorem PL.at_held {s : PSt} {m : Nat} {HL : Nat → Held} {St : List Nat} {last : Int} {it : Nat} (h : PL s m HL St last it) {p : Nat} (hp : p < m) :
    ∃ (i : Nat) (g : Int), (HL p).h = hnd i g ∧ 1 ≤ i ∧ i ≤ s.n ∧ i ∉ St ∧ 0 ≤ g ∧ g ≤ it ∧ g % 2 = 1 ∧ (HL p).no = i ∧ s.slot i = ⟨g, (HL p).mark, (HL p).link, (HL p).a, (HL p).b, (HL p).c, (HL p).d⟩ := by
  obtain ⟨i, g, e1, e2, e3, e4, e5, e6⟩ := h.held p hp
  have hg := h.gens i e2 e3
  rw [e6] at hg
  have n2 := h.ok.n2
  have hf := h.fits
  refine ⟨i, g, e1, e2, e3, e4, hg.1, hg.2, e5, ?_, e6⟩
  rw [Held.no, e1]
  exact hnd_idx (by omega) hg.1 (by have := hg.2; simp at this; omega)
theorem PL.give {s : PSt} {m : Nat} {HL : Nat → Held} {St : List Nat} {last : Int} {it : Nat} (h : PL s m HL St last it) (hf : it + 1 ≤ 1000000) {k : Nat} (hk : k < m) {i : Nat} (hi : (HL k).no = i) (P : Int) :
    PL (s.give i P) (m - 1) (fun p => if p = k then HL (m - 1) else HL p) (i :: St) (HL k).h (it + 1) := by
  obtain ⟨i', g, e1, e2, e3, e4, e5, e6, e7, e8, e9⟩ := h.at_held hk
  have : i' = i := by omega
  subst this
  have n2 := h.ok.n2
  have hok := h.ok
  have hgen : (s.slot i').gen = g := by rw [e9]
  have hsl : ∀ j, (s.give i' P).slot j = if j = i' then ⟨(s.slot i').gen + 1, P, P, P, P, P, P⟩ else s.slot j := fun j => rfl
  obtain ⟨w0, w1, w2⟩ := nextV_word (h := s.h) (i := i') (by omega) hok.h0 hok.h1
  have hno : ∀ p, p < m → p ≠ k → (HL p).no ≠ i' := fun p hp hpk e => hpk (h.apart p k hp hk (by rw [e, e8]))
  have hone : ∀ p, p < m - 1 → ∃ q, q < m ∧ q ≠ k ∧ (if p = k then HL (m - 1) else HL p) = HL q ∧ q = (if p = k then m - 1 else p) := fun p hp => by
    by_cases e : p = k
    · exact ⟨m - 1, by omega, by omega, by rw [if_pos e], by rw [if_pos e]⟩
    · exact ⟨p, by omega, e, by rw [if_neg e], by rw [if_neg e]⟩
  refine ⟨hok.give e3 _, ?_, ?_, fun x hx => ?_, List.nodup_cons.2 ⟨e4, h.nodup⟩, fun p hp => ?_, fun p q hp hq e => ?_, fun x hx => ?_, fun j h1 h2 => ?_, ?_, hf⟩
  · show Linked (upd s.f i' (idxV s.h).toNat) (idxV (nextV s.h i')).toNat (i' :: St)
    rw [w2]
    refine ⟨by omega, by omega, ?_⟩
    rw [upd_same]
    exact h.top.upd e4
  · have := h.count
    show (i' :: St).length + (m - 1) = s.n
    simp; omega
  · rcases List.mem_cons.1 hx with rfl | hx
    · exact ⟨e2, e3⟩
    · exact h.small x hx
  · obtain ⟨q, q1, q2, q3, -⟩ := hone p hp
    rw [q3]
    obtain ⟨j, g', d1, d2, d3, d4, d5, d6, d7, d8, d9⟩ := h.at_held q1
    have hj : j ≠ i' := fun x => hno q q1 q2 (by rw [d8, x])
    exact ⟨j, g', d1, d2, d3, fun x => by rcases List.mem_cons.1 x with x | x; exact hj x; exact d4 x, d7, by rw [hsl, if_neg hj]; exact d9⟩
  · obtain ⟨q1, a1, a2, a3, a4⟩ := hone p hp
    obtain ⟨q2, b1, b2, b3, b4⟩ := hone q hq
    simp only [a3, b3] at e
    have e2 := h.apart q1 q2 a1 b1 e
    rw [a4, b4] at e2
    by_cases c1 : p = k <;> by_cases c2 : q = k <;> simp only [c1, c2, if_true, if_false] at e2 ⊢ <;> omega
  · rw [hsl]
    by_cases e : x = i'
    · rw [if_pos e]; simp only; omega
    · rw [if_neg e]
      rcases List.mem_cons.1 hx with rfl | hx
      · exact absurd rfl e
      · exact h.even x hx
  · rw [hsl]
    by_cases e : j = i'
    · rw [if_pos e]; simp only; omega
    · rw [if_neg e]; have := h.gens j h1 h2; omega
  · exact .inr ⟨i', g, e1, e2, e3, e5, e7, by rw [hsl, if_pos rfl]; simp only; omega⟩
/-- A held one's mark and link are put, in its slot and in what is held. -/
theorem PL.put {s : PSt} {m : Nat} {HL : Nat → Held} {St : List Nat} {last : Int} {it : Nat} (h : PL s m HL St last it) (hf : it + 1 ≤ 1000000) {k : Nat} (hk : k < m) {i : Nat} (hi : (HL k).no = i) (mark link : Int) :
    PL { s with slot := upd s.slot i { s.slot i with mark := mark, link := link } } m (upd HL k { HL k with mark := mark, link := link }) St last (it + 1) := by
  obtain ⟨i', g, e1, e2, e3, e4, e5, e6, e7, e8, e9⟩ := h.at_held hk
  have : i' = i := by omega
  subst this
  have hsl : ∀ j, upd s.slot i' { s.slot i' with mark := mark, link := link } j = if j = i' then { s.slot i' with mark := mark, link := link } else s.slot j := fun j => rfl
  have hgen : ∀ j, (upd s.slot i' { s.slot i' with mark := mark, link := link } j).gen = (s.slot j).gen := fun j => by
    rw [hsl]; by_cases e : j = i'
    · rw [if_pos e, e]
    · rw [if_neg e]
  have hno : ∀ p, (upd HL k { HL k with mark := mark, link := link } p).no = (HL p).no := fun p => by
    unfold Held.no upd; by_cases e : p = k
    · simp [e]
    · simp [e]
  refine ⟨⟨h.ok.n1, h.ok.n2, h.ok.h0, h.ok.h1, h.ok.top, h.ok.low⟩, h.top, h.count, h.small, h.nodup, fun p hp => ?_, fun p q hp hq e => ?_, fun x hx => ?_, fun j h1 h2 => ?_, ?_, hf⟩
  · by_cases e : p = k
    · subst e
      rw [upd_same]
      exact ⟨i', g, e1, e2, e3, e4, e7, by show upd s.slot i' _ i' = _; rw [upd_same, e9]⟩
    · rw [upd_other _ _ e]
      obtain ⟨j, g', d1, d2, d3, d4, d5, d6, d7, d8, d9⟩ := h.at_held hp
      have hj : j ≠ i' := fun x => e (h.apart p k hp hk (by rw [d8, e8, x]))
      exact ⟨j, g', d1, d2, d3, d4, d7, by show upd s.slot i' _ j = _; rw [upd_other _ _ hj]; exact d9⟩
  · rw [hno, hno] at e; exact h.apart p q hp hq e
  · show (upd s.slot i' _ x).gen % 2 = 0
    rw [hgen]; exact h.even x hx
  · show 0 ≤ (upd s.slot i' _ j).gen ∧ (upd s.slot i' _ j).gen ≤ ((it + 1 : Nat) : Int)
    rw [hgen]; have := h.gens j h1 h2; omega
  · rcases h.last with e | ⟨j, g', d1, d2, d3, d4, d5, d6⟩
    · exact .inl e
    · exact .inr ⟨j, g', d1, d2, d3, d4, d5, by show g' < (upd s.slot i' _ j).gen; rw [hgen]; exact d6⟩
/-- A new pool. -/
def PSt.new (n : Nat) : PSt := ⟨n, fun _ => ⟨0, 0, 0, 0, 0, 0, 0⟩, 1099511627776, fun j => if 1 ≤ j ∧ j < n then j + 1 else 0, 0⟩
theorem linked_new (n : Nat) : ∀ (t j : Nat), 1 ≤ j → j + t = n + 1 → 1 ≤ n → Linked (fun j => if 1 ≤ j ∧ j < n then j + 1 else 0) (if j ≤ n then j else 0) (List.range' j t)
  | 0, j, h1, h2, _ => by simp only [List.range'_zero]; unfold Linked; rw [if_neg (by omega)]
  | t + 1, j, h1, h2, h3 => by
    rw [List.range'_succ]
    refine ⟨by rw [if_pos (by omega)], by omega, ?_⟩
    have ih := linked_new n t (j + 1) (by omega) (by omega) h3
    show Linked (fun j => if 1 ≤ j ∧ j < n then j + 1 else 0) (if 1 ≤ j ∧ j < n then j + 1 else 0) (List.range' (j + 1) t)
    by_cases e : j < n
    · rw [if_pos (And.intro h1 e)]; rwa [if_pos (by omega)] at ih
    · rw [if_neg (fun x => e x.2)]; rwa [if_neg (by omega)] at ih
theorem PL.new {n : Nat} (h1 : 1 ≤ n) (h2 : n ≤ 4096) (HL : Nat → Held) : PL (PSt.new n) 0 HL (List.range' 1 n) 0 0 := by
  have hi : idxV (PSt.new n).h = 1 := by show idxV 1099511627776 = 1; decide
  refine ⟨⟨h1, h2, by show (0 : Int) ≤ 1099511627776; omega, by show (1099511627776 : Int) ≤ _; omega, by rw [hi]; show (1 : Int) ≤ (n : Int); omega, fun k hk => ?_⟩, ?_, ?_, fun x hx => ?_, List.nodup_range', fun p hp => by omega, fun p q hp => by omega, fun x _ => by rfl, fun i _ _ => ⟨Int.le_refl _, Int.le_refl _⟩, .inl rfl, by omega⟩
  · show (if 1 ≤ k ∧ k < n then k + 1 else 0) ≤ n
    split <;> omega
  · rw [hi]
    have := linked_new n n 1 (by omega) (by omega) h1
    rwa [if_pos h1] at this
  · show (List.range' 1 n).length + 0 = n
    simp
  · rw [List.mem_range'_1] at hx
    show 1 ≤ x ∧ x ≤ n
    omega
end Go.Proofs.Ytaaibhgbkdnlbaa

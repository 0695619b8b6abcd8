/-
  A sheet's methods by contract: New, Word, Number, Named, End, Text, Numbers, Pairs. (By the verifier; no statement.)
-/
import Derived.Test.YtbnpdfakniebnaaGreatDoorSpSheet
import Derived.Deep.LoopGhost
import Derived.Lib.ItoaLen
import Derived.Deep.MidRow
import Derived.Laws.IdiomStrings
import Derived.Laws.BytesArg
namespace Go.Proofs.YtbnpdfakniebnaaGreatDoor
open Go.RowKit
theorem Sh.lay_len {s : Sh} {p : Bs} : (s.lay p).text.length ≤ s.text.length + p.length := by
  unfold Sh.lay
  split
  · omega
  · split
    · simp; omega
    · simp
section
variable {W0 w w1 : World} {sb : Nat} {v u : Value} {s t : Sh} {p : Bs}
theorem SP.next {q : Ending} {w2 : World} (hk : KeepS w w1) (h : SP W0 w1 sb s q w2) : SP W0 w sb s q w2 := ⟨h.1, hk.trans h.2.1, h.2.2⟩
set_option maxRecDepth 100000 in
set_option maxHeartbeats 1600000 in
theorem cWord (h : SX W0 w sb v s) (hp : p.length ≤ 1000000000) : Calls Tryz.prog 105 #[LP sb, sV p] w (SP W0 w sb (s.word p)) := by
  have HX : Hid (SX W0 w.drew sb v s) := h.still (Turned.refl _ _).drew
  have HK : Hid (KeepS w w.drew) := KeepS.still (Turned.refl _ _).drew
  obtain ⟨p0, q1, q2⟩ := h.at 0 v rfl
  obtain ⟨-, r1, r2⟩ := h.at 1 (.int .i64 s.start) rfl
  obtain ⟨va, vc, hv⟩ := h.row.slice
  rw [hv] at q1
  have HP : Hid (∀ W v2 t, SX W0 W sb v2 t → Calls Tryz.prog 140 #[LP sb, sV p] W (SP W0 W sb (t.lay p))) := fun W v2 t h => cLay h hp
  have HB : Hid (Calls Tryz.prog 140 #[LP sb, .string ⟨#[32]⟩] w.drew (SP W0 w.drew sb (s.lay [32]))) := cLay (p := [32]) HX.out (by decide)
  by_cases hs : s.start < s.text.length
  · have HE : Hid (s.word p = (s.lay [32]).lay p) := by rw [Hid, Sh.word, if_pos hs]
    have hs' : (s.start : Int) < (s.text.length : Int) := by omega
    rw [HE.out]
    clear h HE hv hp
    generalize s.lay [32] = t at *
    go_enter Tryz.func105, Tryz.ntmps105
    go_wp2
    go_region
    go_wp2_with (first | (go_at_call 140; refine HB.out.mono ?_; rintro r1 w2 ⟨rfl, hk, v2, hx⟩; have HK2 : Hid _ := HK.out.trans hk; have HX2 : Hid _ := hx; clear hk hx HB) | (go_at_call 140; refine (HP.out _ _ _ HX2.out).mono ?_; rintro r1 w3 ⟨rfl, hk, v3, hx⟩; have HK3 : Hid _ := HK2.out.trans hk; have HX3 : Hid _ := hx; clear hk hx))
    refine bodyPost_end (results_none rfl _ _ _) rfl ?_
    exact ⟨rfl, HK3.out, v3, HX3.out⟩
  · have HE : Hid (s.word p = s.lay p) := by rw [Hid, Sh.word, if_neg hs]
    have hs' : ¬ (s.start : Int) < (s.text.length : Int) := by omega
    rw [HE.out]
    clear h HE hv hp HB
    go_enter Tryz.func105, Tryz.ntmps105
    go_wp2
    go_region
    go_wp2_with (go_at_call 140; refine (HP.out _ _ _ HX.out).mono ?_; rintro r1 w3 ⟨rfl, hk, v3, hx⟩; have HK3 : Hid _ := HK.out.trans hk; have HX3 : Hid _ := hx; clear hk hx)
    refine bodyPost_end (results_none rfl _ _ _) rfl ?_
    exact ⟨rfl, HK3.out, v3, HX3.out⟩
set_option maxRecDepth 100000 in
set_option maxHeartbeats 3200000 in
theorem cEndS (h : SX W0 w sb v s) : Calls Tryz.prog 106 #[LP sb] w (SP W0 w sb s.fin) := by
  have hc := cLay (p := [10]) h (by decide)
  have hl := (Sh.lay_len (s := s) (p := [10]))
  have HE : Hid (s.fin = { s.lay [10] with start := (s.lay [10]).text.length }) := rfl
  clear h
  unfold SP at hc ⊢
  rw [HE.out]
  generalize s.lay [10] = t at *
  go_enter Tryz.func106, Tryz.ntmps106
  go_wp2_with (go_at_call 140; refine hc.mono ?_; rintro r1 w2 ⟨rfl, hk, v2, hx⟩; have HK2 : Hid _ := hk; obtain ⟨va, vc, hv⟩ := hx.row.slice; have HX2 : Hid _ := hx; obtain ⟨p0, q1, q2⟩ := hx.at 0 v2 rfl; obtain ⟨-, r1, r2⟩ := hx.at 1 (.int .i64 t.start) rfl; rw [hv] at q1; clear hk hx hc hv)
  refine bodyPost_end (results_none rfl _ _ _) rfl ?_
  have hA := HX2.out.set 1 (.int .i64 (t.text.length : Nat)) (v2 := v2) (s2 := { t with start := t.text.length }) rfl HX2.out.row (Nat.le_refl _) HX2.out.mo HX2.out.mx
  exact ⟨rfl, HK2.out.trans hA.2, v2, hA.1⟩
/-- What Itoa asks of memory. -/
structure PowW (w : World) : Prop where
  tab : Lib.TabIs Tryz.prog w "internal/strconv.uint64pow10" .u64 Lib.pow10Tab
theorem gPow : Tryz.prog.globalNamed "internal/strconv.uint64pow10" = some 7 := by kernel_rfl
theorem PowW.still {w w' : World} (h : PowW w) (ht : Turned [] w w') : PowW w' := by
  refine ⟨?_⟩
  have h1 := h.tab
  unfold Lib.TabIs World.var? at h1 ⊢
  rw [gPow] at h1 ⊢
  simp only [Option.bind_some] at h1 ⊢
  split at h1
  · rename_i cs T fr hb
    rw [ht.heap hb (by simp)]
    exact h1
  · cases h1
theorem Turned.grow (w : World) (k : Nat) (os : Array Obj) : Turned [] w (Sort.grow (w.drewN k) os) := ⟨rfl, rfl, rfl, by simp [Sort.grow, World.drewN], fun i hi _ => by
  show (w.heap ++ os)[i]? = _
  rw [Array.getElem?_append_left hi]⟩
set_option maxHeartbeats 800000 in
theorem cNumS (h : SX W0 w sb v s) (hT : PowW W0) {n : Int} (h0 : -9223372036854775808 ≤ n) (h1 : n ≤ 9223372036854775807) : Calls Tryz.prog 139 #[LP sb, .int .i64 n] w (SP W0 w sb (s.num n)) := by
  have hi := Tryz.strconv_Itoa n h0 h1 w (hT.still h.tu).tab
  have HX : Hid _ := h
  have hl : (Lib.itoa n).length ≤ 1000000000 := Nat.le_trans (Lib.itoa_length_le n h0 h1) (by decide)
  have HE : Hid (s.num n = s.word (Lib.itoa n)) := rfl
  rw [HE.out]
  generalize Lib.itoa n = q at *
  have HW : Hid (∀ W, SX W0 W sb v s → Calls Tryz.prog 105 #[LP sb, sV q] W (SP W0 W sb (s.word q))) := fun W h => cWord h hl
  clear h hT h0 h1 hl HE
  go_enter Tryz.func139, Tryz.ntmps139
  go_wp2_with (first | (go_at_call 113; refine hi.mono ?_; rintro r1 w2 ⟨rfl, k, os, rfl⟩; clear hi) | (go_at_call 105; refine (HW.out _ (HX.out.still (Turned.grow _ _ _))).mono ?_; rintro r1 w3 ⟨rfl, hk, v3, hx⟩; have HK3 : Hid _ := (KeepS.still (Turned.grow _ _ _)).trans hk; have HX3 : Hid _ := hx; clear hk hx))
  refine bodyPost_end (results_none rfl _ _ _) rfl ?_
  exact ⟨rfl, HK3.out, v3, HX3.out⟩
set_option maxHeartbeats 800000 in
theorem cNamedS (h : SX W0 w sb v s) (hT : PowW W0) (hp : p.length ≤ 1000000000) {n : Int} (h0 : -9223372036854775808 ≤ n) (h1 : n ≤ 9223372036854775807) : Calls Tryz.prog 109 #[LP sb, sV p, .int .i64 n] w (SP W0 w sb (s.named p n)) := by
  have hw := cWord h hp
  have HN : Hid (∀ W v2 t, SX W0 W sb v2 t → Calls Tryz.prog 139 #[LP sb, .int .i64 n] W (SP W0 W sb (t.num n))) := fun W v2 t h => cNumS h hT h0 h1
  have HE : Hid (s.named p n = (s.word p).num n) := rfl
  rw [HE.out]
  generalize s.word p = t at *
  clear h hT hp h0 h1 HE
  go_enter Tryz.func109, Tryz.ntmps109
  go_wp2_with (first | (go_at_call 105; refine hw.mono ?_; rintro r1 w2 ⟨rfl, hk, v2, hx⟩; have HK2 : Hid _ := hk; have HX2 : Hid _ := hx; clear hk hx hw) | (go_at_call 139; refine (HN.out _ _ _ HX2.out).mono ?_; rintro r1 w3 ⟨rfl, hk, v3, hx⟩; have HK3 : Hid _ := HK2.out.trans hk; have HX3 : Hid _ := hx; clear hk hx))
  refine bodyPost_end (results_none rfl _ _ _) rfl ?_
  exact ⟨rfl, HK3.out, v3, HX3.out⟩
/-- Numbers that an int holds. -/
abbrev I64 (n : Int) : Prop := -9223372036854775808 ≤ n ∧ n ≤ 9223372036854775807
theorem VW.ks {α : Type} {T : TypeId} {k : Nat} {enc : α → List Value} {B : Nat} {w w' : World} {v : Value} {R : List α} (h : OW T k enc B w v R) (hk : KeepS w w') (hT : T ≠ 242 ∧ T ≠ 5) : VW enc w' v R := (h.ks hk hT).view
set_option maxRecDepth 100000 in
set_option maxHeartbeats 1600000 in
theorem cNumbersS (h : SX W0 w sb v s) (hT : PowW W0) {l : List Int} (hu : ∀ w', KeepS w w' → Turned [] W0 w' → VW encI w' u l) (hl : ∀ n ∈ l, I64 n) (hn : l.length ≤ 1000000000) : Calls Tryz.prog 141 #[LP sb, u] w (SP W0 w sb (s.nums l)) := by
  obtain ⟨ua, uc, rfl, -, -⟩ := (hu w (KeepS.refl _) h.tu).ex
  have HX : Hid _ := h
  have HU : Hid _ := hu
  have HL : Hid _ := hl
  have HN : Hid (∀ W v2 t n, SX W0 W sb v2 t → I64 n → Calls Tryz.prog 139 #[LP sb, .int .i64 n] W (SP W0 W sb (t.num n))) := fun W v2 t n h hn => cNumS h hT hn.1 hn.2
  clear h hu hl hT
  go_enter Tryz.func141, Tryz.ntmps141
  go_wp2
  go_loopg [8] l.length (fun g x wr => Hid (∃ (i : Nat) (v2 : Value), x = .int .i64 i ∧ i + g = l.length ∧ KeepS w wr ∧ SX W0 wr sb v2 (s.nums (l.take i))))
  case atStart => exact ⟨0, v, rfl, by omega, KeepS.refl _, HX.out⟩
  case round =>
    obtain ⟨i, v2, rfl, hi, hk, hx⟩ := hrel.out
    clear hrel
    have HK : Hid _ := hk
    have HX2 : Hid _ := hx
    by_cases hlt : i < l.length
    · obtain ⟨g, rfl⟩ : ∃ g, gk = g + 1 := ⟨gk - 1, by omega⟩
      obtain ⟨b, o, c, hv, hb, hc⟩ := (HU.out wr hk hx.tu).get enI (by decide) hlt
      simp only [Value.slice.injEq] at hv
      obtain ⟨rfl, -, rfl⟩ := hv
      have hc0 := hc 0 (.int .i64 l[i]) rfl
      rw [Nat.mul_one, Nat.add_zero] at hc0
      have hnum := HN.out wr v2 _ l[i] hx (HL.out _ (List.getElem_mem hlt))
      have HS : Hid ((s.nums (l.take i)).num l[i] = s.nums (l.take (i + 1))) := by
        rw [Hid, List.take_add_one, List.getElem?_eq_getElem hlt]
        unfold Sh.nums
        rw [List.foldl_append]
        rfl
      rw [HS.out] at hnum
      generalize l[i] = n at *
      clear hk hx hc
      go_wp2_with (go_at_call 139; refine hnum.mono ?_; rintro r1 w3 ⟨rfl, hk, v3, hx⟩; have HK3 : Hid _ := HK.out.trans hk; have HX3 : Hid _ := hx; clear hk hx hnum)
      go_roundg g
      case rel => exact ⟨i + 1, v3, by first | (simp; done) | (simp; unfold wrap64; omega), by omega, HK3.out, HX3.out⟩
      · omega
    · obtain rfl : i = l.length := by omega
      have HF : Hid (SX W0 wr sb v2 (s.nums l)) := by have := hx; rwa [List.take_length] at this
      clear hk hx
      go_wp2
      refine bodyPost_end (results_none rfl _ _ _) rfl ?_
      exact ⟨rfl, HK.out, v2, HF.out⟩
set_option maxRecDepth 100000 in
set_option maxHeartbeats 1600000 in
theorem cPairsS (h : SX W0 w sb v s) (hT : PowW W0) {l : List (Int × Int)} (hu : ∀ w', KeepS w w' → Turned [] W0 w' → VW encP w' u l) (hl : ∀ n ∈ l, I64 n.1 ∧ I64 n.2) (hn : l.length ≤ 1000000000) : Calls Tryz.prog 142 #[LP sb, u] w (SP W0 w sb (s.prs l)) := by
  obtain ⟨ua, uc, rfl, -, -⟩ := (hu w (KeepS.refl _) h.tu).ex
  have HX : Hid _ := h
  have HU : Hid _ := hu
  have HL : Hid _ := hl
  have HN : Hid (∀ W v2 t n, SX W0 W sb v2 t → I64 n → Calls Tryz.prog 139 #[LP sb, .int .i64 n] W (SP W0 W sb (t.num n))) := fun W v2 t n h hn => cNumS h hT hn.1 hn.2
  clear h hu hl hT
  go_enter Tryz.func142, Tryz.ntmps142
  go_wp2
  go_loopg [8] l.length (fun g x wr => Hid (∃ (i : Nat) (v2 : Value), x = .int .i64 i ∧ i + g = l.length ∧ KeepS w wr ∧ SX W0 wr sb v2 (s.prs (l.take i))))
  case atStart => exact ⟨0, v, rfl, by omega, KeepS.refl _, HX.out⟩
  case round =>
    obtain ⟨i, v2, rfl, hi, hk, hx⟩ := hrel.out
    clear hrel
    have HK : Hid _ := hk
    have HX2 : Hid _ := hx
    by_cases hlt : i < l.length
    · obtain ⟨g, rfl⟩ : ∃ g, gk = g + 1 := ⟨gk - 1, by omega⟩
      obtain ⟨b, o, c, hv, hb, hc⟩ := (HU.out wr hk hx.tu).get enP (by decide) hlt
      simp only [Value.slice.injEq] at hv
      obtain ⟨rfl, -, rfl⟩ := hv
      have hli := HL.out _ (List.getElem_mem hlt)
      have HS : Hid (((s.prs (l.take i)).num l[i].1).num l[i].2 = s.prs (l.take (i + 1))) := by
        rw [Hid, List.take_add_one, List.getElem?_eq_getElem hlt]
        unfold Sh.prs
        rw [List.foldl_append]
        rfl
      generalize l[i] = n at *
      obtain ⟨n1, n2⟩ := n
      have hc0 := hc 0 (.int .i64 n1) rfl
      have hc1 := hc 1 (.int .i64 n2) rfl
      rw [Nat.add_zero] at hc0
      rw [← Nat.add_assoc] at hc1
      have HA : Hid (Turned [] wr (wr.alloc (.cells #[.int .i64 n1, .int .i64 n2] 157))) := (Turned.refl _ _).alloc _
      have hnum := HN.out _ v2 _ n1 (hx.still HA.out) hli.1
      have HN2 : Hid (∀ W v3, SX W0 W sb v3 ((s.prs (l.take i)).num n1) → Calls Tryz.prog 139 #[LP sb, .int .i64 n2] W (SP W0 W sb (s.prs (l.take (i + 1))))) := fun W v3 h3 => by
        rw [← HS.out]
        exact HN.out W v3 _ n2 h3 hli.2
      clear hk hx hc hli HS
      generalize (s.prs (l.take i)).num n1 = sN at *
      go_wp2_with (first | (go_at_call 139; refine hnum.mono ?_; rintro r1 w3 ⟨rfl, hk, v3, hx⟩; have HK3 : Hid _ := (HK.out.trans (KeepS.still HA.out)).trans hk; have HX3 : Hid _ := hx; have hb3 := hk.cells (blk_new wr (.cells #[.int .i64 n1, .int .i64 n2] 157)) (by decide); have z0 := lt_of_heap hb3; have z1 := (cell_at hb3 1).trans (show _ = some (Value.int .i64 n2) from rfl); clear hk hx hnum hb3) | (go_at_call 139; refine (HN2.out _ _ HX3.out).mono ?_; rintro r1 w4 ⟨rfl, hk, v4, hx⟩; have HK4 : Hid _ := HK3.out.trans hk; have HX4 : Hid _ := hx; clear hk hx))
      go_roundg g
      case rel => exact ⟨i + 1, v4, by first | (simp; done) | (simp; unfold wrap64; omega), by omega, HK4.out, HX4.out⟩
      · omega
    · obtain rfl : i = l.length := by omega
      have HF : Hid (SX W0 wr sb v2 (s.prs l)) := by have := hx; rwa [List.take_length] at this
      clear hk hx
      go_wp2
      refine bodyPost_end (results_none rfl _ _ _) rfl ?_
      exact ⟨rfl, HK.out, v2, HF.out⟩
set_option maxHeartbeats 800000 in
theorem cNewS {w : World} {n : Nat} (hn : n ≤ 1000000000) : Calls Tryz.prog 103 #[.int .i64 n] w fun q w' => ∃ sb v, q = .returned (LP sb) ∧ SX w w' sb v ⟨[], 0, n, false⟩ ∧ Turned [] w w' := by
  go_enter Tryz.func103, Tryz.ntmps103
  go_wp2
  go_ret
  exact ⟨_, .slice none 0 0, rfl, ⟨(Turned.refl _ _).alloc _, blk_new _ _, OW.nil _ _ _ _ _, Nat.le_refl _, Nat.le_refl _, Nat.zero_le _, hn⟩, (Turned.refl _ _).alloc _⟩
theorem SX.cut {va : Option Addr} {vc : Nat} (h : SX W0 w sb v s) (hv : v = .slice va s.text.length vc) : OW 5 1 encB W0.heap.size w (.slice va s.start vc) (s.text.take s.start) := by
  have h1 := h.st
  rcases h.row.form with ⟨h4, h5⟩ | ⟨g, c, h4⟩
  · rw [h4] at hv
    simp only [Value.slice.injEq] at hv
    have h6 : s.start = 0 := by rw [h5] at h1; simpa using h1
    rw [h6, ← hv.1, ← hv.2.2, h5]
    exact OW.nil _ _ _ _ _
  · have h6 := h.row
    rw [h4] at hv h6
    simp only [Value.slice.injEq] at hv
    rw [← hv.1, ← hv.2.2]
    exact OW.trunc enB h6 h1
theorem conv_bytes {B : Nat} {w : World} {a : Option Addr} {n c : Nat} {l : Bs} (h : OW 5 1 encB B w (.slice a n c) l) : (convert 72 9 (.slice a n c)).run Tryz.prog w = .ok (sV l) w := by
  rcases h.form with ⟨e, h0⟩ | ⟨g, c', e⟩
  · simp only [Value.slice.injEq] at e
    obtain ⟨rfl, rfl, rfl⟩ := e
    subst h0
    exact run_convert_bytes_nil w 72 5 (by kernel_rfl) (by kernel_rfl) 0 0 _ (by kernel_rfl)
  · simp only [Value.slice.injEq] at e
    obtain ⟨rfl, rfl, rfl⟩ := e
    refine run_convert_bytes_back w 72 9 5 _ _ l (by kernel_rfl) (by kernel_rfl) (by kernel_rfl) fun j hj => ?_
    obtain ⟨b, o, c2, h1, h2, h3⟩ := h.view.get enB (by decide) hj
    simp only [Value.slice.injEq, Option.some.injEq, Addr.mk.injEq] at h1
    obtain ⟨⟨rfl, rfl, -⟩, -, -⟩ := h1
    have h4 := h3 0 _ rfl
    rw [Nat.mul_one, Nat.add_zero] at h4
    rw [Addr.add_mid]
    exact h4
set_option maxRecDepth 100000 in
set_option maxHeartbeats 1600000 in
theorem cTextS (h : SX W0 w sb v s) : Calls Tryz.prog 110 #[LP sb] w fun q w' => q = .returned (.tuple #[sV (s.text.take s.start), .bool (!s.full)]) ∧ Turned [] w w' := by
  have HX : Hid _ := h
  obtain ⟨p0, q1, q2⟩ := h.at 0 v rfl
  obtain ⟨-, r1, r2⟩ := h.at 1 (.int .i64 s.start) rfl
  obtain ⟨-, s1, s2⟩ := h.at 3 (.bool s.full) rfl
  obtain ⟨va, vc, hv⟩ := h.row.slice
  rw [hv] at q1
  have hcap : s.text.length ≤ vc := by have := h.row; rw [hv] at this; exact this.cap
  have h1 := h.st
  have hst : s.start ≤ vc := by omega
  have hcv := conv_bytes ((h.cut hv).still (Turned.refl [] w).drew)
  clear h
  go_enter Tryz.func110, Tryz.ntmps110
  go_wp2
  go_region
  all_goals
    go_wp2
    refine bodyPost_ret (results_tmp2 rfl _ _ _) rfl ?_
    exact ⟨rfl, by repeat first | exact Turned.refl _ _ | refine Turned.drew ?_⟩
end
end Go.Proofs.YtbnpdfakniebnaaGreatDoor

/-
  A call, a list, a setup written on a sheet, by contract. (By the verifier; no statement.)
-/
import Derived.Test.YtbnpdfakniebnaaGreatDoorSpSheet2
import Derived.Test.YtbnpdfakniebnaaGreatDoorSpFit
namespace Go.Proofs.YtbnpdfakniebnaaGreatDoor
open Go.RowKit
/-- A sheet beside a box. -/
structure WS (W0 wb w : World) (sb b1 : Nat) (cs : Array Value) (T : TypeId) (s : Sh) : Prop where
  ks : KeepS wb w
  blk : w.heap[b1]? = some (.cells cs T (0, 0))
  sx : ∃ v, SX W0 w sb v s
section
variable {W0 wb w w' : World} {sb b1 : Nat} {cs : Array Value} {T : TypeId} {s s' : Sh} {v u : Value} {p : Bs}
theorem WS.step (h : WS W0 wb w sb b1 cs T s) (hT : T ≠ 242 ∧ T ≠ 5) (hk : KeepS w w') (hs : ∃ v, SX W0 w' sb v s') : WS W0 wb w' sb b1 cs T s' := ⟨h.ks.trans hk, hk.cells h.blk hT, hs⟩
theorem WS.still (h : WS W0 wb w sb b1 cs T s) (ht : Turned [] w w') : WS W0 wb w' sb b1 cs T s := ⟨h.ks.trans (KeepS.still ht), ht.heap h.blk (by simp), h.sx.imp fun _ x => x.still ht⟩
theorem WS.tu (h : WS W0 wb w sb b1 cs T s) : Turned [] W0 w := by obtain ⟨v, h⟩ := h.sx; exact h.tu
/-- What a step answers. -/
def WP (W0 wb w : World) (sb b1 : Nat) (cs : Array Value) (T : TypeId) (s : Sh) (q : Ending) (w' : World) : Prop := q = .returned (.tuple #[]) ∧ KeepS w w' ∧ WS W0 wb w' sb b1 cs T s
theorem WS.of {fn : FuncId} {args : Array Value} (h : WS W0 wb w sb b1 cs T s) (hT : T ≠ 242 ∧ T ≠ 5) (hc : ∀ v, SX W0 w sb v s → Calls Tryz.prog fn args w (SP W0 w sb s')) : Calls Tryz.prog fn args w (WP W0 wb w sb b1 cs T s') := by
  obtain ⟨v, hs⟩ := h.sx
  exact (hc v hs).mono fun _ _ ⟨h1, h2, h3⟩ => ⟨h1, h2, h.step hT h2 h3⟩
theorem WS.named (h : WS W0 wb w sb b1 cs T s) (hT : T ≠ 242 ∧ T ≠ 5) (hP : PowW W0) {n : Int} (hn : I64 n) (hp : p.length ≤ 1000000000) : Calls Tryz.prog 109 #[LP sb, sV p, .int .i64 n] w (WP W0 wb w sb b1 cs T (s.named p n)) := h.of hT fun _ hs => cNamedS hs hP hp hn.1 hn.2
theorem WS.num (h : WS W0 wb w sb b1 cs T s) (hT : T ≠ 242 ∧ T ≠ 5) (hP : PowW W0) {n : Int} (hn : I64 n) : Calls Tryz.prog 139 #[LP sb, .int .i64 n] w (WP W0 wb w sb b1 cs T (s.num n)) := h.of hT fun _ hs => cNumS hs hP hn.1 hn.2
theorem WS.word (h : WS W0 wb w sb b1 cs T s) (hT : T ≠ 242 ∧ T ≠ 5) (hp : p.length ≤ 1000000000) : Calls Tryz.prog 105 #[LP sb, sV p] w (WP W0 wb w sb b1 cs T (s.word p)) := h.of hT fun _ hs => cWord hs hp
theorem WS.fin (h : WS W0 wb w sb b1 cs T s) (hT : T ≠ 242 ∧ T ≠ 5) : Calls Tryz.prog 106 #[LP sb] w (WP W0 wb w sb b1 cs T s.fin) := h.of hT fun _ hs => cEndS hs
theorem cNum3 {g : Nat} (h : SX W0 w sb v s) (hT : PowW W0) {a b c : Int} (hg : w.heap[g]? = some (.cells #[.int .i64 a, .int .i64 b, .int .i64 c] 3 (0, 0))) (ha : I64 a) (hb : I64 b) (hc : I64 c) {n : Nat} (hn : n = 0 ∨ n = 1 ∨ n = 2 ∨ n = 3) {d : Nat} : Calls Tryz.prog 141 #[LP sb, .slice (some ⟨g, 0, none⟩) n d] w (SP W0 w sb (s.nums ([a, b, c].take n))) := by
  have hl : ∀ x ∈ [a, b, c], I64 x := fun x hx => by
    simp only [List.mem_cons, List.not_mem_nil, or_false] at hx
    rcases hx with rfl | rfl | rfl <;> assumption
  have hlen : ([a, b, c].take n).length = n := by rcases hn with rfl | rfl | rfl | rfl <;> rfl
  refine cNumbersS h hT (l := [a, b, c].take n) (fun w' hk _ => ?_) (fun x hx => hl x (List.mem_of_mem_take hx)) (by rw [hlen]; omega)
  have := VW.block (c := d) (enc := encI) (R := [a, b, c].take n) (hk.cells hg (by decide)) (fun i u hu => by
    rcases hn with rfl | rfl | rfl | rfl <;> rcases i with _ | _ | _ | i <;> first | exact hu | (simp [encI] at hu))
  rwa [hlen] at this
/-- A call, written. -/
def writeC (q : Bs × Int × Bool) (s : Sh) (c : Cl) : Sh := (((s.word q.1).nums ([c.a, c.b, c.c].take q.2.1.toNat)).prs c.ps).fin
set_option maxRecDepth 100000 in
set_option maxHeartbeats 3200000 in
theorem cWrite (h : SX W0 w sb v s) (hT : PowW W0) {wd : Bs} {nn : Nat} {pb : Bool} {k a b cc : Int} {ps : List (Int × Int)} {pv : Value} (hv : VW encP W0 pv ps) (hwd : wd.length ≤ 1000000000) (hn : nn = 0 ∨ nn = 1 ∨ nn = 2 ∨ nn = 3) (ha : I64 a) (hb : I64 b) (hc : I64 cc) (hp : ∀ x ∈ ps, I64 x.1 ∧ I64 x.2) (hl : ps.length ≤ 1000000000) : Calls Tryz.prog 107 #[.agg #[sV wd, .int .i64 nn, .bool pb], LP sb, clV ⟨k, a, b, cc, ps⟩ pv] w (SP W0 w sb (writeC (wd, nn, pb) s ⟨k, a, b, cc, ps⟩)) := by
  obtain ⟨pa, pc, rfl, -, -⟩ := hv.ex
  have HE : Hid (writeC (wd, nn, pb) s ⟨k, a, b, cc, ps⟩ = (((s.word wd).nums ([a, b, cc].take nn)).prs ps).fin) := by rw [Hid, writeC, Int.toNat_natCast]
  rw [HE.out]
  clear HE
  have h1 := blk20 w (.cells #[sV wd, .int .i64 nn, .bool pb] 181) (.cells #[.int .i64 k, .int .i64 a, .int .i64 b, .int .i64 cc, .slice pa ps.length pc] 79)
  have h2 := blk21 w (.cells #[sV wd, .int .i64 nn, .bool pb] 181) (.cells #[.int .i64 k, .int .i64 a, .int .i64 b, .int .i64 cc, .slice pa ps.length pc] 79)
  have ht : Turned [] w ((w.alloc (.cells #[sV wd, .int .i64 nn, .bool pb] 181)).alloc (.cells #[.int .i64 k, .int .i64 a, .int .i64 b, .int .i64 cc, .slice pa ps.length pc] 79)) := ((Turned.refl [] w).alloc _).alloc _
  have HW := cWord (h.still ht) hwd
  have HK0 : Hid (KeepS w _) := KeepS.still ht
  have HB1 : Hid _ := h1
  have HB2 : Hid _ := h2
  have HN : Hid (∀ W v g d, SX W0 W sb v (s.word wd) → W.heap[g]? = some (.cells #[.int .i64 a, .int .i64 b, .int .i64 cc] 3 (0, 0)) → Calls Tryz.prog 141 #[LP sb, .slice (some ⟨g, 0, none⟩) nn d] W (SP W0 W sb ((s.word wd).nums ([a, b, cc].take nn)))) := fun W v g d h hg => cNum3 h hT hg ha hb hc hn
  generalize (s.word wd).nums ([a, b, cc].take nn) = s2 at *
  generalize s.word wd = s1 at *
  have HP : Hid (∀ W v, SX W0 W sb v s2 → Calls Tryz.prog 142 #[LP sb, .slice pa ps.length pc] W (SP W0 W sb (s2.prs ps))) := fun W v h => cPairsS h hT (fun w' _ ht => hv.still ht) hp hl
  generalize s2.prs ps = s3 at *
  have HF : Hid (∀ W v, SX W0 W sb v s3 → Calls Tryz.prog 106 #[LP sb] W (SP W0 W sb s3.fin)) := fun W v h => cEndS h
  generalize s3.fin = s4 at *
  clear h ht h1 h2 hv hT hp hl ha hb hc hwd
  unfold SP at *
  rcases hn with rfl | rfl | rfl | rfl
  all_goals
    go_enter Tryz.func107, Tryz.ntmps107
    go_wp2_with (first | (go_at_call 105; refine HW.mono ?_; rintro r1 w2 ⟨rfl, hk, v2, hx⟩; have HK2 : Hid _ := HK0.out.trans hk; have HX2 : Hid _ := hx; have hb1 := hk.cells HB1.out (by decide); have hb2 := hk.cells HB2.out (by decide); have HC1 : Hid _ := hb1; have HC2 : Hid _ := hb2; have a1 := lt_of_heap hb1; have a2 := lt_of_heap hb2; have c1 := (cell_at hb1 1).trans (show _ = some (Value.int .i64 _) from rfl); have d1 := (cell_at hb2 1).trans (show _ = some (Value.int .i64 a) from rfl); have d2 := (cell_at hb2 2).trans (show _ = some (Value.int .i64 b) from rfl); have d3 := (cell_at hb2 3).trans (show _ = some (Value.int .i64 cc) from rfl); clear hk hx hb1 hb2 HW) | (go_at_call 141; refine (HN.out _ _ w2.heap.size 3 (HX2.out.still ((Turned.refl _ _).alloc _)) (blk_new _ _)).mono ?_; rintro r1 w3 ⟨rfl, hk, v3, hx⟩; have HK3 : Hid _ := HK2.out.trans ((KeepS.still ((Turned.refl _ _).alloc _)).trans hk); have HX3 : Hid _ := hx; have hb2 := hk.cells (((Turned.refl [] w2).alloc _).heap HC2.out (by simp)) (by decide); have a2 := lt_of_heap hb2; have d4 := (cell_at hb2 4).trans (show _ = some (Value.slice pa ps.length pc) from rfl); clear hk hx hb2) | (go_at_call 142; refine (HP.out _ _ HX3.out).mono ?_; rintro r1 w4 ⟨rfl, hk, v4, hx⟩; have HK4 : Hid _ := HK3.out.trans hk; have HX4 : Hid _ := hx; clear hk hx) | (go_at_call 106; refine (HF.out _ _ HX4.out).mono ?_; rintro r1 w5 ⟨rfl, hk, v5, hx⟩; have HK5 : Hid _ := HK4.out.trans hk; have HX5 : Hid _ := hx; clear hk hx))
    refine bodyPost_end (results_none rfl _ _ _) rfl ?_
    exact ⟨rfl, HK5.out, v5, HX5.out⟩
/-- A list's line. -/
def listS (s : Sh) (p : Bs) (l : List Int) : Sh := if l = [] then s else ((s.word p).nums l).fin
set_option maxRecDepth 100000 in
set_option maxHeartbeats 1600000 in
theorem cWriteList (h : SX W0 w sb v s) (hT : PowW W0) (hp : p.length ≤ 1000000000) {l : List Int} (hu : VW encI W0 u l) (hl : ∀ n ∈ l, I64 n) (hn : l.length ≤ 1000000000) : Calls Tryz.prog 108 #[LP sb, sV p, u] w (SP W0 w sb (listS s p l)) := by
  have HU : Hid _ := hu
  obtain ⟨ua, uc, rfl, -, -⟩ := hu.ex
  clear hu
  by_cases he : l = []
  · subst he
    have HE : Hid (listS s p [] = s) := rfl
    rw [HE.out]
    have HX : Hid _ := h
    clear h hl hp hT
    go_enter Tryz.func108, Tryz.ntmps108
    go_wp2
    refine bodyPost_end (results_none rfl _ _ _) rfl ?_
    exact ⟨rfl, KeepS.refl _, v, HX.out⟩
  · have HE : Hid (listS s p l = ((s.word p).nums l).fin) := by rw [Hid, listS, if_neg he]
    have hl0 : 0 < (l.length : Int) := by have := List.length_pos_iff.2 he; omega
    rw [HE.out]
    clear HE he
    have hw := cWord h hp
    have HN : Hid (∀ W v2, SX W0 W sb v2 (s.word p) → Calls Tryz.prog 141 #[LP sb, .slice ua l.length uc] W (SP W0 W sb ((s.word p).nums l))) := fun W v2 h => cNumbersS h hT (fun w' _ ht => HU.out.still ht) hl hn
    generalize (s.word p).nums l = s2 at *
    generalize s.word p = s1 at *
    have HF : Hid (∀ W v, SX W0 W sb v s2 → Calls Tryz.prog 106 #[LP sb] W (SP W0 W sb s2.fin)) := fun W v h => cEndS h
    generalize s2.fin = s3 at *
    clear h hl hp hT
    unfold SP at *
    go_enter Tryz.func108, Tryz.ntmps108
    go_wp2_with (first | (go_at_call 105; refine hw.mono ?_; rintro r1 w2 ⟨rfl, hk, v2, hx⟩; have HK2 : Hid _ := hk; have HX2 : Hid _ := hx; clear hk hx hw) | (go_at_call 141; refine (HN.out _ _ HX2.out).mono ?_; rintro r1 w3 ⟨rfl, hk, v3, hx⟩; have HK3 : Hid _ := HK2.out.trans hk; have HX3 : Hid _ := hx; clear hk hx) | (go_at_call 106; refine (HF.out _ _ HX3.out).mono ?_; rintro r1 w4 ⟨rfl, hk, v4, hx⟩; have HK4 : Hid _ := HK3.out.trans hk; have HX4 : Hid _ := hx; clear hk hx))
    refine bodyPost_end (results_none rfl _ _ _) rfl ?_
    exact ⟨rfl, HK4.out, v4, HX4.out⟩
end
end Go.Proofs.YtbnpdfakniebnaaGreatDoor

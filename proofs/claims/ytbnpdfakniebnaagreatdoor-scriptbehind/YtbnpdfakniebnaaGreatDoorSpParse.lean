/-
  script.Parse by contract. (By the verifier; no statement.)
-/
import Derived.Test.YtbnpdfakniebnaaGreatDoorSpRead
import Derived.Test.YtbnpdfakniebnaaGreatDoorSpIs
import Derived.Test.YtbnpdfakniebnaaGreatDoorSpSpl
namespace Go.Proofs.YtbnpdfakniebnaaGreatDoor
open Go.RowKit
def m0 : RM := ⟨.slice none 0 0, .slice none 0 0, .slice none 0 0, .slice none 0 0, .slice none 0 0, [], []⟩
theorem rp0 (B : Nat) (w : World) : RP B w m0 [] [] [] [] [] := ⟨OW.nil _ _ _ _ _, OW.nil _ _ _ _ _, OW.nil _ _ _ _ _, OW.nil _ _ _ _ _, fun p hp => by simp [m0] at hp, OW.nil _ _ _ _ _, fun q hq => by simp [RM.calls, m0] at hq, rfl, rfl, List.nodup_nil, List.nodup_nil, List.nodup_nil⟩
set_option maxRecDepth 100000 in
set_option maxHeartbeats 1600000 in
theorem cNewReader {w : World} : Calls Tryz.prog 30 #[] w fun q w' => ∃ rb mb, q = .returned (LP rb) ∧ Turned [] w w' ∧ w.heap.size ≤ rb ∧ w'.heap[rb]? = some (.cells (rdCells RS0 m0 mb) 96 (0, 0)) ∧ DM w' mb (deedF 0) := by
  go_enter Tryz.func30, Tryz.ntmps30
  go_wp2_with (go_at_call 84; refine (cAtFirst (w := w)).mono ?_; rintro r1 w1 ⟨mb, rfl, ht, -, hD⟩; have H1 : Hid _ := ht; have H3 : Hid _ := hD; clear ht hD)
  go_ret
  exact ⟨_, mb, rfl, H1.out.alloc _, H1.out.size, blk_new _ _, GM.keep H3.out ((Turned.refl [] _).alloc _) (by simp)⟩
/-- What Parse answers of a text: the script as a value. -/
abbrev scV (r : RS) (m : RM) : Value := .agg #[.int .i64 r.parts, .int .i64 r.workers, .int .i64 r.slots, .int .i64 r.leases, m.vs, .int .i64 r.fails, m.vw, m.vt, m.vh, .int .i64 r.til]
abbrev scZ : Value := .agg #[.int .i64 0, .int .i64 0, .int .i64 0, .int .i64 0, .slice none 0 0, .int .i64 0, .slice none 0 0, .slice none 0 0, .slice none 0 0, .int .i64 0]
/-- Parse's answer: s, e of the text t, in fresh memory. -/
def PaP (w0 w : World) (t : Bs) (s e : Value) : Prop :=
  match parseB t with
  | .ok r => e = .nilIface ∧ ∃ m, s = scV r m ∧ RP w0.heap.size w m r.source r.turns r.halt r.work r.body ∧ r.Ok
  | .error x => s = scZ ∧ ∃ fb, e = .iface 61 (.pointer (some ⟨fb, 0, none⟩)) ∧ w.heap[fb]? = some (.cells #[.int .i64 x.1, .int .i64 x.2] 90 (0, 0)) ∧ w0.heap.size ≤ fb
theorem RP.lower {B C : Nat} {w : World} {m : RM} {S : List (Int × Int)} {T H : List Int} {W : List (List Cl)} {D : List Cl} (h : RP B w m S T H W D) (hb : C ≤ B) : RP C w m S T H W D :=
  ⟨h.src.lower hb, h.trn.lower hb, h.hlt.lower hb, h.wrk.lower hb, fun p hp => (h.rws p hp).lower hb, h.bdy.lower hb, fun q hq => ⟨(h.prs q hq).1.lower hb, (h.prs q hq).2⟩, h.eqw, h.eqb, h.nI, h.nC, h.nP⟩
abbrev z10 : Array Value := #[.int .i64 0, .int .i64 0, .int .i64 0, .int .i64 0, .slice none 0 0, .int .i64 0, .slice none 0 0, .slice none 0 0, .slice none 0 0, .int .i64 0]
/-- What stands while Parse reads. -/
structure PX (w x2 : World) (rb b0 lk : Nat) (LL : List Bs) : Prop where
  res : x2.heap[b0]? = some (.cells z10 31 (0, 0))
  row : x2.heap[lk]? = some (.cells (LL.map sV).toArray 9 (0, 0))
  tu : Turned [] w x2
  ge : w.heap.size ≤ rb ∧ w.heap.size ≤ b0
  ne : b0 ∉ [rb] ∧ lk ∉ [rb]
theorem PX.tuw {w x2 w' : World} {rb b0 lk : Nat} {LL : List Bs} (h : PX w x2 rb b0 lk LL) (ht : Turned [rb] x2 w') : Turned [] w w' := h.tu.inner ht fun x hx => .inr (by rw [List.mem_singleton.1 hx]; exact h.ge.1)
/-- A fault is answered. -/
theorem PX.fault {w x2 w' : World} {rb b0 lk : Nat} {LL : List Bs} {t : Bs} (h : PX w x2 rb b0 lk LL) (ht : Turned [rb] x2 w') {L E : Int} {x : Nat × Nat} (hp : parseB t = .error x) (hL : L = x.1) (hE : E = x.2) :
    ((w'.alloc (.cells #[.int .i64 L, .int .i64 E] 90)).setRow b0 z10).heap[b0]? = some (.cells z10 31 (0, 0)) ∧ Turned [] w ((w'.alloc (.cells #[.int .i64 L, .int .i64 E] 90)).setRow b0 z10) ∧ PaP w ((w'.alloc (.cells #[.int .i64 L, .int .i64 E] 90)).setRow b0 z10) t scZ (.iface 61 (.pointer (some ⟨w'.heap.size, 0, none⟩))) := by
  have h1 := blk_old (ht.heap h.res h.ne.1) (.cells #[.int .i64 L, .int .i64 E] 90)
  refine ⟨setRow_heap _ _ _ _ _ _ h1, ((h.tuw ht).alloc _).row h1 (.inr h.ge.2) _, ?_⟩
  unfold PaP
  rw [hp]
  subst hL hE
  refine ⟨rfl, _, rfl, ?_, (h.tuw ht).size⟩
  rw [setRow_other _ _ _ _ (fun e => by have := lt_of_heap (ht.heap h.res h.ne.1); omega)]
  exact blk_new _ _
theorem lines_drop {LL : List Bs} {i : Nat} (h : i < LL.length) : LL.drop i = LL[i] :: LL.drop (i + 1) := List.drop_eq_getElem_cons h
set_option maxRecDepth 100000 in
set_option maxHeartbeats 6400000 in
theorem cParse {w : World} (hT : TabC w) (hL : LibW w) {t : Bs} (ht : t.length ≤ 1000000000) : Calls Tryz.prog 11 #[sV t] w fun q w' => ∃ s e, q = .returned (.tuple #[s, e]) ∧ Turned [] w w' ∧ PaP w w' t s e := by
  by_cases hlen : 65536 < t.length
  · have HE : Hid (parseB t = .error (1, 222)) := by rw [Hid, parseB, if_pos hlen]
    have hl2 : (65536 : Int) < (t.length : Int) := by omega
    clear hT hL ht hlen
    go_enter Tryz.func11, Tryz.ntmps11
    go_wp2
    refine bodyPost_ret (results_cell_tmp rfl _ _ w.heap.size #[.int .i64 0, .int .i64 0, .int .i64 0, .int .i64 0, .slice none 0 0, .int .i64 0, .slice none 0 0, .slice none 0 0, .slice none 0 0, .int .i64 0] rfl (run_loadVar_row _ _ 31 _ _ (0, 0) _ (blk20 _ _ _) Tryz.underlying31 rfl (by kernel_rfl))) rfl ?_
    refine ⟨_, _, rfl, ((Turned.refl [] w).alloc _).alloc _, ?_⟩
    unfold PaP
    rw [HE.out]
    exact ⟨rfl, _, rfl, blk21 _ _ _, by simp⟩
  · have hk := linesB_ok t []
    have HK : Hid (∀ x ∈ linesB [] t, x.length ≤ 1000000000) := fun x hx => by have := hk.2.2 x hx; simp at this; omega
    have hll : (linesB [] t).length ≤ 70000 := by have := hk.1; omega
    have hl2 : ¬ (65536 : Int) < (t.length : Int) := by omega
    have HP : Hid (parseB t = match RS0.reads 0 (linesB [] t) with | .error e => .error e | .ok r => if r.wants then .error ((linesB [] t).length, 224) else .ok r) := by
      rw [Hid, parseB, if_neg hlen]
      cases RS0.reads 0 (linesB [] t) <;> rfl
    have HT : Hid (TabC w) := hT
    have HL : Hid (LibW w) := hL
    have hge : 4 < w.heap.size := by obtain ⟨m, hm⟩ := hL.mx; exact World.block_lt_of_cell? _ _ hm
    have hsp := fun W (h : LibW W) => @cSplit W h t (by omega)
    have HSp : Hid _ := hsp
    clear hk hT hL ht hlen hsp
    generalize linesB [] t = LL at *
    go_enter Tryz.func11, Tryz.ntmps11
    go_wp2_with (first | (go_at_call 30; refine (cNewReader (w := _)).mono ?_; rintro r1 w1 ⟨rb, mb, rfl, h1, h2, h3, h4⟩; have H1 : Hid _ := h1; have H2 : Hid _ := h2; have H3 : Hid _ := h3; have H4 : Hid _ := h4; have HT1 : Hid (Turned [] w w1) := ((Turned.refl [] w).alloc _).trans h1; clear h1 h2 h3 h4) | (go_at_call 23; refine (HSp.out _ (HL.out.still HT1.out)).mono ?_; rintro r2 w2 ⟨rfl, rfl⟩))
    have hb0 : (w1.alloc (.cells (LL.map sV).toArray 9)).heap[w.heap.size]? = some (.cells z10 31 (0, 0)) := blk_old (H1.out.heap (blk_new w _) (by simp)) _
    have hlk : (w1.alloc (.cells (LL.map sV).toArray 9)).heap[w1.heap.size]? = some (.cells (LL.map sV).toArray 9 (0, 0)) := blk_new _ _
    have hrb := blk_old H3.out (.cells (LL.map sV).toArray 9)
    have hrg : w.heap.size + 1 ≤ rb := by have := H2.out; simpa using this
    have HPX : Hid (PX w (w1.alloc (.cells (LL.map sV).toArray 9)) rb w.heap.size w1.heap.size LL) := ⟨hb0, hlk, HT1.out.alloc _, ⟨by omega, Nat.le_refl _⟩, by rw [List.mem_singleton]; exact tyne hb0 hrb (by decide), by rw [List.mem_singleton]; exact tyne hlk hrb (by decide)⟩
    have HRZ : Hid (RZ (w1.alloc (.cells (LL.map sV).toArray 9)) (w1.alloc (.cells (LL.map sV).toArray 9)) rb RS0 m0 mb) := ⟨Turned.refl _ _, hrb, rp0 _ _, GM.keep H4.out ((Turned.refl [] _).alloc _) (by simp), ⟨HT.out.still (HT1.out.alloc _), by omega, by omega⟩, HL.out.still (HT1.out.alloc _), ok0⟩
    clear hb0 hlk hrb hrg H1 H2 H3 H4 HT1 HT HL HSp hge
    generalize w1.alloc (.cells (LL.map sV).toArray 9) = x2 at *
    generalize w1.heap.size = lk at *
    generalize w.heap.size = b0 at *
    go_loopg [21] LL.length (fun g v wr => Hid (∃ (i : Nat) (r : RS) (m : RM) (mb : Nat), v = .int .i64 i ∧ i + g = LL.length ∧ RZ x2 wr rb r m mb ∧ RS.reads r i (LL.drop i) = RS0.reads 0 LL))
    case atStart => exact ⟨0, RS0, m0, mb, rfl, by omega, HRZ.out, rfl⟩
    case round =>
      obtain ⟨i, r, m, mb', rfl, hi, hZ, hrd⟩ := hrel.out
      clear hrel HRZ
      have HZ : Hid _ := hZ
      have HRd : Hid _ := hrd
      clear hrd
      by_cases hlt : i < LL.length
      · obtain ⟨g, rfl⟩ : ∃ g, gk = g + 1 := ⟨gk - 1, by omega⟩
        have hrow := hZ.tu.heap HPX.out.row HPX.out.ne.2
        have c1 := lt_of_heap hrow
        have c2 : wr.cell? ⟨lk, i, none⟩ = some (sV LL[i]) := by rw [cell_at hrow]; simp [hlt]
        have hrd := cRead hZ (HK.out LL[i] (List.getElem_mem hlt))
        have HS : Hid (RS0.reads 0 LL = if (r.read LL[i]).2 = 0 then RS.reads (r.read LL[i]).1 (i + 1) (LL.drop (i + 1)) else .error (i + 1, (r.read LL[i]).2)) := by
          rw [Hid, ← HRd.out, lines_drop hlt, RS.reads]
        clear hZ hrow
        generalize LL[i] = tx at *
        generalize hq1 : (r.read tx).1 = r1 at *
        generalize hq2 : (r.read tx).2 = er at *
        clear hq1 hq2
        by_cases her : er = 0
        · have HS2 : Hid (RS.reads r1 (i + 1) (LL.drop (i + 1)) = RS0.reads 0 LL) := by rw [Hid, HS.out, if_pos her]
          go_wp2_with (go_at_call 31; refine hrd.mono ?_; rintro q w3 ⟨rfl, h1, h2⟩; obtain ⟨m3, mb3, h3⟩ := h2 her; have HZ3 : Hid _ := h3; clear h1 h2 h3 hrd; rw [her])
          go_roundg g
          case rel => exact ⟨i + 1, r1, m3, mb3, by first | (simp; done) | (simp; unfold wrap64; omega), by omega, HZ3.out, HS2.out⟩
          · omega
        · have HP2 : Hid (parseB t = .error (i + 1, er)) := by rw [Hid, HP.out, HS.out, if_neg her]
          have her' : ¬ ((er : Int) = 0) := by omega
          go_wp2_with (first | (go_at_call 31; refine hrd.mono ?_; rintro q w3 ⟨rfl, h1, -⟩; have HT3 : Hid _ := h1; clear h1 hrd) | (refine wpList_store_row rfl 31 (.tmp 2) (.tmp 31) rfl b0 z10 rfl rfl 31 _ (blk_old (HT3.out.heap HPX.out.res HPX.out.ne.1) _) (by kernel_rfl) rfl (by simp [Value.oneCell']) ?_))
          have hF := HPX.out.fault (L := (i : Int) + 1) (E := (er : Int)) HT3.out HP2.out (by simp) rfl
          refine bodyPost_ret (results_cell_tmp rfl _ _ b0 z10 rfl (run_loadVar_row _ _ 31 _ _ (0, 0) _ hF.1 Tryz.underlying31 rfl (by kernel_rfl))) rfl ?_
          exact ⟨_, _, rfl, hF.2.1, hF.2.2⟩
      · have HRo : Hid (RS0.reads 0 LL = .ok r) := by
          rw [Hid, ← HRd.out, List.drop_of_length_le (by omega)]
          rfl
        obtain ⟨p0, p1, p2⟩ := hZ.at 11 (.bool r.wants) rfl
        cases hwn : r.wants with
        | true =>
          have HP2 : Hid (parseB t = .error (LL.length, 224)) := by rw [Hid, HP.out, HRo.out]; simp [hwn]
          rw [hwn] at p1
          clear hZ
          go_wp2_with (refine wpList_store_row rfl 31 (.tmp 2) (.tmp 43) rfl b0 z10 rfl rfl 31 _ (blk_old (HZ.out.tu.heap HPX.out.res HPX.out.ne.1) _) (by kernel_rfl) rfl (by simp [Value.oneCell']) ?_)
          have hF := HPX.out.fault (L := (LL.length : Int)) (E := 224) HZ.out.tu HP2.out rfl rfl
          refine bodyPost_ret (results_cell_tmp rfl _ _ b0 z10 rfl (run_loadVar_row _ _ 31 _ _ (0, 0) _ hF.1 Tryz.underlying31 rfl (by kernel_rfl))) rfl ?_
          exact ⟨_, _, rfl, hF.2.1, hF.2.2⟩
        | false =>
          have HP2 : Hid (parseB t = .ok r) := by rw [Hid, HP.out, HRo.out]; simp [hwn]
          rw [hwn] at p1
          have hrange : wr.rangeAt rb 0 [.int .i64 r.parts, .int .i64 r.workers, .int .i64 r.slots, .int .i64 r.leases, m.vs, .int .i64 r.fails, m.vw, m.vt, m.vh, .int .i64 r.til] := fun j v hj => by
            rw [cell_at hZ.blk, Nat.zero_add]
            match j with
            | 0 => exact hj
            | 1 => exact hj
            | 2 => exact hj
            | 3 => exact hj
            | 4 => exact hj
            | 5 => exact hj
            | 6 => exact hj
            | 7 => exact hj
            | 8 => exact hj
            | 9 => exact hj
            | n + 10 => simp at hj
          have HRa : Hid _ := hrange
          have o1 : m.vs.oneCell' = true := by obtain ⟨a, c, e⟩ := hZ.rp.src.slice; rw [e]; rfl
          have o2 : m.vw.oneCell' = true := by obtain ⟨a, c, e⟩ := hZ.rp.wrk.slice; rw [e]; rfl
          have o3 : m.vt.oneCell' = true := by obtain ⟨a, c, e⟩ := hZ.rp.trn.slice; rw [e]; rfl
          have o4 : m.vh.oneCell' = true := by obtain ⟨a, c, e⟩ := hZ.rp.hlt.slice; rw [e]; rfl
          have HO : Hid ((#[.int .i64 r.parts, .int .i64 r.workers, .int .i64 r.slots, .int .i64 r.leases, m.vs, .int .i64 r.fails, m.vw, m.vt, m.vh, .int .i64 r.til] : Array Value).all (·.oneCell') = true) := by
            refine all_oneCell_toArray fun v hv => ?_
            simp only [List.mem_cons, List.not_mem_nil, or_false] at hv
            rcases hv with rfl | rfl | rfl | rfl | rfl | rfl | rfl | rfl | rfl | rfl <;> first | rfl | assumption
          clear hZ hrange o1 o2 o3 o4
          go_wp2_with (first | (refine wpList_load_mid rfl 31 (.tmp 51) rfl rb 0 rfl _ _ HRa.out Tryz.underlying31 rfl (by kernel_rfl) ?_) | (refine wpList_store_row rfl 31 (.tmp 2) (.tmp 52) rfl b0 #[.int .i64 r.parts, .int .i64 r.workers, .int .i64 r.slots, .int .i64 r.leases, m.vs, .int .i64 r.fails, m.vw, m.vt, m.vh, .int .i64 r.til] rfl rfl 31 _ (HZ.out.tu.heap HPX.out.res HPX.out.ne.1) (by kernel_rfl) rfl HO.out ?_))
          have hres := HZ.out.tu.heap HPX.out.res HPX.out.ne.1
          have hts : ∀ cs, Turned [b0] wr (wr.setRow b0 cs) := fun cs => (Turned.refl [b0] wr).row hres (.inl (by simp)) cs
          refine bodyPost_ret (results_cell_tmp rfl _ _ b0 #[.int .i64 r.parts, .int .i64 r.workers, .int .i64 r.slots, .int .i64 r.leases, m.vs, .int .i64 r.fails, m.vw, m.vt, m.vh, .int .i64 r.til] rfl (run_loadVar_row _ _ 31 _ _ (0, 0) _ (setRow_heap _ _ _ _ _ _ hres) Tryz.underlying31 rfl (by kernel_rfl))) rfl ?_
          refine ⟨_, _, rfl, (HPX.out.tuw HZ.out.tu).row hres (.inr HPX.out.ge.2) _, ?_⟩
          unfold PaP
          rw [HP2.out]
          exact ⟨rfl, m, rfl, (HZ.out.rp.lower HPX.out.tu.size).off (hts _) (fun b hb => by rw [List.mem_singleton.1 hb]; exact ⟨_, _, hres, by decide⟩), HZ.out.ok⟩
end Go.Proofs.YtbnpdfakniebnaaGreatDoor

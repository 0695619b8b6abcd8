/-
  A version behind one that publishes, as the document makes it; by contract. (By the verifier; no statement.)
-/
import Derived.Test.YtbielnehggcaoaaDoorJ30
import Derived.Deep.CutRange
import Derived.Test.YtbielnehggcaoaaDoorJ31
import Derived.Test.YtbielnehggcaoaaDoorJ26
namespace Go.Proofs.YtbielnehggcaoaaDoor
open Go.RowKit
/-- In the midst of a table's change: the table's cell, the event's, the answer's. -/
structure BeS (w : World) (B n tb eb rb : Nat) (ev : Array Value) (f : Hold) (x : World) : Prop where
  tu : Turned [] w x
  le : w.heap.size ≤ tb ∧ w.heap.size ≤ rb ∧ B ≤ w.heap.size
  ne : tb ≠ eb ∧ tb ≠ rb ∧ eb ≠ rb
  t : ∃ v, x.heap[tb]? = some (.cells #[v] 118 (0, 0)) ∧ TB B x v f n
  e : x.heap[eb]? = some (.cells ev 52 (0, 0))
  r : ∃ v, x.heap[rb]? = some (.cells #[v] 118 (0, 0))
section
variable {w x y z : World} {B n n2 tb eb rb : Nat} {ev : Array Value} {f f2 : Hold}
theorem BeS.still (h : BeS w B n tb eb rb ev f x) (ht : Turned [] x y) : BeS w B n tb eb rb ev f y := by
  obtain ⟨v, h1, h2⟩ := h.t
  obtain ⟨v', h3⟩ := h.r
  exact ⟨h.tu.trans ht, h.le, h.ne, ⟨v, ht.heap h1 (by simp), h2.still ht⟩, ht.heap h.e (by simp), v', ht.heap h3 (by simp)⟩
theorem BeS.mono (h : BeS w B n tb eb rb ev f x) (hn : n ≤ n2) : BeS w B n2 tb eb rb ev f x := by
  obtain ⟨v, h1, h2⟩ := h.t
  exact ⟨h.tu, h.le, h.ne, ⟨v, h1, h2.mono hn⟩, h.e, h.r⟩
theorem BeS.low {B2 : Nat} (h : BeS w B n tb eb rb ev f x) (hb : B2 ≤ B) : BeS w B2 n tb eb rb ev f x := by
  obtain ⟨v, h1, h2⟩ := h.t
  exact ⟨h.tu, ⟨h.le.1, h.le.2.1, Nat.le_trans hb h.le.2.2⟩, h.ne, ⟨v, h1, h2.lower hb⟩, h.e, h.r⟩
/-- Another table is laid. -/
theorem BeS.put {v : Value} {B2 : Nat} (h : BeS w B n tb eb rb ev f x) (ht : Turned [] x z) (hv : TB B2 z v f2 n2) (hB2 : B2 ≤ w.heap.size) : tb < z.heap.size ∧ (∃ u, z.cell? ⟨tb, 0, none⟩ = some u) ∧ z.frozen? ⟨tb, 0, none⟩ = false ∧ BeS w B2 n2 tb eb rb ev f2 (z.setCell ⟨tb, 0, none⟩ v) := by
  obtain ⟨u, h1, -⟩ := h.t
  obtain ⟨v', h3⟩ := h.r
  have k1 := ht.heap h1 (by simp)
  have hs : Turned [tb] z (z.setCell ⟨tb, 0, none⟩ v) := (Turned.refl [tb] z).set (by simp) _ _
  refine ⟨lt_of_heap k1, ⟨u, by rw [cell_at k1]; rfl⟩, froz_at k1 0, (h.tu.trans ht).set (.inr h.le.1) _ _, ⟨h.le.1, h.le.2.1, hB2⟩, h.ne, ⟨v, ?_, hv.keep hs fun g cs hg hc => ?_⟩, hs.heap (ht.heap h.e (by simp)) (by simpa using h.ne.1.symm), v', hs.heap (ht.heap h3 (by simp)) (by simpa using h.ne.2.1.symm)⟩
  · have := blk_set k1 0 v
    simpa using this
  · rw [List.mem_singleton.1 hg] at hc
    exact tyne k1 hc (by decide) rfl
/-- One more pair: what the append and the store leave. -/
theorem BeS.push {v v2 : Value} {l : List (Int × Int)} {q : Int × Int} (h : BeS w B n tb eb rb ev f x) (hv : x.heap[tb]? = some (.cells #[v] 118 (0, 0))) (hxy : Turned [] x y) (hO : OW 67 2 encP B y v l) (ht : Turned v.ownBlock.toList y z) (ho : OW 67 2 encP B z v2 (l ++ [q])) (hl : l.length ≤ n) (hfw : w.heap.size ≤ B) : tb < z.heap.size ∧ z.cell? ⟨tb, 0, none⟩ = some v ∧ z.frozen? ⟨tb, 0, none⟩ = false ∧ BeS w B (n + 1) tb eb rb ev (layN (l ++ [q])) (z.setCell ⟨tb, 0, none⟩ v2) := by
  obtain ⟨v', h3⟩ := h.r
  have k1 := hxy.heap hv (by simp)
  have hne : ∀ b cs T, T ≠ 67 → y.heap[b]? = some (.cells cs T (0, 0)) → b ∉ v.ownBlock.toList := fun b cs T hT hb hm => by
    simp only [Option.mem_toList] at hm
    obtain ⟨cs', h2⟩ := hO.type hm
    exact tyne hb h2 hT rfl
  have k2 := ht.heap k1 (hne _ _ _ (by decide) k1)
  have ke := hxy.heap h.e (by simp)
  have kr := hxy.heap h3 (by simp)
  have ke2 := ht.heap ke (hne _ _ _ (by decide) ke)
  have kr2 := ht.heap kr (hne _ _ _ (by decide) kr)
  have hs : Turned [tb] z (z.setCell ⟨tb, 0, none⟩ v2) := (Turned.refl [tb] z).set (by simp) _ _
  refine ⟨lt_of_heap k2, by rw [cell_at k2]; rfl, froz_at k2 0, ((h.tu.trans hxy).inner ht fun g hg => .inr (Nat.le_trans hfw (hO.fresh (by simpa using hg)).1)).set (.inr h.le.1) _ _, h.le, h.ne, ⟨v2, ?_, ⟨l ++ [q], ho.keep hs fun g hg hm => ?_, rfl, by rw [List.length_append]; simp; omega⟩⟩, hs.heap ke2 (by simpa using h.ne.1.symm), v', hs.heap kr2 (by simpa using h.ne.2.1.symm)⟩
  · have := blk_set k2 0 v2
    simpa using this
  · obtain ⟨cs, h4⟩ := ho.type hg
    rw [List.mem_singleton.1 hm] at h4
    exact tyne k2 h4 (by decide) rfl
/-- The answer is laid. -/
theorem BeS.fin {v : Value} (h : BeS w B n tb eb rb ev f x) (hT : TB B x v f n) : (rb < x.heap.size ∧ (∃ u, x.cell? ⟨rb, 0, none⟩ = some u) ∧ x.frozen? ⟨rb, 0, none⟩ = false) ∧ (x.setCell ⟨rb, 0, none⟩ v).heap[rb]? = some (.cells #[v] 118 (0, 0)) ∧ TB B (x.setCell ⟨rb, 0, none⟩ v) v f n ∧ Turned [] w (x.setCell ⟨rb, 0, none⟩ v) := by
  obtain ⟨v', h3⟩ := h.r
  have hs : Turned [rb] x (x.setCell ⟨rb, 0, none⟩ v) := (Turned.refl [rb] x).set (by simp) _ _
  refine ⟨⟨lt_of_heap h3, ⟨v', by rw [cell_at h3]; rfl⟩, froz_at h3 0⟩, ?_, hT.keep hs fun g cs hg hc => ?_, h.tu.set (.inr h.le.2.1) _ _⟩
  · have := blk_set h3 0 v
    simpa using this
  · rw [List.mem_singleton.1 hg] at hc
    exact tyne h3 hc (by decide) rfl
end
set_option maxRecDepth 100000 in
set_option maxHeartbeats 6400000 in
theorem cBehind {w : World} {B n : Nat} {v nv : Value} {f : Hold} {e : Ev} {pa : Option Addr} {pc : Nat} (hT : TB B w v f n) (hB : B ≤ w.heap.size) (hn : n ≤ 500000000) (hP : PW w (.slice pa e.ps.length pc) e.ps) : Calls Tryd.prog 56 #[.agg #[v], .agg (evA e nv (.slice pa e.ps.length pc))] w fun r w' => (∃ v', r = .returned (.agg #[v']) ∧ TB B w' v' (f.chg e) (n + e.ps.length + 1)) ∧ Turned [] w w' := by
  have HP : Hid (∀ k, k < e.ps.length → ∃ b o, pa = some ⟨b, o, none⟩ ∧ ∀ y, Turned [] w y → b < y.heap.size ∧ y.cell? ⟨b, o + k * 2, none⟩ = some (.int .i64 (e.ps.getD k (0, 0)).1) ∧ y.cell? ⟨b, o + k * 2 + 1, none⟩ = some (.int .i64 (e.ps.getD k (0, 0)).2)) := fun k hk => by
    obtain ⟨a, c, e1, hc⟩ := hP.ex
    simp only [Value.slice.injEq] at e1
    obtain ⟨b, o, e2, h2⟩ := hc (fun e0 => by rw [e0] at hk; simp at hk)
    have e3 : e.ps.getD k (0, 0) = e.ps[k] := by simp [hk]
    rw [e3]
    refine ⟨b, o, by rw [e1.1, e2], fun y hy => ?_⟩
    have c0 := hy.cell (h2 k hk).1 (by simp)
    exact ⟨World.block_lt_of_cell? _ _ c0, c0, hy.cell (h2 k hk).2 (by simp)⟩
  have hpl := hP.len
  clear hP
  obtain ⟨l, hO, hl, hln⟩ := id hT.ex
  obtain ⟨va, vc, rfl⟩ := hO.slice
  have HOa : Hid (OW 67 2 encP B w (.slice va l.length vc) l ∧ layN l = f ∧ l.length ≤ n) := ⟨hO, hl, hln⟩
  clear hO hl hln
  obtain ⟨wk, b0, en, k, p, key, num, had, val, has, new, ns, ps⟩ := e
  dsimp only at *
  have HS0 : Hid (BeS w B n w.heap.size (w.heap.size + 1) (w.heap.size + 1 + 1) (evA ⟨wk, b0, en, k, p, key, num, had, val, has, new, ns, ps⟩ nv (.slice pa ps.length pc)) f (((w.alloc (.cells #[.slice va l.length vc] 118 (0, 0))).alloc (.cells (evA ⟨wk, b0, en, k, p, key, num, had, val, has, new, ns, ps⟩ nv (.slice pa ps.length pc)) 52 (0, 0))).alloc (.cells #[.slice none 0 0] 118 (0, 0)))) := by
    have ht : Turned [] w (((w.alloc (.cells #[.slice va l.length vc] 118 (0, 0))).alloc (.cells (evA ⟨wk, b0, en, k, p, key, num, had, val, has, new, ns, ps⟩ nv (.slice pa ps.length pc)) 52 (0, 0))).alloc (.cells #[.slice none 0 0] 118 (0, 0))) := (((Turned.refl [] w).alloc _).alloc _).alloc _
    exact ⟨ht, ⟨Nat.le_refl _, by omega, hB⟩, ⟨by omega, by omega, by omega⟩, ⟨_, blk30 _ _ _ _, hT.still ht⟩, blk31 _ _ _ _, _, blk32 _ _ _ _⟩
  clear hT
  by_cases hk : k = 5
  · subst hk
    have HF : Hid (f.chg ⟨wk, b0, en, 5, p, key, num, had, val, has, new, ns, ps⟩ = f.lay (ps.take ps.length)) := by rw [Hid, List.take_length]; rfl
    have HM : Hid (∀ k, k < ps.length → f.lay (ps.take (k + 1)) = (f.lay (ps.take k)).put (ps.getD k (0, 0)).1 (ps.getD k (0, 0)).2) := fun k hk => lay_more f hk
    go_enter Tryd.func56, Tryd.ntmps56
    go_wp2
    generalize ((w.alloc (.cells #[.slice va l.length vc] 118 (0, 0))).alloc (.cells (evA ⟨wk, b0, en, 5, p, key, num, had, val, has, new, ns, ps⟩ nv (.slice pa ps.length pc)) 52 (0, 0))).alloc (.cells #[.slice none 0 0] 118 (0, 0)) = x0 at HS0 ⊢
    have HW : Hid (∀ x, BeS w B n w.heap.size (w.heap.size + 1) (w.heap.size + 1 + 1) (evA ⟨wk, b0, en, 5, p, key, num, had, val, has, new, ns, ps⟩ nv (.slice pa ps.length pc)) f x → Turned [] w x) := fun x hx => hx.tu
    generalize w.heap.size + 1 + 1 = rb at HS0 HW ⊢
    generalize hebq : w.heap.size + 1 = eb at HS0 HW ⊢
    generalize htbq : w.heap.size = tb at HS0 HW ⊢
    have HTB : Hid (w.heap.size = tb) := htbq
    clear htbq hebq HW HOa
    generalize hEV : evA ⟨wk, b0, en, 5, p, key, num, had, val, has, new, ns, ps⟩ nv (.slice pa ps.length pc) = ev at HS0
    have HEV : Hid (ev[12]? = some (.slice pa ps.length pc)) := by rw [Hid, ← hEV]; rfl
    clear hEV
    go_loopw [5] (fun i wx => Bx (∃ k : Nat, k ≤ ps.length ∧ i = .int .i64 k ∧ Hid (BeS w B (n + k) tb eb rb ev (f.lay (ps.take k)) wx))) (fun i _ => ps.length - (intOf i).toNat)
    case atStart => exact ⟨0, Nat.zero_le _, rfl, HS0⟩
    case round =>
      obtain ⟨k, hk, rfl, HS⟩ := hrel.ex
      clear hrel HS0
      have e1 := lt_of_heap HS.out.e
      have e2 : wr.cell? ⟨eb, 12, none⟩ = some (.slice pa ps.length pc) := by rw [cell_at HS.out.e]; exact HEV.out
      by_cases hlt : k < ps.length
      · obtain ⟨b, o, rfl, hc⟩ := HP.out k hlt
        obtain ⟨c0, c1, c2⟩ := hc wr HS.out.tu
        have HC : Hid _ := hc
        have HMk := HM.out k hlt
        obtain ⟨u, hu, hTu⟩ := HS.out.t
        obtain ⟨l1, hO1, hl1, hn1⟩ := hTu.ex
        obtain ⟨ua, uc, rfl⟩ := hO1.slice
        have t1 := lt_of_heap hu
        have t2 : wr.cell? ⟨tb, 0, none⟩ = some (.slice ua l1.length uc) := by rw [cell_at hu]; rfl
        have PW0 : ∀ key, Calls Tryd.prog 72 #[.agg #[.slice ua l1.length uc], .int .i64 key] wr.drew fun r w' => (∃ v, r = .returned (.agg #[v]) ∧ OW 67 2 encP wr.drew.heap.size w' v (noKey key l1)) ∧ Turned [] wr.drew w' := fun key => cWithout (hO1.still (Turned.refl [] wr).drew).view (by omega)
        have HPu : Hid (∀ z v2, Turned [] wr z → TB w.heap.size z v2 ((f.lay (ps.take k)).del (ps.getD k (0, 0)).1) (n + k) → tb < z.heap.size ∧ (∃ u, z.cell? ⟨tb, 0, none⟩ = some u) ∧ z.frozen? ⟨tb, 0, none⟩ = false ∧ BeS w w.heap.size (n + k) tb eb rb ev ((f.lay (ps.take k)).del (ps.getD k (0, 0)).1) (z.setCell ⟨tb, 0, none⟩ v2)) := fun z v2 h1 h2 => HS.out.put h1 h2 (Nat.le_refl _)
        have HWr : Hid (w.heap.size ≤ wr.heap.size) := HS.out.tu.size
        have HL1 : Hid (layN l1 = f.lay (ps.take k)) := hl1
        have HN1 : Hid (l1.length ≤ n + k) := hn1
        clear hc hu hTu hO1 hl1 hn1 HM
        generalize hq1 : (ps.getD k (0, 0)).1 = q1 at *
        generalize hq2 : (ps.getD k (0, 0)).2 = q2 at *
        go_wp2
        go_region_with (go_at_call 72; refine (PW0 _).mono ?_; rintro r z ⟨⟨v2, rfl, hO2⟩, tz⟩; have HO2 : Hid _ := hO2; have HZ : Hid (Turned [] wr z) := (Turned.refl [] wr).drew.trans tz; obtain ⟨va, vc, rfl⟩ := hO2.slice; obtain ⟨m1, ⟨m2, m3⟩, m4, m5⟩ := HPu.out z (.slice va (noKey q1 l1).length vc) HZ.out ⟨noKey q1 l1, hO2.lower (Nat.le_trans HWr.out (by simp)), by rw [layN_noKey, HL1.out], Nat.le_trans (noKey_len _ _) HN1.out⟩; have HS2 : Hid _ := m5; clear hO2 tz m5)
        all_goals
          clear HO2 m1 m2 m3 m4 HPu PW0 t1 t2 e1 e2 c0 c1 c2
          generalize z.setCell ⟨tb, 0, none⟩ (.slice va (noKey q1 l1).length vc) = y at HS2 ⊢

          have e1 := lt_of_heap HS2.out.e
          have e2 : y.cell? ⟨eb, 12, none⟩ = some (.slice (some ⟨b, o, none⟩) ps.length pc) := by rw [cell_at HS2.out.e]; exact HEV.out
          obtain ⟨c0, c1, c2⟩ := HC.out y HS2.out.tu
          obtain ⟨u, hu, hTu⟩ := HS2.out.t
          obtain ⟨l3, hO3, hl3, hn3⟩ := hTu.ex
          obtain ⟨va, vc, rfl⟩ := hO3.slice
          have t1 := lt_of_heap hu
          have t2 : y.cell? ⟨tb, 0, none⟩ = some (.slice va l3.length vc) := by rw [cell_at hu]; rfl
          have HO : Hid (OW 67 2 encP w.heap.size y (.slice va l3.length vc) l3) := hO3
          have hB0 : w.heap.size ≤ y.heap.size := HS2.out.tu.size
          have hby : (l3.length + [(q1, q2)].length) * 16 ≤ 140737488355328 := by
            simp only [List.length_cons, List.length_nil]
            omega
          have HOne : Hid (∀ (i : Nat) (u : Value), ([(q1, q2)].flatMap encP)[i]? = some u → (#[Value.int .i64 q1, Value.int .i64 q2] : Array Value)[i]? = some u) := fun i u hu => by simpa [encP] using hu
          have HPu : Hid _ := fun y' z v2 h1 h2 h3 => HS2.out.push (q := (q1, q2)) (v2 := v2) (y := y') (z := z) hu h1 (hO3.still h1) h2 h3 hn3 (Nat.le_refl _)
          have HL3 : Hid (layN (l3 ++ [(q1, q2)]) = f.lay (ps.take (k + 1))) := by rw [Hid, layN_put, hl3, Hold.del_put, HMk]
          clear hu hTu hO3 hl3 hn3 HMk
          go_wp2
          go_region_law (first | (refine step_apO elP enP (B := w.heap.size) (v := .slice va l3.length vc) (u := .slice (some ⟨y.heap.size, 0, none⟩) 1 1) (R := l3) (M := [(q1, q2)]) rfl _ _ rfl ?_ (HO.out.still ?_) ?_ (VW.block (R := [(q1, q2)]) (c := 1) (blk_new _ _) HOne.out) hby ?_ ?_; (focus (simp [Act.eval]; done)); (focus (repeat first | exact Turned.refl _ _ | refine Turned.drew ?_ | refine Turned.alloc ?_ _)); (focus (simp [Act.eval]; done)); (focus (refine Nat.le_trans hB0 ?_; simp)); intro v2 w2 ho ht _; obtain ⟨g2, c2, rfl⟩ := ho.somes; obtain ⟨m1, m2, m3, m4⟩ := HPu.out _ w2 _ (by (repeat first | exact Turned.refl _ _ | refine Turned.drew ?_ | refine Turned.alloc ?_ _)) ht ho; have HM2 : Hid _ := m4; clear m4 ho ht))
          all_goals
            go_wp2
            go_roundw
            case rel => exact ⟨k + 1, by omega, by go_num, by rw [← HL3.out]; exact HM2.out.low (by have := HS.out.le.2.2; omega)⟩
            case measure => simp [intOf]; omega
      · obtain rfl : k = ps.length := by omega
        obtain ⟨u, hu, hTu⟩ := HS.out.t
        obtain ⟨l1, hO1, hl1, hn1⟩ := id hTu.ex
        obtain ⟨ua, uc, rfl⟩ := hO1.slice
        have t1 := lt_of_heap hu
        have t2 : wr.cell? ⟨tb, 0, none⟩ = some (.slice ua l1.length uc) := by rw [cell_at hu]; rfl
        obtain ⟨⟨r1, ⟨u2, r2⟩, r3⟩, hbk, hT2, hU2⟩ := HS.out.fin hTu
        have HBk : Hid _ := hbk
        have HT2 : Hid _ := hT2
        have HU2 : Hid _ := hU2
        clear hu hTu hO1 hl1 hn1 hbk hT2 hU2
        go_wp2
        refine bodyPost_ret (results_cell_row rfl _ _ rb _ _ (0, 0) _ rfl HBk.out Tryd.underlying118 rfl (by kernel_rfl)) rfl ⟨⟨_, rfl, ?_⟩, HU2.out⟩
        rw [HF.out]
        exact HT2.out.mono (by omega)
  · have xk : (k == 5) = false := by simpa using hk
    have HF : Hid (f.chg ⟨wk, b0, en, k, p, key, num, had, val, has, new, ns, ps⟩ = if has then f.put key new else f.del key) := by rw [Hid]; unfold Hold.chg; rw [if_neg hk]
    clear hk HP
    have hB1 : B ≤ w.heap.size := HS0.out.le.2.2
    have tT := HS0.out.tu.size
    have P0 : Calls Tryd.prog 72 #[.agg #[.slice va l.length vc], .int .i64 key] (((w.alloc (.cells #[.slice va l.length vc] 118 (0, 0))).alloc (.cells (evA ⟨wk, b0, en, k, p, key, num, had, val, has, new, ns, ps⟩ nv (.slice pa ps.length pc)) 52 (0, 0))).alloc (.cells #[.slice none 0 0] 118 (0, 0))) fun r w' => (∃ v, r = .returned (.agg #[v]) ∧ TB w.heap.size w' v (f.del key) n) ∧ Turned [] (((w.alloc (.cells #[.slice va l.length vc] 118 (0, 0))).alloc (.cells (evA ⟨wk, b0, en, k, p, key, num, had, val, has, new, ns, ps⟩ nv (.slice pa ps.length pc)) 52 (0, 0))).alloc (.cells #[.slice none 0 0] 118 (0, 0))) w' := by
      obtain ⟨o1, o2, o3⟩ := HOa.out
      refine (cWithout (o1.still ((((Turned.refl [] w).alloc _).alloc _).alloc _)).view (by omega)).mono ?_
      rintro r w' ⟨⟨v, rfl, h1⟩, h2⟩
      exact ⟨⟨v, rfl, ⟨noKey key l, h1.lower tT, by rw [layN_noKey, o2], Nat.le_trans (noKey_len _ _) o3⟩⟩, h2⟩
    clear tT
    go_enter Tryd.func56, Tryd.ntmps56
    go_upto_region 9 with (go_at_call 72; refine P0.mono ?_; rintro r z ⟨⟨v2, rfl, hT2⟩, tz⟩; obtain ⟨l2, hO2, -, -⟩ := id hT2.ex; obtain ⟨va2, vc2, rfl⟩ := hO2.slice; obtain ⟨m1, ⟨m2, m3⟩, m4, m5⟩ := HS0.out.put tz hT2 (Nat.le_refl _); have HS2 : Hid _ := m5; clear hT2 tz m5 hO2)
    clear m1 m2 m3 m4 P0 HS0
    generalize z.setCell ⟨w.heap.size, 0, none⟩ (.slice va2 l2.length vc2) = y at HS2 ⊢
    generalize w.heap.size + 1 + 1 = rb at HS2 ⊢
    generalize w.heap.size + 1 = eb at HS2 ⊢
    generalize htbq : w.heap.size = tb at HS2 ⊢
    have HTB : Hid (w.heap.size = tb) := htbq
    clear htbq HOa
    have e1 := lt_of_heap HS2.out.e
    have e5 : y.cell? ⟨eb, 5, none⟩ = some (.int .i64 key) := by rw [cell_at HS2.out.e]; rfl
    have e9 : y.cell? ⟨eb, 9, none⟩ = some (.bool has) := by rw [cell_at HS2.out.e]; rfl
    have e10 : y.cell? ⟨eb, 10, none⟩ = some (.int .i64 new) := by rw [cell_at HS2.out.e]; rfl
    obtain ⟨u, hu, hTu⟩ := HS2.out.t
    obtain ⟨l1, hO1, hl1, hn1⟩ := id hTu.ex
    obtain ⟨ua, uc, rfl⟩ := hO1.slice
    have t1 := lt_of_heap hu
    have t2 : y.cell? ⟨tb, 0, none⟩ = some (.slice ua l1.length uc) := by rw [cell_at hu]; rfl
    cases has with
    | false =>
      obtain ⟨⟨r1, ⟨u2, r2⟩, r3⟩, hbk, hT2, hU2⟩ := HS2.out.fin hTu
      have HBk : Hid _ := hbk
      have HT2 : Hid _ := hT2
      have HU2 : Hid _ := hU2
      clear hu hTu hO1 hl1 hn1 hbk hT2 hU2
      go_wp2
      refine bodyPost_ret (results_cell_row rfl _ _ rb _ _ (0, 0) _ rfl HBk.out Tryd.underlying118 rfl (by kernel_rfl)) rfl ⟨⟨_, rfl, ?_⟩, HU2.out⟩
      rw [HF.out]
      exact (HT2.out.mono (by omega)).lower (by rw [← HTB.out]; exact hB1)
    | true =>
      have HO : Hid (OW 67 2 encP tb y (.slice ua l1.length uc) l1) := hO1
      have hB0 : tb ≤ y.heap.size := by rw [← HTB.out]; exact HS2.out.tu.size
      have hby : (l1.length + [(key, new)].length) * 16 ≤ 140737488355328 := by
        simp only [List.length_cons, List.length_nil]
        omega
      have HOne : Hid (∀ (i : Nat) (u : Value), ([(key, new)].flatMap encP)[i]? = some u → (#[Value.int .i64 key, Value.int .i64 new] : Array Value)[i]? = some u) := fun i u hu => by simpa [encP] using hu
      have HPu : Hid _ := fun z v2 h2 h3 => HS2.out.push (q := (key, new)) (v2 := v2) (z := z) hu ((Turned.refl [] y).alloc (.cells #[.int .i64 key, .int .i64 new] 67 (0, 0))) (hO1.still ((Turned.refl [] y).alloc _)) h2 h3 hn1 (by rw [HTB.out]; exact Nat.le_refl _)
      have HL3 : Hid (layN (l1 ++ [(key, new)]) = f.put key new) := by rw [Hid, layN_put, hl1, Hold.del_put]
      clear hu hTu hO1 hl1 hn1
      go_upto_region 11 with (at_builtin; refine wpList_apO elP enP (B := tb) (v := .slice ua l1.length uc) (u := .slice (some ⟨y.heap.size, 0, none⟩) 1 1) (R := l1) (M := [(key, new)]) rfl _ _ rfl rfl (HO.out.still ((Turned.refl [] _).alloc _)) rfl (VW.block (R := [(key, new)]) (c := 1) (blk_new _ _) HOne.out) hby (by simp; omega) ?_; intro v3 w3 ho ht _; obtain ⟨g2, c2, rfl⟩ := ho.somes; obtain ⟨m1, m2, m3, m4⟩ := HPu.out w3 _ ht ho; have HM2 : Hid _ := m4; clear m4 ho ht)
      clear m1 m2 m3 HPu HOne HO t1 t2 e1 e5 e9 e10
      generalize w3.setCell ⟨tb, 0, none⟩ (.slice (some ⟨g2, 0, none⟩) (l1.length + 1) c2) = y3 at HM2 ⊢
      obtain ⟨u, hu, hTu⟩ := HM2.out.t
      obtain ⟨l4, hO4, hl4, hn4⟩ := id hTu.ex
      obtain ⟨qa, qc, rfl⟩ := hO4.slice
      have t1 := lt_of_heap hu
      have t2 : y3.cell? ⟨tb, 0, none⟩ = some (.slice qa l4.length qc) := by rw [cell_at hu]; rfl
      obtain ⟨⟨r1, ⟨u2, r2⟩, r3⟩, hbk, hT2, hU2⟩ := HM2.out.fin hTu
      have HBk : Hid _ := hbk
      have HT2 : Hid _ := hT2
      have HU2 : Hid _ := hU2
      clear hu hTu hO4 hl4 hn4 hbk hT2 hU2
      go_wp2
      refine bodyPost_ret (results_cell_row rfl _ _ rb _ _ (0, 0) _ rfl HBk.out Tryd.underlying118 rfl (by kernel_rfl)) rfl ⟨⟨_, rfl, ?_⟩, HU2.out⟩
      rw [HF.out, if_pos trivial, ← HL3.out]
      exact (HT2.out.mono (by omega)).lower (by rw [← HTB.out]; exact hB1)
end Go.Proofs.YtbielnehggcaoaaDoor
/-
  The versions of a part that are told, as the document tells them; by contract. (By the verifier; no statement.)
-/
namespace Go.Proofs.YtbielnehggcaoaaDoor
open Go.RowKit
def lenV : Value → Nat
  | .slice _ n _ => n
  | _ => 0
theorem end_pub {m part U : Int} {e : Ev} : (e.endB m part && (e.pub && decide (e.num = U))) = (endB m e && (e.pub && decide (e.p = part) && decide (e.num = U))) := by
  unfold Ev.endB endB
  cases hp : e.pub with
  | false => simp
  | true =>
    have hk : e.k ≠ 4 := fun h => by
      unfold Ev.pub at hp
      rw [h] at hp
      simp at hp
    by_cases h1 : e.p = part <;> by_cases h2 : e.e = 0 <;> cases e.good m <;> simp [hk, h1, h2]
theorem times_zero (m : Int) (D : List Ev) (p u : Int) : timesN m D 0 p u = 0 := rfl
theorem times_next {m part U : Int} {D : List Ev} {i : Nat} : timesN m D (i + 1) part U = timesN m D i part U + (if (eAt D i).endB m part && ((eAt D i).pub && decide ((eAt D i).num = U)) then 1 else 0) ∧ placeN m D (i + 1) part U = if (eAt D i).endB m part && ((eAt D i).pub && decide ((eAt D i).num = U)) then i else placeN m D i part U := by
  rw [end_pub]
  exact ⟨times_succ _ _ _ _ _, place_succ _ _ _ _ _⟩
/-- A row of one table. -/
theorem RowT.one {B : Nat} {w : World} {g : Nat} {a : Option Addr} {c : Nat} {l : List (Int × Int)} (hg : w.heap[g]? = some (.cells #[.slice a l.length c] 118 (0, 0))) (hB : B ≤ g) (hO : OW 67 2 encP B w (.slice a l.length c) l) (hl : l.length ≤ 1000000) : RowT B w (.slice (some ⟨g, 0, none⟩) 1 1) [layN l] := by
  refine ⟨[(a, l.length, c)], ⟨⟨rfl, .inr ⟨g, 1, #[.slice a l.length c], rfl, hB, hg, Nat.le_refl _, by decide, rfl, rfl⟩⟩⟩, rfl, fun j hj => ?_⟩
  have : j = 0 := by simp at hj; exact hj
  subst this
  exact ⟨l, hO, rfl, by omega⟩
set_option maxRecDepth 100000 in
set_option maxHeartbeats 12800000 in
theorem cTells {w : World} {hb m : Nat} {lv tv ov sv : Value} {D : List Ev} {part : Int} {l : List (Int × Int)} (hH : w.heap[hb]? = some (.cells #[.int .i64 m, lv, tv, ov] 90 (0, 0))) (hm : 1 ≤ m) (hE : EsAt w lv D) (hl2 : ∀ i, (eAt D i).ns.length ≤ 1000000000) (hM : ∀ i, (eAt D i).ps.length ≤ 3000) (hD : D.length ≤ 1024) (hS : VW encP w sv l) (hl : l.length ≤ 1000000) : Calls Tryd.prog 36 #[.pointer (some ⟨hb, 0, none⟩), sv, .int .i64 part] w fun r w' => (∃ v, r = .returned v ∧ RowT w.heap.size w' v (tblL m D part D.length 1 (layN l))) ∧ Turned [] w w' := by
  obtain ⟨la, lc, rfl, -⟩ := id hE.ex
  obtain ⟨sa, sc, rfl, -, -⟩ := id hS.ex
  have HF : Hid (∀ k, k < D.length → ∃ b o na nc pa pc, la = some ⟨b, o, none⟩ ∧ (∀ x, Turned [] w x → b < x.heap.size ∧ x.cell? ⟨b, o + k * 13, none⟩ = some (.int .i64 (eAt D k).wk) ∧ x.cell? ⟨b, o + k * 13 + 1, none⟩ = some (.int .i64 (eAt D k).b) ∧ x.cell? ⟨b, o + k * 13 + 2, none⟩ = some (.int .i64 (eAt D k).e) ∧ x.cell? ⟨b, o + k * 13 + 3, none⟩ = some (.int .i64 (eAt D k).k) ∧ x.cell? ⟨b, o + k * 13 + 4, none⟩ = some (.int .i64 (eAt D k).p) ∧ x.cell? ⟨b, o + k * 13 + 5, none⟩ = some (.int .i64 (eAt D k).key) ∧ x.cell? ⟨b, o + k * 13 + 6, none⟩ = some (.int .i64 (eAt D k).num) ∧ x.cell? ⟨b, o + k * 13 + 7, none⟩ = some (.bool (eAt D k).had) ∧ x.cell? ⟨b, o + k * 13 + 8, none⟩ = some (.int .i64 (eAt D k).val) ∧ x.cell? ⟨b, o + k * 13 + 9, none⟩ = some (.bool (eAt D k).has) ∧ x.cell? ⟨b, o + k * 13 + 10, none⟩ = some (.int .i64 (eAt D k).new) ∧ x.cell? ⟨b, o + k * 13 + 11, none⟩ = some (.slice na (eAt D k).ns.length nc) ∧ x.cell? ⟨b, o + k * 13 + 12, none⟩ = some (.slice pa (eAt D k).ps.length pc)) ∧ (∀ x, Turned [] w x → PW x (.slice pa (eAt D k).ps.length pc) (eAt D k).ps) ∧ (∀ x, Turned [] w x → Calls Tryd.prog 54 #[.pointer (some ⟨hb, 0, none⟩), .int .i64 k, .int .i64 part] x fun r w' => r = .returned (.bool ((eAt D k).endB m part)) ∧ Turned [] x w') ∧ (∀ x, Calls Tryd.prog 55 #[.agg (evA (eAt D k) (.slice na (eAt D k).ns.length nc) (.slice pa (eAt D k).ps.length pc))] x fun r w' => r = .returned (.bool (eAt D k).pub) ∧ Turned [] x w')) := fun k hk => by
    obtain ⟨b, o, c, e1, he⟩ := hE.get hk
    simp only [Value.slice.injEq] at e1
    obtain ⟨nv, n1, n2⟩ := he.c11
    obtain ⟨pv, q1, q2⟩ := he.c12
    obtain ⟨na, nc, rfl, -, -⟩ := id n2.ex
    obtain ⟨pa, pc, rfl, -⟩ := id q2.ex
    refine ⟨b, o, na, nc, pa, pc, e1.1, fun x hx => ?_, fun x hx => q2.still hx, fun x hx => cEnded (hx.heap hH (by simp)) hm (hE.still hx) hk (hl2 k), fun x => cWrites x⟩
    exact ⟨Nat.lt_of_lt_of_le he.lt hx.size, hx.cell he.c0 (by simp), hx.cell he.c1 (by simp), hx.cell he.c2 (by simp), hx.cell he.c3 (by simp), hx.cell he.c4 (by simp), hx.cell he.c5 (by simp), hx.cell he.c6 (by simp), hx.cell he.c7 (by simp), hx.cell he.c8 (by simp), hx.cell he.c9 (by simp), hx.cell he.c10 (by simp), hx.cell n1 (by simp), hx.cell q1 (by simp)⟩
  have HP : Hid (∀ y, Turned [] w y → hb < y.heap.size ∧ y.cell? ⟨hb, 1, none⟩ = some (.slice la D.length lc)) := fun y hy => by
    have h1 := hy.heap hH (by simp)
    exact ⟨lt_of_heap h1, by rw [cell_at h1]; rfl⟩
  have HS : Hid (VW encP w (.slice sa l.length sc) l) := hS
  have HMp : Hid (∀ i, (eAt D i).ps.length ≤ 3000) := hM
  have hby : (([] : List (Int × Int)).length + l.length) * 16 ≤ 140737488355328 := by
    simp only [List.length_nil]
    omega
  clear hE hH hS hM hl2
  go_enter Tryd.func36, Tryd.ntmps36
  go_wp2_with (at_builtin; refine wpList_apO elP enP (B := w.heap.size) (v := .slice none 0 0) (u := .slice sa l.length sc) (R := []) (M := l) rfl _ _ rfl rfl (OW.nil _ _ _ _ _) rfl HS.out hby (Nat.le_refl _) ?_; intro v1 w1 ho ht _; have HO1 : Hid (OW 67 2 encP w.heap.size w1 v1 l) := ho; have HT1 : Hid (Turned [] w w1) := ht; obtain ⟨a1, c1, rfl⟩ := HO1.out.slice; clear ho ht)
  have HR0 : Hid (RowT w.heap.size (w1.alloc (.cells #[.slice a1 l.length c1] 118 (0, 0))) (.slice (some ⟨w1.heap.size, 0, none⟩) 1 1) [layN l]) := RowT.one (blk_new _ _) HT1.out.size (HO1.out.still ((Turned.refl [] _).alloc _)) hl
  have HT0 : Hid (Turned [] w (w1.alloc (.cells #[.slice a1 l.length c1] 118 (0, 0)))) := HT1.out.alloc _
  clear HO1 HT1 hby HS
  generalize w1.alloc (.cells #[.slice a1 l.length c1] 118 (0, 0)) = x0 at HR0 HT0 ⊢
  go_loopw [7, 8, 9, 10, 11] (fun t _ _ _ _ wx => Bx (∃ (H : List Hold), Hid (TbX m D part (layN l) H.length H) ∧ Hid (RowT w.heap.size wx t H) ∧ Hid (Turned [] w wx))) (fun t _ _ _ _ _ => D.length + 2 - lenV t)
  case atStart => exact ⟨[layN l], TbX.start _ _ _ _, HR0, HT0⟩
  case round =>
    obtain ⟨H, HX, HR, HT⟩ := hrel.ex
    clear hrel HR0 HT0
    obtain ⟨wo, rfl⟩ : ∃ wo, wo = wr := ⟨_, rfl⟩
    obtain ⟨ra, rc, rfl⟩ := HR.out.slice
    have hHl : H.length ≤ D.length + 1 := HX.out.le
    have hH1 : 1 ≤ H.length := HX.out.one
    go_wp2
    go_loopw [8, 9, 10] (fun n a i wx => Bx (∃ j q : Nat, j ≤ D.length ∧ n = .int .i64 (timesN m D j part ((H.length : Int) + 1) : Nat) ∧ a = .int .i64 q ∧ i = .int .i64 j ∧ Hid (timesN m D j part ((H.length : Int) + 1) ≠ 0 → q = placeN m D j part ((H.length : Int) + 1)) ∧ Hid (Turned [] wo wx))) (fun _ _ i _ => D.length - (intOf i).toNat)
    case atStart => exact ⟨0, 0, Nat.zero_le _, rfl, rfl, rfl, fun h => absurd (times_zero _ _ _ _) h, Turned.refl _ _⟩
    case round =>
      obtain ⟨j, q, hj, rfl, rfl, rfl, HQ, HW⟩ := hrel.ex
      clear hrel
      have HWw : Hid (Turned [] w wr) := HT.out.trans HW.out
      obtain ⟨s1, s2⟩ := HP.out wr HWw.out
      by_cases hlt : j < D.length
      · obtain ⟨b, o, na, nc, pa, pc, rfl, hc, -, pe, pw⟩ := HF.out j hlt
        have HC : Hid _ := hc
        have PE : Hid _ := pe
        have PW : Hid _ := pw
        have htl := times_le m D j part ((H.length : Int) + 1)
        obtain ⟨tn1, tn2⟩ := @times_next m part ((H.length : Int) + 1) D j
        have HN : Hid _ := tn1
        have HN2 : Hid _ := tn2
        clear hc pe pw tn1 tn2
        generalize timesN m D j part ((H.length : Int) + 1) = t1 at *
        generalize placeN m D j part ((H.length : Int) + 1) = q1 at *
        generalize (eAt D j).endB m part = ce at *
        generalize (eAt D j).pub = pu at *
        generalize eAt D j = e at *
        obtain ⟨wk, eb, en, k, p, key, num, had, val, has, new, ns, ps⟩ := e
        dsimp only at *
        cases ce with
        | false =>
          have HE : Hid (timesN m D (j + 1) part ((H.length : Int) + 1) = t1 ∧ placeN m D (j + 1) part ((H.length : Int) + 1) = q1) := ⟨by rw [HN.out]; rfl, by rw [HN2.out]; rfl⟩
          clear HN HN2
          go_wp2_with (go_at_call 54; refine (PE.out _ HWw.out).mono ?_; rintro r z ⟨rfl, tz⟩; have HZ : Hid (Turned [] wo z) := HW.out.trans tz; clear tz)
          go_roundw
          case rel => exact ⟨j + 1, q, by omega, by rw [HE.out.1], rfl, by go_num, by rw [HE.out.1, HE.out.2]; exact HQ, HZ⟩
          case measure => simp [intOf]; omega
        | true =>
          cases pu with
          | false =>
            have HE : Hid (timesN m D (j + 1) part ((H.length : Int) + 1) = t1 ∧ placeN m D (j + 1) part ((H.length : Int) + 1) = q1) := ⟨by rw [HN.out]; rfl, by rw [HN2.out]; rfl⟩
            clear HN HN2
            go_wp2_with (first | (go_at_call 54; refine (PE.out _ HWw.out).mono ?_; rintro r z ⟨rfl, tz⟩; have HZ : Hid (Turned [] wo z) := HW.out.trans tz; clear tz; obtain ⟨g1, g2⟩ := HP.out z (HT.out.trans HZ.out); obtain ⟨zl, z0, z1, z2, z3, z4, z5, z6, z7, z8, z9, z10, z11, z12⟩ := HC.out z (HT.out.trans HZ.out)) | (go_at_call 55; refine (PW.out _).mono ?_; rintro r y ⟨rfl, ty⟩; have HY : Hid (Turned [] wo y) := HZ.out.trans ty; clear ty))
            go_roundw
            case rel => exact ⟨j + 1, q, by omega, by rw [HE.out.1], rfl, by go_num, by rw [HE.out.1, HE.out.2]; exact HQ, HY⟩
            case measure => simp [intOf]; omega
          | true =>
            by_cases hn : num = (H.length : Int) + 1
            · have x1 : (num == (H.length : Int) + 1) = true := by simpa using hn
              have HE : Hid (timesN m D (j + 1) part ((H.length : Int) + 1) = t1 + 1 ∧ placeN m D (j + 1) part ((H.length : Int) + 1) = j) := ⟨by rw [HN.out, decide_eq_true hn]; rfl, by rw [HN2.out, decide_eq_true hn]; rfl⟩
              clear HN HN2 hn
              go_wp2_with (first | (go_at_call 54; refine (PE.out _ HWw.out).mono ?_; rintro r z ⟨rfl, tz⟩; have HZ : Hid (Turned [] wo z) := HW.out.trans tz; clear tz; obtain ⟨g1, g2⟩ := HP.out z (HT.out.trans HZ.out); obtain ⟨zl, z0, z1, z2, z3, z4, z5, z6, z7, z8, z9, z10, z11, z12⟩ := HC.out z (HT.out.trans HZ.out)) | (go_at_call 55; refine (PW.out _).mono ?_; rintro r y ⟨rfl, ty⟩; have HY : Hid (Turned [] wo y) := HZ.out.trans ty; clear ty; obtain ⟨y1, y2⟩ := HP.out y (HT.out.trans HY.out); obtain ⟨yl, -, -, -, -, -, -, y6, -, -, -, -, -, -⟩ := HC.out y (HT.out.trans HY.out)))
              go_roundw
              case rel => exact ⟨j + 1, j, by omega, by rw [HE.out.1]; go_num, rfl, by go_num, fun _ => HE.out.2.symm, HY⟩
              case measure => simp [intOf]; omega
            · have x1 : (num == (H.length : Int) + 1) = false := by simpa using hn
              have HE : Hid (timesN m D (j + 1) part ((H.length : Int) + 1) = t1 ∧ placeN m D (j + 1) part ((H.length : Int) + 1) = q1) := ⟨by rw [HN.out, decide_eq_false hn]; rfl, by rw [HN2.out, decide_eq_false hn]; rfl⟩
              clear HN HN2 hn
              go_wp2_with (first | (go_at_call 54; refine (PE.out _ HWw.out).mono ?_; rintro r z ⟨rfl, tz⟩; have HZ : Hid (Turned [] wo z) := HW.out.trans tz; clear tz; obtain ⟨g1, g2⟩ := HP.out z (HT.out.trans HZ.out); obtain ⟨zl, z0, z1, z2, z3, z4, z5, z6, z7, z8, z9, z10, z11, z12⟩ := HC.out z (HT.out.trans HZ.out)) | (go_at_call 55; refine (PW.out _).mono ?_; rintro r y ⟨rfl, ty⟩; have HY : Hid (Turned [] wo y) := HZ.out.trans ty; clear ty; obtain ⟨y1, y2⟩ := HP.out y (HT.out.trans HY.out); obtain ⟨yl, -, -, -, -, -, -, y6, -, -, -, -, -, -⟩ := HC.out y (HT.out.trans HY.out)))
              go_roundw
              case rel => exact ⟨j + 1, q, by omega, by rw [HE.out.1], rfl, by go_num, by rw [HE.out.1, HE.out.2]; exact HQ, HY⟩
              case measure => simp [intOf]; omega
      · obtain rfl : j = D.length := by omega
        obtain ⟨wi, rfl⟩ : ∃ wi, wi = wr := ⟨_, rfl⟩
        by_cases ht : timesN m D D.length part ((H.length : Int) + 1) = 1
        · obtain ⟨hub, hxn⟩ := HX.out.next ht
          have HX2 : Hid _ := hxn
          have hq : q = placeN m D D.length part ((H.length : Int) + 1) := HQ.out (by omega)
          have hqlt : q < D.length := by rw [hq]; exact place_lt (by omega)
          rw [← hq] at hxn
          have HX3 : Hid (TbX m D part (layN l) (H.length + 1) (H ++ [(H.getD (H.length - 1) Hold.none).chg (eAt D q)])) := hxn
          obtain ⟨b, o, na, nc, pa, pc, rfl, hc, hp, -, -⟩ := HF.out q hqlt
          have hps := HMp.out q
          have HPp : Hid _ := hp
          obtain ⟨zl, z0, z1, z2, z3, z4, z5, z6, z7, z8, z9, z10, z11, z12⟩ := hc wi HWw.out
          obtain ⟨g1, g2⟩ := HP.out wi HWw.out
          obtain ⟨L, hO, hL, hTs⟩ := (HR.out.still HW.out).ex
          have HO : Hid (OW 118 1 encT w.heap.size wi (.slice ra H.length rc) L) := hO
          obtain ⟨rb, ro, rc2, sq, er, hrc, hTq⟩ := (HR.out.still HW.out).get (j := H.length - 1) (by omega)
          simp only [Value.slice.injEq] at er
          obtain ⟨rfl, -, rfl⟩ := er
          obtain ⟨qa, ql, qc⟩ := sq

          have PB : ∀ y, Turned [] wi y → Calls Tryd.prog 56 #[.agg #[.slice qa ql qc], .agg (evA (eAt D q) (.slice na (eAt D q).ns.length nc) (.slice pa (eAt D q).ps.length pc))] y fun r w' => (∃ v', r = .returned (.agg #[v']) ∧ TB w.heap.size w' v' ((H.getD (H.length - 1) Hold.none).chg (eAt D q)) (1000000 + H.length * 3001)) ∧ Turned [] y w' := fun y hy => by
            refine (cBehind (hTq.still hy) (HWw.out.trans hy).size (by omega) (HPp.out y (HWw.out.trans hy))).mono ?_
            rintro r w' ⟨⟨v', rfl, h1⟩, h2⟩
            exact ⟨⟨v', rfl, h1.mono (by omega)⟩, h2⟩
          have HPB : Hid _ := PB
          have HRc : Hid _ := hrc
          have HPu : Hid (∀ y q2 z v2, Turned [] wi y → TB w.heap.size y (slV q2) ((H.getD (H.length - 1) Hold.none).chg (eAt D q)) (1000000 + H.length * 3001) → Turned (Value.slice (some ⟨rb, ro, none⟩) H.length rc).ownBlock.toList y z → OW 118 1 encT w.heap.size z v2 (L ++ [q2]) → RowT w.heap.size z v2 (H ++ [(H.getD (H.length - 1) Hold.none).chg (eAt D q)])) := fun y q2 z v2 h1 h2 h3 h4 => RowT.push hO hL hTs h1 h2 (Nat.le_refl _) h3 h4
          have HLn : Hid (L.length = H.length) := hL
          have HBs : Hid (w.heap.size ≤ wi.heap.size) := HWw.out.size
          clear HQ hxn hq hc hp hO hTs hL hTq hrc PB HX HR
          generalize (H.getD (H.length - 1) Hold.none).chg (eAt D q) = f2 at *
          generalize eAt D q = e at *
          obtain ⟨wk, eb, en, k, p, key, num, had, val, has, new, ns, ps⟩ := e
          rw [ht]
          go_upto_region 12 with fail
          have hzz : (wi.alloc (.cells (evA ⟨wk, eb, en, k, p, key, num, had, val, has, new, ns, ps⟩ (.slice na ns.length nc) (.slice pa ps.length pc)) 52 (0, 0))).heap[wi.heap.size]? = some (.cells (evA ⟨wk, eb, en, k, p, key, num, had, val, has, new, ns, ps⟩ (.slice na ns.length nc) (.slice pa ps.length pc)) 52 (0, 0)) := blk_new _ _
          have htt : Turned [] wi (wi.alloc (.cells (evA ⟨wk, eb, en, k, p, key, num, had, val, has, new, ns, ps⟩ (.slice na ns.length nc) (.slice pa ps.length pc)) 52 (0, 0))) := (Turned.refl [] wi).alloc _
          clear zl z0 z1 z2 z3 z4 z5 z6 z7 z8 z9 z10 z11 z12 g1 g2
          generalize wi.alloc (.cells (evA ⟨wk, eb, en, k, p, key, num, had, val, has, new, ns, ps⟩ (.slice na ns.length nc) (.slice pa ps.length pc)) 52 (0, 0)) = y0 at hzz htt ⊢
          generalize wi.heap.size = eb2 at hzz ⊢
          have HTy : Hid (Turned [] wi y0) := htt
          have HBy : Hid (w.heap.size ≤ y0.heap.size) := Nat.le_trans HBs.out htt.size
          obtain ⟨r1, r2⟩ := HRc.out y0 htt
          replace r2 : y0.cell? ⟨rb, ro + (H.length - 1), none⟩ = some (.slice qa ql qc) := r2
          have zl := lt_of_heap hzz
          have z0 : y0.cell? ⟨eb2, 0, none⟩ = some (.int .i64 wk) := by rw [cell_at hzz]; rfl
          have z1 : y0.cell? ⟨eb2, 1, none⟩ = some (.int .i64 eb) := by rw [cell_at hzz]; rfl
          have z2 : y0.cell? ⟨eb2, 2, none⟩ = some (.int .i64 en) := by rw [cell_at hzz]; rfl
          have z3 : y0.cell? ⟨eb2, 3, none⟩ = some (.int .i64 k) := by rw [cell_at hzz]; rfl
          have z4 : y0.cell? ⟨eb2, 4, none⟩ = some (.int .i64 p) := by rw [cell_at hzz]; rfl
          have z5 : y0.cell? ⟨eb2, 5, none⟩ = some (.int .i64 key) := by rw [cell_at hzz]; rfl
          have z6 : y0.cell? ⟨eb2, 6, none⟩ = some (.int .i64 num) := by rw [cell_at hzz]; rfl
          have z7 : y0.cell? ⟨eb2, 7, none⟩ = some (.bool had) := by rw [cell_at hzz]; rfl
          have z8 : y0.cell? ⟨eb2, 8, none⟩ = some (.int .i64 val) := by rw [cell_at hzz]; rfl
          have z9 : y0.cell? ⟨eb2, 9, none⟩ = some (.bool has) := by rw [cell_at hzz]; rfl
          have z10 : y0.cell? ⟨eb2, 10, none⟩ = some (.int .i64 new) := by rw [cell_at hzz]; rfl
          have z11 : y0.cell? ⟨eb2, 11, none⟩ = some (.slice na ns.length nc) := by rw [cell_at hzz]; rfl
          have z12 : y0.cell? ⟨eb2, 12, none⟩ = some (.slice pa ps.length pc) := by rw [cell_at hzz]; rfl
          have d0 : ((H.length : Int) - 1) = ((H.length - 1 : Nat) : Int) := by omega
          have d1 : IntKind.i64.wrap ((H.length - 1 : Nat) : Int) = ((H.length - 1 : Nat) : Int) := by
            simp [IntKind.wrap, IntKind.bits, IntKind.signed]
            omega
          have d2 : ((H.length - 1 : Nat) : Int) < (H.length : Int) := by omega
          have d3 : 0 ≤ ((H.length - 1 : Nat) : Int) := by omega
          have hbyL : (L.length + 1) * 24 ≤ 140737488355328 := by
            have := HLn.out
            omega
          have HOne : Hid (∀ (q : SV) (i : Nat) (u : Value), ([q].flatMap encT)[i]? = some u → (#[slV q] : Array Value)[i]? = some u) := fun q i u hu => by simpa using hu
          have HX4 : Hid (TbX m D part (layN l) (H ++ [f2]).length (H ++ [f2])) := by rw [Hid, List.length_append]; exact HX3.out
          clear hzz htt
          go_wp2
          go_region_law (first | (go_simp; go_at_call 56; refine (HPB.out _ ?_).mono ?_; (focus (repeat first | exact HTy.out | exact Turned.refl _ _ | refine Turned.drew ?_ | refine Turned.alloc ?_ _)); rintro r z ⟨⟨v', rfl, hT⟩, tz⟩; obtain ⟨sa2, sl2, sc2, rfl⟩ := hT.sl; have HTn : Hid _ := hT; have HZ : Hid (Turned [] wi z) := Turned.trans (l := []) (by (repeat first | exact HTy.out | exact Turned.refl _ _ | refine Turned.drew ?_ | refine Turned.alloc ?_ _)) tz; clear hT tz; try go_wp2_with fail) | (refine step_apO elTb enT (B := w.heap.size) (v := .slice (some ⟨rb, ro, none⟩) H.length rc) (u := .slice (some ⟨z.heap.size, 0, none⟩) 1 1) (R := L) (M := [(sa2, sl2, sc2)]) rfl _ _ rfl ?_ (HO.out.still ?_) ?_ (VW.block (R := [(sa2, sl2, sc2)]) (c := 1) (blk_new _ _) (HOne.out (sa2, sl2, sc2))) hbyL ?_ ?_; (focus (simp [Act.eval]; done)); (focus (repeat first | exact HZ.out | exact HTy.out | exact Turned.refl _ _ | refine Turned.drew ?_ | refine Turned.alloc ?_ _)); (focus (simp [Act.eval]; done)); (focus (refine Nat.le_trans HBs.out ?_; refine Turned.size (l := []) ?_; (repeat first | exact HZ.out | exact HTy.out | exact Turned.refl _ _ | refine Turned.drew ?_ | refine Turned.alloc ?_ _))); intro v2 w2 ho ht _; have HR3 : Hid (RowT w.heap.size w2 v2 (H ++ [f2])) := HPu.out _ (sa2, sl2, sc2) _ _ (by (repeat first | exact HZ.out | exact HTy.out | exact Turned.refl _ _ | refine Turned.drew ?_ | refine Turned.alloc ?_ _)) (HTn.out.still (by (repeat first | exact Turned.refl _ _ | refine Turned.drew ?_ | refine Turned.alloc ?_ _))) ht ho; have HT9 : Hid (Turned [] w w2) := Turned.inner (l := []) (HWw.out.trans (by (repeat first | exact HZ.out | exact HTy.out | exact Turned.refl _ _ | refine Turned.drew ?_ | refine Turned.alloc ?_ _))) ht (fun g hg => .inr (HO.out.fresh (by simpa using hg)).1); obtain ⟨g2, c2, rfl⟩ := ho.somes; clear ho ht))
          all_goals
            go_wp2
            simp only [Act.put, List.setIfInBounds_toArray, List.set_cons_zero, List.set_cons_succ, List.getElem_toArray, List.getElem_cons_succ, List.getElem_cons_zero]
            go_roundw
            case rel => exact ⟨H ++ [f2], HX4, HR3, HT9⟩
            case measure => simp [lenV]; have := HLn.out; omega
        · have x1 : (((timesN m D D.length part ((H.length : Int) + 1) : Nat) : Int) != 1) = true := by
            simp only [bne_iff_ne, ne_eq]
            omega
          have HD : Hid (tblL m D part D.length 1 (layN l) = H) := HX.out.done ht
          have HR2 : Hid (RowT w.heap.size wi (.slice ra H.length rc) H) := HR.out.still HW.out
          clear HQ ht
          generalize timesN m D D.length part ((H.length : Int) + 1) = t1 at *
          go_wp2
          go_ret
          exact ⟨⟨_, rfl, by rw [HD.out]; exact HR2.out⟩, HWw.out⟩
end Go.Proofs.YtbielnehggcaoaaDoor

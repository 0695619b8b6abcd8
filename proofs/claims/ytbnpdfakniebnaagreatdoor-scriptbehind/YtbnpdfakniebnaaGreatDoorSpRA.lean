/-
  The reader's last row grows by a call: add by contract. (By the verifier; no statement.)
-/
import Derived.Test.YtbnpdfakniebnaaGreatDoorSpRS
namespace Go.Proofs.YtbnpdfakniebnaaGreatDoor
open Go.RowKit
theorem set_at {cs : Array Value} {i j : Nat} {v : Value} (hj : i < cs.size) : (cs.setIfInBounds i v)[j]? = if i = j then some v else cs[j]? := by
  rw [Array.getElem?_setIfInBounds]
  simp [hj]
theorem OW.setc {α : Type} {T : TypeId} {k : Nat} {enc : α → List Value} {B : Nat} {w : World} {R : List α} {g c : Nat} (N : En k enc) (h : OW T k enc B w (.slice (some ⟨g, 0, none⟩) R.length c) R) {i j : Nat} (hi : i < R.length) (hj : j < k) {r : α} {u : Value} (he : enc r = (enc R[i]).set j u) : OW T k enc B (w.setCell ⟨g, i * k + j, none⟩ u) (.slice (some ⟨g, 0, none⟩) R.length c) (R.set i r) := by
  rcases h.own.2 with ⟨e, _⟩ | ⟨g', c', cs, e, hb, hg, h3, h4, h5, h6⟩
  · cases e
  simp only [Value.slice.injEq, Option.some.injEq, Addr.mk.injEq] at e
  obtain ⟨⟨rfl, -, -⟩, -, rfl⟩ := e
  have hle : (i + 1) * k ≤ R.length * k := Nat.mul_le_mul_right k hi
  rw [Nat.add_mul, Nat.one_mul] at hle
  have hcs : R.length * k ≤ cs.size := by rw [h5]; exact Nat.mul_le_mul_right k h3
  refine ⟨by rw [rowO_len N], .inr ⟨g, c, _, by rw [List.length_set], hb, blk_set hg (i * k + j) u, by rw [List.length_set]; exact h3, h4, by simpa using h5, ?_⟩⟩
  rw [List.length_set]
  apply List.ext_getElem?
  intro q
  by_cases hq : q < R.length * k
  · have hk0 : 0 < k := by omega
    obtain ⟨a, s, rfl, hs, ha⟩ : ∃ a s, q = a * k + s ∧ s < k ∧ a < R.length := ⟨q / k, q % k, by rw [Nat.mul_comm]; exact (Nat.div_add_mod q k).symm, Nat.mod_lt _ hk0, Nat.div_lt_of_lt_mul (by rw [Nat.mul_comm]; exact hq)⟩
    have hold : cs[a * k + s]? = (enc R[a])[s]? := by
      rw [← rowO_at N R ha hs, ← h6, List.getElem?_take_of_lt hq, Array.getElem?_toList]
    rw [List.getElem?_take_of_lt hq, Array.getElem?_toList, set_at (by omega), rowO_at N _ (by rw [List.length_set]; exact ha) hs, List.getElem_set]
    by_cases e : i = a
    · subst e
      rw [if_pos rfl, he]
      by_cases e2 : j = s
      · subst e2
        rw [if_pos rfl, List.getElem?_set_self (by rw [N.len]; exact hj)]
      · rw [if_neg (by omega), List.getElem?_set_ne e2]
        exact hold
    · rw [if_neg e, if_neg]
      · exact hold
      · intro e2
        rcases Nat.lt_or_gt_of_ne e with h7 | h7
        · have h8 := Nat.mul_le_mul_right k (show i + 1 ≤ a from h7)
          rw [Nat.add_mul, Nat.one_mul] at h8
          omega
        · have h8 := Nat.mul_le_mul_right k (show a + 1 ≤ i from h7)
          rw [Nat.add_mul, Nat.one_mul] at h8
          omega
  · rw [List.getElem?_take_eq_none (by omega), List.getElem?_eq_none (by rw [rowO_len N, List.length_set]; omega)]
theorem RP.add {B : Nat} {w w' : World} {m : RM} {S : List (Int × Int)} {T H : List Int} {W : List (List Cl)} {D : List Cl} {c : Cl} {p u : SlV} {I : List (SlV × List (Cl × SlV))} {q : SlV × List (Cl × SlV)} {g gc : Nat} (h : RP B w m S T H W D) (hI : m.rows = I ++ [q])
    (hp : OW 157 2 encP B w p.v c.ps) (hp0 : c.ps = [] → p.v = .slice none 0 0) (hpn : ∀ x ∈ ownL p.v, x ∉ ownL m.vs ++ m.calls.flatMap fun q => ownL q.2.v)
    (ho : OW 79 5 encC B w' u.v (q.2 ++ [(c, p)])) (ht : Turned (ownL q.1.v) w w') (hv : u.v.ownBlock = q.1.v.ownBlock ∨ u.v.ownBlock = some w.heap.size) (hvw : m.vw = .slice (some ⟨g, 0, none⟩) (I.length + 1) gc) :
    RP B (w'.setCell ⟨g, I.length, none⟩ u.v) { m with rows := I ++ [(u, q.2 ++ [(c, p)])] } S T H (W.dropLast ++ [(W.getLast?).getD [] ++ [c]]) D := by
  have hq := h.rws q (by rw [hI]; simp)
  have hT : ∀ b ∈ ownL q.1.v, ∃ cs, w.heap[b]? = some (.cells cs 79 (0, 0)) := hq.typed
  have hc : ({ m with rows := I ++ [(u, q.2 ++ [(c, p)])] } : RM).calls = m.calls ++ [(c, p)] := by
    simp [RM.calls, hI]
  have hnC : (ownL q.1.v ++ (ownL m.vb ++ I.flatMap fun p => ownL p.1.v)).Nodup := by
    have := h.nC
    rw [hI, List.flatMap_append, ← List.append_assoc] at this
    simpa using (List.perm_append_comm.nodup_iff).1 this
  -- at the world behind the append
  have hw1 := h.wrk.off ht fun b hb => by obtain ⟨cs, h1⟩ := hT b hb; exact ⟨cs, _, h1, by decide⟩
  obtain ⟨wc, hwc⟩ : ∃ cs, w'.heap[g]? = some (.cells cs 77 (0, 0)) := hw1.type (by rw [hvw]; rfl)
  have ht2 : Turned [g] w' (w'.setCell ⟨g, I.length, none⟩ u.v) := (Turned.refl _ _).set (by simp) _ _
  have hG : ∀ b ∈ [g], ∃ cs, w'.heap[b]? = some (.cells cs 77 (0, 0)) := fun b hb => by rw [List.mem_singleton.1 hb]; exact ⟨wc, hwc⟩
  have go1 : ∀ {α : Type} {T : TypeId} {k : Nat} {enc : α → List Value} {v : Value} {R : List α}, OW T k enc B w' v R → T ≠ 77 → OW T k enc B (w'.setCell ⟨g, I.length, none⟩ u.v) v R := fun h1 hne => h1.off ht2 fun b hb => by obtain ⟨cs, h2⟩ := hG b hb; exact ⟨cs, _, h2, hne.symm⟩
  have go0 : ∀ {α : Type} {T : TypeId} {k : Nat} {enc : α → List Value} {v : Value} {R : List α}, OW T k enc B w v R → T ≠ 79 → T ≠ 77 → OW T k enc B (w'.setCell ⟨g, I.length, none⟩ u.v) v R := fun h1 hne hne2 => go1 (h1.off ht fun b hb => by obtain ⟨cs, h2⟩ := hT b hb; exact ⟨cs, _, h2, hne.symm⟩) hne2
  have hl : (m.rows.map (·.1)).length = I.length + 1 := by rw [hI]; simp
  refine ⟨go0 h.src (by decide) (by decide), go0 h.trn (by decide) (by decide), go0 h.hlt (by decide) (by decide), ?_, fun x hx => ?_, go1 (h.bdy.away ht fun x hx => nd_off hnC (by simp [hx])) (by decide), fun x hx => ?_, ?_, h.eqb, h.nI, ?_, ?_⟩
  · have h2 := hw1
    rw [hvw, ← hl] at h2
    have h3 := OW.setc enS h2 (i := I.length) (j := 0) (by omega) (by decide) (r := u) (u := u.v) rfl
    rw [Nat.mul_one, Nat.add_zero] at h3
    show OW _ _ _ _ _ m.vw _
    rw [hvw, ← hl]
    have e : (m.rows.map (·.1)).set I.length u = (I ++ [(u, q.2 ++ [(c, p)])]).map (·.1) := by
      rw [hI]; simp
    rw [← e]
    exact h3
  · rw [List.mem_append, List.mem_singleton] at hx
    rcases hx with hx | rfl
    · exact go1 ((h.rws x (by rw [hI]; simp [hx])).away ht fun y hy => nd_off hnC (List.mem_append_right _ (List.mem_flatMap.2 ⟨x, hx, hy⟩))) (by decide)
    · exact go1 ho (by decide)
  · rw [hc, List.mem_append, List.mem_singleton] at hx
    rcases hx with hx | rfl
    · exact ⟨go0 (h.prs x hx).1 (by decide) (by decide), (h.prs x hx).2⟩
    · exact ⟨go0 hp (by decide) (by decide), hp0⟩
  · rw [h.eqw, hI]
    simp
  · show (ownL m.vb ++ (I ++ [(u, q.2 ++ [(c, p)])]).flatMap fun p => ownL p.1.v).Nodup
    rw [List.flatMap_append, ← List.append_assoc]
    refine (List.perm_append_comm.nodup_iff).1 ?_
    rw [show (([(u, q.2 ++ [(c, p)])] : List (SlV × List (Cl × SlV))).flatMap fun p => ownL p.1.v) = ownL u.v by simp]
    refine nd_new hnC (fun x hx => ?_) hv
    rw [List.mem_append] at hx
    rcases hx with hx | hx
    · exact h.bdy.own_lt x hx
    · exact h.rows_lt x (by rw [hI, List.flatMap_append]; simp [hx])
  · rw [hc, List.flatMap_append, ← List.append_assoc, List.nodup_append]
    refine ⟨h.nP, ?_, fun x hx y hy e => ?_⟩
    · show ([(c, p)].flatMap fun q => ownL q.2.v).Nodup
      rw [show ([(c, p)].flatMap fun q : Cl × SlV => ownL q.2.v) = ownL p.v by simp]
      unfold ownL
      cases p.v.ownBlock <;> simp
    · rw [show ([(c, p)].flatMap fun q : Cl × SlV => ownL q.2.v) = ownL p.v by simp] at hy
      exact hpn y hy (e ▸ hx)
theorem RX.add {W0 w w' : World} {rb lb : Nat} {f : Bs} {cs : Array Value} {G : RG} {s : Ln} {c : Cl} {p u : SlV} {I : List (SlV × List (Cl × SlV))} {q : SlV × List (Cl × SlV)} {g gc : Nat} (h : RX W0 w rb lb f cs G s) (hI : G.m.rows = I ++ [q])
    (hp : OW 157 2 encP W0.heap.size w p.v c.ps) (hp0 : c.ps = [] → p.v = .slice none 0 0) (hpn : ∀ x ∈ ownL p.v, x ∉ ownL G.m.vs ++ G.m.calls.flatMap fun q => ownL q.2.v)
    (ho : OW 79 5 encC W0.heap.size w' u.v (q.2 ++ [(c, p)])) (ht : Turned (ownL q.1.v) w w') (hv : u.v.ownBlock = q.1.v.ownBlock ∨ u.v.ownBlock = some w.heap.size) (hvw : G.m.vw = .slice (some ⟨g, 0, none⟩) (I.length + 1) gc) :
    RX W0 (w'.setCell ⟨g, I.length, none⟩ u.v) rb lb f cs { G with m := { G.m with rows := I ++ [(u, q.2 ++ [(c, p)])] }, W := G.W.dropLast ++ [(G.W.getLast?).getD [] ++ [c]] } s := by
  have hr := h.rp.add hI hp hp0 hpn ho ht hv hvw
  have hq := h.rp.rws q (by rw [hI]; simp)
  obtain ⟨wc, hwc⟩ : ∃ cs, w.heap[g]? = some (.cells cs 77 (0, 0)) := h.rp.wrk.type (by rw [hvw]; rfl)
  have hgB : W0.heap.size ≤ g := (h.rp.wrk.fresh (g := g) (by rw [hvw]; rfl)).1
  refine h.rows (X := ownL q.1.v ++ [g]) ?_ (fun b hb => ?_) hr
  · exact ((ht.mono (m := ownL q.1.v ++ [g]) (fun x hx => List.mem_append_left _ hx)).set (by simp) _ _)
  · rw [List.mem_append, List.mem_singleton] at hb
    rcases hb with hb | rfl
    · exact hq.rowX (by decide) b hb
    · exact ⟨hgB, wc, _, hwc, by decide, by decide, by decide⟩
set_option maxRecDepth 100000 in
set_option maxHeartbeats 6400000 in
theorem cAdd {W0 w : World} {rb lb : Nat} {f : Bs} {r : RS} {m : RM} {mb : Nat} {s : Ln} {c : Cl} {p : SlV} (h : RL W0 w rb lb f r m mb s) (hne : r.work ≠ []) (h8 : r.work.length ≤ 8) (hcl : r.callsN ≤ 1000)
    (hp : OW 157 2 encP W0.heap.size w p.v c.ps) (hp0 : c.ps = [] → p.v = .slice none 0 0) (hpn : ∀ x ∈ ownL p.v, x ∉ ownL m.vs ++ m.calls.flatMap fun q => ownL q.2.v) :
    Calls Tryz.prog 218 #[LP rb, clV c p.v] w fun x w' => x = .returned (.tuple #[]) ∧ ∃ rows', RL W0 w' rb lb f (r.add c) { m with rows := rows' } mb s := by
  obtain ⟨I, q, g, gc, h1, h2, h3, h4, h5, h6, wcs, h7⟩ := h.rp.last hne
  have hE : Hid (r.work.dropLast ++ [(r.work.getLast?).getD [] ++ [c]] = (r.add c).work) := rfl
  have hI8 : I.length + 1 ≤ 8 := by
    rw [show r.work = _ from h2] at h8
    simpa using h8
  have hby : (q.2.length + [(c, p)].length) * 56 ≤ 140737488355328 := by
    rw [RS.callsN, show r.work = _ from h2] at hcl
    simp at hcl
    simp
    omega
  have HX0 : Hid _ := h
  have HX : Hid (RX W0 (w.alloc (.cells #[.int .i64 c.k, .int .i64 c.a, .int .i64 c.b, .int .i64 c.c, p.v] 79)) rb lb f (rdCells r m mb) (r.rg m mb) s) := h.still ((Turned.refl [] _).alloc _)
  have HXp : Hid (OW 157 2 encP W0.heap.size (w.alloc (.cells #[.int .i64 c.k, .int .i64 c.a, .int .i64 c.b, .int .i64 c.c, p.v] 79)) p.v c.ps) := hp.still ((Turned.refl [] _).alloc _)
  have HP0 : Hid _ := hp0
  have HPN : Hid _ := hpn
  have HI : Hid _ := h1
  have HVW : Hid (m.vw = _) := h3
  have hb0 := blk_new w (.cells #[.int .i64 c.k, .int .i64 c.a, .int .i64 c.b, .int .i64 c.c, p.v] 79)
  have hg0 := blk_old h7 (.cells #[.int .i64 c.k, .int .i64 c.a, .int .i64 c.b, .int .i64 c.c, p.v] 79)
  have hwn : wcs[I.length]? = some q.1.v := by rw [← cell_at h7]; exact h5
  rw [SlV.v, h6] at hwn
  have h5' := (cell_at hg0 I.length).trans hwn
  have hg4 := lt_of_heap hg0
  obtain ⟨p0, p1, p2⟩ := HX.out.at 6 m.vw rfl
  rw [show m.vw = _ from h3] at p1
  have HG : Hid _ := hg0
  have HWN : Hid _ := hwn
  have H6 : Hid (q.1.v = .slice q.1.a q.2.length q.1.c) := by rw [Hid, SlV.v, h6]
  have HOne : Hid (∀ (i : Nat) (u : Value), ([(c, p)].flatMap encC)[i]? = some u → (#[Value.int .i64 c.k, .int .i64 c.a, .int .i64 c.b, .int .i64 c.c, p.v] : Array Value)[i]? = some u) := fun i u hu => by simpa [encC] using hu
  have bl := lt_of_heap hb0
  have b0 := (cell_at hb0 0).trans (show _ = some (Value.int .i64 c.k) from rfl)
  have b1 := (cell_at hb0 1).trans (show _ = some (Value.int .i64 c.a) from rfl)
  have b2 := (cell_at hb0 2).trans (show _ = some (Value.int .i64 c.b) from rfl)
  have b3 := (cell_at hb0 3).trans (show _ = some (Value.int .i64 c.c) from rfl)
  have b4 := (cell_at hb0 4).trans (show _ = some p.v from rfl)
  clear h h1 h2 h3 h4 h5 h6 h7 hne h8 hcl hp hp0 hpn hb0 hg0 hwn
  have e1 : ((I.length + 1 : Nat) : Int) = (I.length : Int) + 1 := by omega
  have e2 : IntKind.i64.wrap (I.length : Int) = (I.length : Int) := by rw [IntKind.wrap_i64]; omega
  go_enter Tryz.func218, Tryz.ntmps218
  go_wp2
  generalize w.alloc (.cells #[.int .i64 c.k, .int .i64 c.a, .int .i64 c.b, .int .i64 c.c, p.v] 79) = X at *
  generalize w.heap.size = bb at *
  have hlt1 : (I.length : Int) < (I.length : Int) + 1 := by omega
  have HF : Hid (∀ (y w2 : World), Turned [] X y → Turned (Value.slice q.1.a q.2.length q.1.c).ownBlock.toList y w2 → g < w2.heap.size ∧ w2.cell? ⟨g, I.length, none⟩ = some (.slice q.1.a q.2.length q.1.c) ∧ w2.frozen? ⟨g, I.length, none⟩ = false) := fun y w2 hy h2 => by
    have hq := (HX.out.rp.rws q (by show q ∈ m.rows; rw [HI.out]; simp)).still hy
    have hgy := hy.heap HG.out (by simp)
    have hn : g ∉ (Value.slice q.1.a q.2.length q.1.c).ownBlock.toList := fun hm => by
      rw [← H6.out] at hm
      obtain ⟨cs, h3⟩ := hq.typed g hm
      exact tyne h3 hgy (by decide) rfl
    have hg2 := h2.heap hgy hn
    exact ⟨lt_of_heap hg2, (cell_at hg2 _).trans HWN.out, froz_at hg2 _⟩
  clear e1 e2
  go_region_law (first | (refine step_apO elC enC (B := W0.heap.size) (v := .slice q.1.a q.2.length q.1.c) (u := .slice (some ⟨X.heap.size, 0, none⟩) 1 1) (R := q.2) (M := [(c, p)]) rfl _ _ rfl ?_ (H6.out ▸ (HX.out.rp.rws q (by rw [HI.out]; simp)).still ?_) ?_ (VW.block (R := [(c, p)]) (c := 1) (blk_new _ _) HOne.out) hby ?_ ?_; (focus (simp [Act.eval]; done)); (focus (repeat first | exact Turned.refl _ _ | refine Turned.drew ?_ | refine Turned.alloc ?_ _)); (focus (simp [Act.eval]; done)); (focus (exact (HX.out.still (by (repeat first | exact Turned.refl _ _ | refine Turned.drew ?_ | refine Turned.alloc ?_ _))).tu.size)); intro v2 w2 ho ht hv; obtain ⟨g2, c2, rfl⟩ := ho.slice; have HY : Hid (RX W0 (w2.setCell ⟨g, I.length, none⟩ (SlV.v ⟨g2, (q.2 ++ [(c, p)]).length, c2⟩)) rb lb f (rdCells r m mb) _ s) := (HX.out.still (by (repeat first | exact Turned.refl _ _ | refine Turned.drew ?_ | refine Turned.alloc ?_ _))).add HI.out (HXp.out.still (by (repeat first | exact Turned.refl _ _ | refine Turned.drew ?_ | refine Turned.alloc ?_ _))) HP0.out HPN.out (u := ⟨g2, (q.2 ++ [(c, p)]).length, c2⟩) ho (H6.out ▸ ht) (H6.out ▸ hv) HVW.out; obtain ⟨z0, z1, z2⟩ := HF.out _ w2 (by (repeat first | exact Turned.refl _ _ | refine Turned.drew ?_ | refine Turned.alloc ?_ _)) ht; clear ho ht hv))
  all_goals
    refine bodyPost_end (results_none rfl _ _ _) rfl ?_
    have hq := HY.out
    rw [List.length_append] at hq
    exact ⟨rfl, I ++ [(({ a := g2, n := q.2.length + [(c, p)].length, c := c2 } : SlV), q.2 ++ [(c, p)])], hq⟩
end Go.Proofs.YtbnpdfakniebnaaGreatDoor

/-
  JudgeLong: the last read's value is changed, and changed back. (By the verifier; no statement.)
-/
import Derived.Test.YtbielnehggcaoaaDoorL36
/-
  JudgeLong: one read's value changed. (By the verifier; no statement.)
-/
namespace Go.Proofs.YtbielnehggcaoaaDoor
open Go.RowKit
def setVal (D : List Ev) (i : Nat) (v : Int) : List Ev := D.set i { eAt D i with val := v }
theorem setVal_len (D : List Ev) (i : Nat) (v : Int) : (setVal D i v).length = D.length := by unfold setVal; rw [List.length_set]
theorem setVal_ne {D : List Ev} {i j : Nat} {v : Int} (h : j ≠ i) : eAt (setVal D i v) j = eAt D j := by
  unfold setVal eAt
  rw [List.getD_eq_getElem?_getD, List.getElem?_set_ne (fun e => h e.symm), ← List.getD_eq_getElem?_getD]
theorem setVal_eq {D : List Ev} {i : Nat} {v : Int} (h : i < D.length) : eAt (setVal D i v) i = { eAt D i with val := v } := by
  unfold setVal
  conv => lhs; unfold eAt
  rw [List.getD_eq_getElem?_getD, List.getElem?_set_self h]
  rfl
/-- What turns on kinds, parts, keys, contents alone is the same. -/
theorem setVal_fil {D : List Ev} {i : Nat} {v : Int} (p : Int) (h : i < D.length) (hp : pubP p (eAt D i) = false) : ∀ n, ((setVal D i v).take n).filter (pubP p) = (D.take n).filter (pubP p) := by
  intro n
  have key : ∀ (l : List Ev) (i : Nat) (x y : Ev), l[i]? = some x → pubP p x = false → pubP p y = false → (l.set i y).filter (pubP p) = l.filter (pubP p) := by
    intro l
    induction l with
    | nil => intro i x y h; simp at h
    | cons a l ih =>
      intro i x y h1 h2 h3
      cases i with
      | zero =>
        simp only [List.getElem?_cons_zero, Option.some.injEq] at h1
        subst h1
        rw [List.set_cons_zero, List.filter_cons_of_neg (by simp [h3]), List.filter_cons_of_neg (by simp [h2])]
      | succ i =>
        rw [List.set_cons_succ, List.filter_cons, List.filter_cons, ih i x y (by simpa using h1) h2 h3]
  have hq : pubP p { eAt D i with val := v } = false := hp
  unfold setVal
  rw [List.take_set]
  by_cases hin : i < n
  · refine key _ i (eAt D i) _ ?_ hp hq
    rw [List.getElem?_take_of_lt hin, List.getElem?_eq_getElem h, eAt_of (List.getElem?_eq_getElem h)]
  · rw [List.set_eq_of_length_le (by rw [List.length_take]; omega)]
theorem nu_fil (D : List Ev) (p : Int) : nuL D p = 1 + (D.filter (pubP p)).length := rfl
theorem ho_fil (f : Hold) (D : List Ev) (p : Int) : hoL f D p = (D.filter (pubP p)).foldl Hold.chg f := by
  unfold hoL
  induction D generalizing f with
  | nil => rfl
  | cons e D ih =>
    rw [List.foldl_cons, ih]
    cases hb : pubP p e with
    | true => rw [List.filter_cons_of_pos hb]; rfl
    | false => rw [List.filter_cons_of_neg (by simp [hb])]; rfl
theorem SM.setVal {S : List (List (Int × Int))} {D : List Ev} (h : SM S D) {i : Nat} (hi : i < D.length) (hk : (eAt D i).k = 1 ∨ (eAt D i).k = 3) {v : Int} (hv : v ≠ (eAt D i).val) : (allBm S (setVal D i v)).Perm [((i : Int), -1, 4)] := by
  have hnp : ∀ p, pubP p (eAt D i) = false := fun p => pub_not (by omega) (by omega)
  have hnu : ∀ n p, nuL ((Go.Proofs.YtbielnehggcaoaaDoor.setVal D i v).take n) p = nuL (D.take n) p := fun n p => by rw [nu_fil, nu_fil, setVal_fil p hi (hnp p)]
  have hho : ∀ f n p, hoL f ((Go.Proofs.YtbielnehggcaoaaDoor.setVal D i v).take n) p = hoL f (D.take n) p := fun f n p => by rw [ho_fil, ho_fil, setVal_fil p hi (hnp p)]
  have hsto : Sto S (Go.Proofs.YtbielnehggcaoaaDoor.setVal D i v) := by
    refine ⟨by rw [setVal_len]; exact h.sto.len, fun j hj => ?_⟩
    rw [setVal_len] at hj
    have ht := h.sto.t j hj
    have hb : ∀ e : Ev, e.b = (eAt D j).b → e.e = (eAt D j).e → e.k = (eAt D j).k → e.p = (eAt D j).p → e.num = (eAt D j).num → e.ns = (eAt D j).ns → EvT S ((Go.Proofs.YtbielnehggcaoaaDoor.setVal D i v).take j) j e := fun e h1 h2 h3 h4 h5 h6 => by
      refine ⟨by rw [h1, h2]; exact ht.b, ?_⟩
      rw [h3, h4, h5, h6]
      rcases ht.kind with ⟨q1, q2, q3⟩ | ⟨q1, q2, q3, q4⟩ | ⟨q1, q2, q3, q4⟩
      · exact .inl ⟨q1, q2, by rw [q3]; exact List.map_congr_left fun p _ => by rw [hnu]⟩
      · exact .inr (.inl ⟨q1, q2, q3, by rw [hnu]; exact q4⟩)
      · exact .inr (.inr ⟨q1, q2, q3, by rw [hnu]; exact q4⟩)
    by_cases e : j = i
    · subst e
      rw [setVal_eq hi]
      exact hb _ rfl rfl rfl rfl rfl rfl
    · rw [setVal_ne e]
      exact hb _ rfl rfl rfl rfl rfl rfl
  refine hsto.one (q := i) (by rw [setVal_len]; exact hi) (fun j hj hne => ?_) (by rw [setVal_eq hi]; show (eAt D i).k ≠ 4; omega) ?_
  · rw [setVal_len] at hj
    rw [setVal_ne hne]
    have hv2 := h.v j hj
    exact ⟨fun hq => by rw [hho]; exact hv2.had hq, fun hq => by rw [hho]; exact hv2.val hq⟩
  · rw [setVal_eq hi, hho]
    have hv2 := (h.v i hi).val (by omega)
    show v ≠ (hoL (firstH S (eAt D i).p) (D.take i) (eAt D i).p (eAt D i).key).getD 0
    rw [← hv2]
    exact hv
end Go.Proofs.YtbielnehggcaoaaDoor
/-
  JudgeLong: a read's value is written. (By the verifier; no statement.)
-/
namespace Go.Proofs.YtbielnehggcaoaaDoor
open Go.RowKit
theorem OW.setc {α : Type} {T : TypeId} {k : Nat} {enc : α → List Value} {B : Nat} {w : World} {R : List α} {g c : Nat} (N : En k enc) (h : OW T k enc B w (.slice (some ⟨g, 0, none⟩) R.length c) R) {i j : Nat} (hi : i < R.length) (hj : j < k) {r : α} {u : Value} (he : enc r = (enc R[i]).set j u) : OW T k enc B (w.setCell ⟨g, i * k + j, none⟩ u) (.slice (some ⟨g, 0, none⟩) R.length c) (R.set i r) := by
  rcases h.own.2 with ⟨e, _⟩ | ⟨g', c', cs, e, hb, hg, h3, h4, h5, h6⟩
  · cases e
  simp only [Value.slice.injEq, Option.some.injEq, Addr.mk.injEq] at e
  obtain ⟨⟨rfl, -, -⟩, -, rfl⟩ := e
  have hle : (i + 1) * k ≤ R.length * k := Nat.mul_le_mul_right k hi
  rw [Nat.add_mul, Nat.one_mul] at hle
  have hcs : R.length * k ≤ cs.size := by rw [h5]; exact Nat.mul_le_mul_right k h3
  refine ⟨by rw [rowO_len N], .inr ⟨g, c, _, by rw [List.length_set], hb, blk_set hg (i * k + j) u, by rw [List.length_set]; exact h3, h4, by simpa using h5, ?_⟩⟩
  rw [List.length_set]
  apply List.ext_getElem?
  intro q
  by_cases hq : q < R.length * k
  · have hk0 : 0 < k := by omega
    obtain ⟨a, s, rfl, hs, ha⟩ : ∃ a s, q = a * k + s ∧ s < k ∧ a < R.length := ⟨q / k, q % k, by rw [Nat.mul_comm]; exact (Nat.div_add_mod q k).symm, Nat.mod_lt _ hk0, Nat.div_lt_of_lt_mul (by rw [Nat.mul_comm]; exact hq)⟩
    have hold : cs[a * k + s]? = (enc R[a])[s]? := by
      rw [← rowO_at N R ha hs, ← h6, List.getElem?_take_of_lt hq, Array.getElem?_toList]
    rw [List.getElem?_take_of_lt hq, Array.getElem?_toList, set_at (by omega), rowO_at N _ (by rw [List.length_set]; exact ha) hs, List.getElem_set]
    by_cases e : i = a
    · subst e
      rw [if_pos rfl, he]
      by_cases e2 : j = s
      · subst e2
        rw [if_pos rfl, List.getElem?_set_self (by rw [N.len]; exact hj)]
      · rw [if_neg (by omega), List.getElem?_set_ne e2]
        exact hold
    · rw [if_neg e, if_neg]
      · exact hold
      · intro e2
        rcases Nat.lt_or_gt_of_ne e with h7 | h7
        · have h8 := Nat.mul_le_mul_right k (show i + 1 ≤ a from h7)
          rw [Nat.add_mul, Nat.one_mul] at h8
          omega
        · have h8 := Nat.mul_le_mul_right k (show a + 1 ≤ i from h7)
          rw [Nat.add_mul, Nat.one_mul] at h8
          omega
  · rw [List.getElem?_take_eq_none (by omega), List.getElem?_eq_none (by rw [rowO_len N, List.length_set]; omega)]
theorem setVal_back {D : List Ev} {i : Nat} {v : Int} (hi : i < D.length) : setVal (setVal D i v) i (eAt D i).val = D := by
  have e1 : eAt (setVal D i v) i = { eAt D i with val := v } := setVal_eq hi
  unfold setVal at e1 ⊢
  rw [e1, List.set_set]
  have e2 : ({ ({ eAt D i with val := v } : Ev) with val := (eAt D i).val } : Ev) = D[i] := by
    rw [← eAt_of (List.getElem?_eq_getElem hi)]
  rw [e2]
  exact List.set_getElem_self hi
/-- A value is written over. -/
theorem FN.setv {B sb stb p : Nat} {x : World} {lv : Value} {D : List Ev} (h : FN B x sb stb p lv D) {i : Nat} (hi : i < D.length) : ∃ b c, lv = .slice (some ⟨b, 0, none⟩) D.length c ∧ b < x.heap.size ∧ B ≤ b ∧ x.cell? ⟨b, i * 13 + 8, none⟩ = some (.int .i64 (eAt D i).val) ∧ x.cell? ⟨b, i * 13 + 3, none⟩ = some (.int .i64 (eAt D i).k) ∧ x.frozen? ⟨b, i * 13 + 8, none⟩ = false ∧ ∀ v, FN B (x.setCell ⟨b, i * 13 + 8, none⟩ (.int .i64 v)) sb stb p lv (setVal D i v) := by
  obtain ⟨L, hv, hL, hh⟩ := h.cp.ex
  obtain ⟨sa, sq, e1, e2, e3⟩ := hh i hi
  have hne : L ≠ [] := fun e => by rw [e] at hL; simp at hL; omega
  obtain ⟨b, c, rfl⟩ := hv.at_ hne
  obtain ⟨cs, hcs⟩ := hv.type (g := b) rfl
  have hiL : i < L.length := by omega
  have hLi : L[i] = (eAt D i, sa, sq) := (List.getElem?_eq_some_iff.1 e1).2
  obtain ⟨b2, o2, c2, ev, -, hc⟩ := hv.view.get enX (by decide) hiL
  simp only [Value.slice.injEq, Option.some.injEq, Addr.mk.injEq] at ev
  obtain ⟨⟨rfl, rfl, -⟩, -, -⟩ := ev
  rw [hLi] at hc
  have k8 := hc 8 _ rfl
  have k3 := hc 3 _ rfl
  rw [Nat.zero_add] at k8 k3
  refine ⟨b, c, by rw [hL], lt_of_heap hcs, (hv.fresh (g := b) rfl).1, k8, k3, froz_at hcs _, fun v => ?_⟩
  have ht : Turned [b] x (x.setCell ⟨b, i * 13 + 8, none⟩ (.int .i64 v)) := (Turned.refl [b] x).set (.inl (by simp)) _ _
  have off : ∀ {g : Nat} {cs' : Array Value} {T : TypeId}, x.heap[g]? = some (.cells cs' T (0, 0)) → T ≠ 52 → g ∉ [b] := fun hg hT => by simpa using tyne hg hcs hT
  have ow : ∀ {T : TypeId} {k : Nat} {α : Type} {enc : α → List Value} {v' : Value} {R : List α}, OW T k enc B x v' R → T ≠ 52 → OW T k enc B (x.setCell ⟨b, i * 13 + 8, none⟩ (.int .i64 v)) v' R := fun h1 hT => h1.keep ht fun g hg => by
    obtain ⟨cs1, e4⟩ := h1.type hg
    exact off e4 hT
  obtain ⟨c0, c1, hst⟩ := h.st
  obtain ⟨ds, d1, d2⟩ := h.sa.ex
  refine ⟨⟨c0, c1, ht.heap hst (off hst (by decide))⟩, ?_, ⟨ds, ht.heap d1 (off d1 (by decide)), fun q hq => by obtain ⟨g, e4, e5⟩ := d2 q hq; exact ⟨g, e4, ht.heap e5 (off e5 (by decide))⟩⟩⟩
  have hnew := hv.setc enX hiL (j := 8) (by decide) (r := ({ eAt D i with val := v }, sa, sq)) (u := .int .i64 v) (by rw [hLi]; rfl)
  refine ⟨_, hnew, by rw [List.length_set, setVal_len, hL], fun q hq => ?_⟩
  rw [setVal_len] at hq
  by_cases e : q = i
  · subst e
    rw [setVal_eq hi]
    exact ⟨sa, sq, by rw [List.getElem?_set_self hiL], ow e2 (by decide), ow e3 (by decide)⟩
  · obtain ⟨sa2, sq2, f1, f2, f3⟩ := hh q hq
    rw [setVal_ne e]
    exact ⟨sa2, sq2, by rw [List.getElem?_set_ne (fun e4 => e e4.symm)]; exact f1, ow f2 (by decide), ow f3 (by decide)⟩
end Go.Proofs.YtbielnehggcaoaaDoor
namespace Go.Proofs.YtbielnehggcaoaaDoor
open Go.RowKit
theorem bw_one {x : World} {g : Nat} {a b c : Int} (h : x.heap[g]? = some (.cells #[.int .i64 a, .int .i64 b, .int .i64 c] 55 (0, 0))) : BW x (.slice (some ⟨g, 0, none⟩) 1 1) [(a, b, c)] := by
  refine ⟨_, _, rfl, fun i hi => ⟨g, 0, rfl, ?_⟩⟩
  simp only [List.length_cons, List.length_nil] at hi
  obtain rfl : i = 0 := by omega
  exact ⟨by rw [cell_at h]; rfl, by rw [cell_at h]; rfl, by rw [cell_at h]; rfl⟩
theorem setVal_ps {D : List Ev} {i : Nat} {v : Int} (h : ∀ j, (eAt D j).ps = []) (hi : i < D.length) (j : Nat) : (eAt (setVal D i v) j).ps = [] := by
  by_cases e : j = i
  · subst e
    rw [setVal_eq hi]
    exact h j
  · rw [setVal_ne e]
    exact h j
set_option maxRecDepth 100000 in
set_option maxHeartbeats 12800000 in
theorem jl_mid {W x : World} {B sb stb p : Nat} {lv : Value} {D : List Ev} {a0 : Act} (hs : a0.tmps.size = 236) (hd : a0.defers = []) (x7 : a0.eval (.tmp 7) = .int .i64 (D.length : Nat)) (x10 : a0.eval (.tmp 10) = .pointer (some ⟨sb, 0, none⟩)) (x11 : a0.eval (.tmp 11) = .slice (some ⟨stb, 0, none⟩) p p) (hF : FN B x sb stb p lv D) (hS : SM (startS p) D) (hn : D.length < 900) (hp : 1 ≤ p ∧ p ≤ 4) (hW : Turned [] W x) (hB : W.heap.size ≤ B) : (atc Tryd.f7.body [1, 1, 1, 1, 1, 1, 1, 1, 1]).wp Tryd.prog (bodyPost Tryd.prog Tryd.f7 fun r w' => r = .returned (.bool true) ∧ Turned [] W w') a0 x := by
  obtain ⟨cc, hcc, hce⟩ := expand236 hs hd
  have q7 := (hce 7).trans x7
  have q10 := (hce 10).trans x10
  have q11 := (hce 11).trans x11
  have HF : Hid _ := hF
  have HS : Hid _ := hS
  have HW : Hid _ := hW
  have HB : Hid _ := hB
  clear hce hs hd x7 x10 x11 hF hS hW hB
  subst hcc
  conv => arg 2; whnf
  unfold lit236
  simp only [q7, q10, q11]
  clear q7 q10 q11
  refine wp_seq_k fun K hK => ?_
  have HK : Hid _ := hK
  clear hK
  have hw : IntKind.i64.wrap ((D.length : Int) - 1) = (D.length : Int) - 1 := wr64 (by omega) (by omega)
  go_wp2
  go_loopw [14, 15, 16] (fun _ _ i wx => Bx (∃ k : Nat, k ≤ D.length ∧ i = .int .i64 ((k : Int) - 1) ∧ Hid (Turned [] x wx))) (fun _ _ i _ => (intOf i + 1).toNat)
  case atStart => exact ⟨D.length, Nat.le_refl _, rfl, Turned.refl _ _⟩
  case round =>
    obtain ⟨k, hk, rfl, HT⟩ := hrel.ex
    clear hrel hw
    by_cases hk0 : k = 0
    · subst hk0
      go_wp2
      refine HK.out _ _ ?_
      show Code.wp Tryd.prog (atc Tryd.f7.body [1, 1, 1, 1, 1, 1, 1, 1, 1, 1]) _ _ _
      exact jl_end rfl rfl rfl rfl rfl (HF.out.still HT.out) HS.out hn hp (HW.out.trans HT.out)
    · obtain ⟨j, rfl⟩ : ∃ j, k = j + 1 := ⟨k - 1, by omega⟩
      have hjD : j < D.length := by omega
      rw [show ((j + 1 : Nat) : Int) - 1 = (j : Int) by omega]
      have HFr : Hid _ := HF.out.still HT.out
      obtain ⟨z1, z2⟩ := HFr.out.cell
      obtain ⟨b, c, rfl, hb, hBb, c8, c3, f8, hset⟩ := HFr.out.setv hjD
      have HSet : Hid _ := hset
      obtain ⟨g1, g2, g3⟩ := in_i64 hjD (by omega)
      have dge : decide ((0 : Int) ≤ (j : Int)) = true := decide_eq_true (by omega)
      have hwj : IntKind.i64.wrap ((j : Int) - 1) = (j : Int) - 1 := wr64 (by omega) (by omega)
      clear hset hk0
      have HKd : Hid (∃ q, (eAt D j).k = q) := ⟨_, rfl⟩
      by_cases hkk : (eAt D j).k = 1 ∨ (eAt D j).k = 3
      · obtain ⟨hv0, hv1⟩ := HS.out.vb j hjD (by omega)
        have HPm : Hid ((allBm (startS p) (setVal D j ((eAt D j).val + 1))).Perm [((j : Int), -1, 4)]) := HS.out.setVal hjD hkk (by omega)
        have HBk : Hid (setVal (setVal D j ((eAt D j).val + 1)) j (eAt D j).val = D) := setVal_back hjD
        generalize (eAt D j).val = vv at c8 HPm HBk hv0 hv1
        have hw1 : IntKind.i64.wrap (vv + 1) = vv + 1 := wr64 (by omega) (by omega)
        have hw2 : IntKind.i64.wrap (vv + 1 - 1) = vv := by rw [show vv + 1 - 1 = vv by omega]; exact wr64 (by omega) (by omega)
        by_cases h1 : (eAt D j).k = 1
        · rw [h1] at c3
          clear h1 hkk
          go_upto_region 23 with fail
          have HF2 : Hid _ := HSet.out (vv + 1)
          have HTb : Hid (Turned [] W (wr.setCell ⟨b, j * 13 + 8, none⟩ (.int .i64 (vv + 1)))) := (HW.out.trans HT.out).set (.inr (Nat.le_trans HB.out hBb)) _ _
          generalize wr.setCell ⟨b, j * 13 + 8, none⟩ (.int .i64 (vv + 1)) = y at HF2 HTb ⊢
          clear z1 z2 hb c8 c3 f8 HSet HFr dge hwj hw1
          obtain ⟨z1, z2⟩ := HF2.out.cell
          have hss := HF2.out.sa.ss
          rw [startS_len] at hss
          have HSs : Hid _ := hss
          have HEs : Hid (EsAt y (.slice (some ⟨b, 0, none⟩) D.length c) (setVal D j (vv + 1))) := HF2.out.cp.es (by rw [setVal_len]; omega) (fun i => by rw [setVal_ps HS.out.pn hjD i]; simp)
          clear hss
          go_wp2_with (fail)
          refine (cVersions HEs.out HSs.out (by rw [startS_len]; omega)).mono ?_
          intro r z hv
          rcases hv.ans with ⟨m1, -⟩ | ⟨-, v, R, rfl, pR, sR, bR⟩
          · rw [startS_len, setVal_len] at m1
            unfold manyB at m1
            simp only [Bool.or_eq_true, decide_eq_true_eq] at m1
            omega
          obtain rfl := List.perm_singleton.1 (pR.trans HPm.out)
          obtain ⟨va, vc, rfl⟩ : ∃ va vc, v = .slice va 1 vc := by
            rcases bR.form with ⟨_, e⟩ | ⟨g, c, rfl⟩
            · cases e
            · exact ⟨_, c, rfl⟩
          have HBr : Hid _ := bR
          have HF3 : Hid _ := HF2.out.still hv.tu
          have HTz : Hid (Turned [] W z) := HTb.out.trans hv.tu
          clear hv pR sR bR z1 z2 HEs HSs HF2 HTb HPm
          obtain ⟨z1, z2⟩ := HF3.out.cell
          obtain ⟨b2, c2, e2, hb2, hBb2, c8, c3, f8, hset⟩ := HF3.out.setv (i := j) (by rw [setVal_len]; exact hjD)
          rw [setVal_len] at e2
          simp only [Value.slice.injEq, Option.some.injEq, Addr.mk.injEq] at e2
          obtain ⟨⟨rfl, -, -⟩, -, rfl⟩ := e2
          rw [setVal_eq hjD] at c8
          dsimp only at c8
          have HSet2 : Hid (FN B (z.setCell ⟨b, j * 13 + 8, none⟩ (.int .i64 vv)) sb stb p (.slice (some ⟨b, 0, none⟩) D.length c) D) := by
            have h := hset vv
            rw [HBk.out] at h
            exact h
          have HTq : Hid (Turned [] W (z.setCell ⟨b, j * 13 + 8, none⟩ (.int .i64 vv))) := HTz.out.set (.inr (Nat.le_trans HB.out hBb2)) _ _
          have HBw : Hid (BW (z.setCell ⟨b, j * 13 + 8, none⟩ (.int .i64 vv)) (.slice va 1 vc) [((j : Int), -1, 4)]) := (HBr.out.keep ((Turned.refl [b] z).set (.inl (by simp)) _ _) (fun g hg hm => by
            obtain ⟨cs1, t1⟩ := HBr.out.type hg
            obtain ⟨L, hv2, hL2, -⟩ := HF3.out.cp.ex
            obtain ⟨cs2, t2⟩ := hv2.type (g := b) rfl
            rw [List.mem_singleton.1 hm] at t1
            exact tyne t1 t2 (by decide) rfl)).view
          clear hset c3
          go_upto_region 25 with fail
          generalize z.setCell ⟨b, j * 13 + 8, none⟩ (.int .i64 vv) = y3 at HSet2 HTq HBw ⊢
          clear z1 z2 hb2 c8 f8 HF3 HBr HTz hw2
          go_wp2_with (fail)
          refine (cSameB (HBw.out.still ((Turned.refl [] y3).alloc _)) (bw_one (blk_new _ _)) (by simp)).mono ?_
          rintro r z4 ⟨rfl, nq, rfl⟩
          rw [decide_eq_true rfl]
          go_wp2
          refine HK.out _ _ ?_
          show Code.wp Tryd.prog (atc Tryd.f7.body [1, 1, 1, 1, 1, 1, 1, 1, 1, 1]) _ _ _
          exact jl_end rfl rfl rfl rfl rfl (HSet2.out.still (((Turned.refl [] y3).alloc _).drewN nq)) HS.out hn hp ((HTq.out.alloc _).drewN nq)
        · have h3 : (eAt D j).k = 3 := by omega
          rw [h3] at c3
          clear h1 hkk h3
          go_upto_region 23 with fail
          have HF2 : Hid _ := HSet.out (vv + 1)
          have HTb : Hid (Turned [] W (wr.setCell ⟨b, j * 13 + 8, none⟩ (.int .i64 (vv + 1)))) := (HW.out.trans HT.out).set (.inr (Nat.le_trans HB.out hBb)) _ _
          generalize wr.setCell ⟨b, j * 13 + 8, none⟩ (.int .i64 (vv + 1)) = y at HF2 HTb ⊢
          clear z1 z2 hb c8 c3 f8 HSet HFr dge hwj hw1
          obtain ⟨z1, z2⟩ := HF2.out.cell
          have hss := HF2.out.sa.ss
          rw [startS_len] at hss
          have HSs : Hid _ := hss
          have HEs : Hid (EsAt y (.slice (some ⟨b, 0, none⟩) D.length c) (setVal D j (vv + 1))) := HF2.out.cp.es (by rw [setVal_len]; omega) (fun i => by rw [setVal_ps HS.out.pn hjD i]; simp)
          clear hss
          go_wp2_with (fail)
          refine (cVersions HEs.out HSs.out (by rw [startS_len]; omega)).mono ?_
          intro r z hv
          rcases hv.ans with ⟨m1, -⟩ | ⟨-, v, R, rfl, pR, sR, bR⟩
          · rw [startS_len, setVal_len] at m1
            unfold manyB at m1
            simp only [Bool.or_eq_true, decide_eq_true_eq] at m1
            omega
          obtain rfl := List.perm_singleton.1 (pR.trans HPm.out)
          obtain ⟨va, vc, rfl⟩ : ∃ va vc, v = .slice va 1 vc := by
            rcases bR.form with ⟨_, e⟩ | ⟨g, c, rfl⟩
            · cases e
            · exact ⟨_, c, rfl⟩
          have HBr : Hid _ := bR
          have HF3 : Hid _ := HF2.out.still hv.tu
          have HTz : Hid (Turned [] W z) := HTb.out.trans hv.tu
          clear hv pR sR bR z1 z2 HEs HSs HF2 HTb HPm
          obtain ⟨z1, z2⟩ := HF3.out.cell
          obtain ⟨b2, c2, e2, hb2, hBb2, c8, c3, f8, hset⟩ := HF3.out.setv (i := j) (by rw [setVal_len]; exact hjD)
          rw [setVal_len] at e2
          simp only [Value.slice.injEq, Option.some.injEq, Addr.mk.injEq] at e2
          obtain ⟨⟨rfl, -, -⟩, -, rfl⟩ := e2
          rw [setVal_eq hjD] at c8
          dsimp only at c8
          have HSet2 : Hid (FN B (z.setCell ⟨b, j * 13 + 8, none⟩ (.int .i64 vv)) sb stb p (.slice (some ⟨b, 0, none⟩) D.length c) D) := by
            have h := hset vv
            rw [HBk.out] at h
            exact h
          have HTq : Hid (Turned [] W (z.setCell ⟨b, j * 13 + 8, none⟩ (.int .i64 vv))) := HTz.out.set (.inr (Nat.le_trans HB.out hBb2)) _ _
          have HBw : Hid (BW (z.setCell ⟨b, j * 13 + 8, none⟩ (.int .i64 vv)) (.slice va 1 vc) [((j : Int), -1, 4)]) := (HBr.out.keep ((Turned.refl [b] z).set (.inl (by simp)) _ _) (fun g hg hm => by
            obtain ⟨cs1, t1⟩ := HBr.out.type hg
            obtain ⟨L, hv2, hL2, -⟩ := HF3.out.cp.ex
            obtain ⟨cs2, t2⟩ := hv2.type (g := b) rfl
            rw [List.mem_singleton.1 hm] at t1
            exact tyne t1 t2 (by decide) rfl)).view
          clear hset c3
          go_upto_region 25 with fail
          generalize z.setCell ⟨b, j * 13 + 8, none⟩ (.int .i64 vv) = y3 at HSet2 HTq HBw ⊢
          clear z1 z2 hb2 c8 f8 HF3 HBr HTz hw2
          go_wp2_with (fail)
          refine (cSameB (HBw.out.still ((Turned.refl [] y3).alloc _)) (bw_one (blk_new _ _)) (by simp)).mono ?_
          rintro r z4 ⟨rfl, nq, rfl⟩
          rw [decide_eq_true rfl]
          go_wp2
          refine HK.out _ _ ?_
          show Code.wp Tryd.prog (atc Tryd.f7.body [1, 1, 1, 1, 1, 1, 1, 1, 1, 1]) _ _ _
          exact jl_end rfl rfl rfl rfl rfl (HSet2.out.still (((Turned.refl [] y3).alloc _).drewN nq)) HS.out hn hp ((HTq.out.alloc _).drewN nq)
      · have d1 : ((eAt D j).k == 1) = false := by simp; omega
        have d3 : ((eAt D j).k == 3) = false := by simp; omega
        generalize (eAt D j).k = kk at c3 d1 d3
        generalize (eAt D j).val = vv at c8
        clear hkk HSet HFr
        go_wp2
        go_roundw
        case rel => exact ⟨j, by omega, by go_num, HT⟩
        case measure => simp [intOf]
end Go.Proofs.YtbielnehggcaoaaDoor

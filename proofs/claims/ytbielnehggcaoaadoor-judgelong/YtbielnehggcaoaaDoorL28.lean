/-
  A version without a key, as the document makes it; by contract. (By the verifier; no statement.)
-/
import Derived.Test.YtbielnehggcaoaaDoorL27
import Derived.Test.YtbielnehggcaoaaDoorL23
namespace Go.Proofs.YtbielnehggcaoaaDoor
open Go.RowKit
def noKey (key : Int) (l : List (Int × Int)) : List (Int × Int) := l.filter fun p => decide (p.1 ≠ key)
/-- A list of pairs in the making, in a cell of its own. -/
structure MkP (w : World) (ob : Nat) (T : TypeId) (R : List (Int × Int)) (x : World) : Prop where
  tu : Turned [] w x
  le : w.heap.size ≤ ob
  ex : ∃ v, x.heap[ob]? = some (.cells #[v] T (0, 0)) ∧ OW 67 2 encP w.heap.size x v R
theorem MkP.still {w x y : World} {ob : Nat} {T : TypeId} {R : List (Int × Int)} (h : MkP w ob T R x) (ht : Turned [] x y) : MkP w ob T R y := by
  obtain ⟨v, h1, h2⟩ := h.ex
  exact ⟨h.tu.trans ht, h.le, v, ht.heap h1 (by simp), h2.still ht⟩
/-- One more pair: what the append and the store leave. -/
theorem MkP.push {w x y z : World} {ob : Nat} {T : TypeId} {R : List (Int × Int)} {q : Int × Int} {v v2 : Value} (hT : T ≠ 67) (h : MkP w ob T R x) (hv : x.heap[ob]? = some (.cells #[v] T (0, 0))) (hxy : Turned [] x y) (hO : OW 67 2 encP w.heap.size y v R) (ht : Turned v.ownBlock.toList y z) (ho : OW 67 2 encP w.heap.size z v2 (R ++ [q])) : ob < z.heap.size ∧ z.cell? ⟨ob, 0, none⟩ = some v ∧ z.frozen? ⟨ob, 0, none⟩ = false ∧ MkP w ob T (R ++ [q]) (z.setCell ⟨ob, 0, none⟩ v2) := by
  have h1 := hxy.heap hv (by simp)
  have hne : ob ∉ v.ownBlock.toList := fun hm => by
    simp only [Option.mem_toList] at hm
    obtain ⟨cs, h2⟩ := hO.type hm
    exact tyne h1 h2 hT rfl
  have h3 := ht.heap h1 hne
  refine ⟨lt_of_heap h3, by rw [cell_at h3]; rfl, froz_at h3 0, ?_, h.le, v2, ?_, ?_⟩
  · exact ((h.tu.trans hxy).inner ht (fun g hg => .inr (by simp only [Option.mem_toList] at hg; exact (hO.fresh hg).1))).set (.inr h.le) _ _
  · have := blk_set h3 0 v2
    simpa using this
  · refine ho.keep ((Turned.refl [ob] z).set (by simp) _ _) fun g hg hm => ?_
    obtain ⟨cs, h4⟩ := ho.type hg
    rw [List.mem_singleton.1 hm] at h4
    exact tyne h3 h4 hT rfl
end Go.Proofs.YtbielnehggcaoaaDoor
/-
  A version without a key, as the document makes it; by contract: its walk. (By the verifier; no statement.)
-/
namespace Go.Proofs.YtbielnehggcaoaaDoor
open Go.RowKit
theorem noKey_take {key : Int} {l : List (Int × Int)} {k : Nat} (h : k < l.length) : noKey key (l.take (k + 1)) = noKey key (l.take k) ++ (if l[k].1 = key then [] else [l[k]]) := by
  unfold noKey
  rw [List.take_add_one, List.getElem?_eq_getElem h, Option.toList_some, List.filter_append]
  congr 1
  by_cases e : l[k].1 = key <;> simp [e]
/-- The two other cells of the function stay. -/
structure Wo (w : World) (sb rb ob : Nat) (sv : Value) (R : List (Int × Int)) (x : World) : Prop where
  mp : MkP w ob 118 R x
  s : x.heap[sb]? = some (.cells #[sv] 118 (0, 0))
  r : x.heap[rb]? = some (.cells #[.slice none 0 0] 118 (0, 0))
  ne : sb ≠ ob ∧ rb ≠ ob ∧ w.heap.size ≤ rb
theorem Wo.still {w x y : World} {sb rb ob : Nat} {sv : Value} {R : List (Int × Int)} (h : Wo w sb rb ob sv R x) (ht : Turned [] x y) : Wo w sb rb ob sv R y := ⟨h.mp.still ht, ht.heap h.s (by simp), ht.heap h.r (by simp), h.ne⟩
theorem Wo.push {w x y z : World} {sb rb ob : Nat} {sv : Value} {R : List (Int × Int)} {q : Int × Int} {v v2 : Value} (h : Wo w sb rb ob sv R x) (hv : x.heap[ob]? = some (.cells #[v] 118 (0, 0))) (hxy : Turned [] x y) (hO : OW 67 2 encP w.heap.size y v R) (ht : Turned v.ownBlock.toList y z) (ho : OW 67 2 encP w.heap.size z v2 (R ++ [q])) : ob < z.heap.size ∧ z.cell? ⟨ob, 0, none⟩ = some v ∧ z.frozen? ⟨ob, 0, none⟩ = false ∧ Wo w sb rb ob sv (R ++ [q]) (z.setCell ⟨ob, 0, none⟩ v2) := by
  obtain ⟨p1, p2, p3, p4⟩ := h.mp.push (by decide) hv hxy hO ht ho
  have hk : ∀ b cs, b ≠ ob → x.heap[b]? = some (.cells cs 118 (0, 0)) → (z.setCell ⟨ob, 0, none⟩ v2).heap[b]? = some (.cells cs 118 (0, 0)) := fun b cs hb hx => by
    have h1 := hxy.heap hx (by simp)
    have h2 := ht.heap h1 (fun hm => by
      simp only [Option.mem_toList] at hm
      obtain ⟨cs', h3⟩ := hO.type hm
      exact tyne h1 h3 (by decide) rfl)
    exact ((Turned.refl [ob] z).set (by simp) _ _).heap h2 (by simpa using hb)
  exact ⟨p1, p2, p3, p4, hk sb _ h.ne.1 h.s, hk rb _ h.ne.2.1 h.r, h.ne⟩
set_option maxRecDepth 100000 in
set_option maxHeartbeats 6400000 in
theorem cWithout {w : World} {a : Option Addr} {c : Nat} {l : List (Int × Int)} {key : Int} (hV : VW encP w (.slice a l.length c) l) (hn : l.length ≤ 1000000000) : Calls Tryd.prog 72 #[.agg #[.slice a l.length c], .int .i64 key] w fun r w' => (∃ v, r = .returned (.agg #[v]) ∧ OW 67 2 encP w.heap.size w' v (noKey key l)) ∧ Turned [] w w' := by
  have HV : Hid (∀ k, k < l.length → ∃ b o, a = some ⟨b, o, none⟩ ∧ ∀ y, Turned [] w y → b < y.heap.size ∧ y.cell? ⟨b, o + k * 2, none⟩ = some (.int .i64 (l.getD k (0, 0)).1) ∧ y.cell? ⟨b, o + k * 2 + 1, none⟩ = some (.int .i64 (l.getD k (0, 0)).2)) := fun k hk => by
    obtain ⟨b, o, c', e, hb, hc⟩ := hV.get enP (by decide) hk
    simp only [Value.slice.injEq] at e
    have e2 : l.getD k (0, 0) = l[k] := by simp [hk]
    rw [e2]
    refine ⟨b, o, e.1, fun y hy => ?_⟩
    have c0 := hy.cell (hc 0 _ rfl) (by simp)
    have c1 := hy.cell (hc 1 _ rfl) (by simp)
    exact ⟨World.block_lt_of_cell? _ _ c0, c0, by rw [Nat.add_assoc]; exact c1⟩
  have HT : Hid (∀ k, k < l.length → noKey key (l.take (k + 1)) = noKey key (l.take k) ++ (if (l.getD k (0, 0)).1 = key then [] else [((l.getD k (0, 0)).1, (l.getD k (0, 0)).2)])) := fun k hk => by
    rw [noKey_take hk]
    simp [hk]
  have HLn : Hid (∀ k, (noKey key (l.take k)).length ≤ 1000000000) := fun k => Nat.le_trans (List.length_filter_le _ _) (by rw [List.length_take]; omega)
  have HL : Hid (noKey key (l.take l.length) = noKey key l) := by rw [Hid, List.take_length]
  clear hV
  go_enter Tryd.func72, Tryd.ntmps72
  go_wp2
  have HW : Hid (Wo w w.heap.size (w.heap.size + 1) (w.heap.size + 1 + 1) (.slice a l.length c) [] (((w.alloc (.cells #[.slice a l.length c] 118 (0, 0))).alloc (.cells #[.slice none 0 0] 118 (0, 0))).alloc (.cells #[.slice none 0 0] 118 (0, 0)))) := ⟨⟨(((Turned.refl [] w).alloc _).alloc _).alloc _, by omega, _, blk32 _ _ _ _, OW.nil _ _ _ _ _⟩, blk30 _ _ _ _, blk31 _ _ _ _, by omega, by omega, by omega⟩
  generalize ((w.alloc (.cells #[.slice a l.length c] 118 (0, 0))).alloc (.cells #[.slice none 0 0] 118 (0, 0))).alloc (.cells #[.slice none 0 0] 118 (0, 0)) = x0 at HW ⊢
  generalize w.heap.size + 1 + 1 = ob at HW ⊢
  generalize w.heap.size + 1 = rb at HW ⊢
  generalize hsb : w.heap.size = sb at HW ⊢
  have HSb : Hid (w.heap.size = sb) := hsb
  clear hsb
  go_loopw [6] (fun i wx => Bx (∃ k : Nat, k ≤ l.length ∧ i = .int .i64 k ∧ Hid (Wo w sb rb ob (.slice a l.length c) (noKey key (l.take k)) wx))) (fun i _ => l.length - (intOf i).toNat)
  case atStart => exact ⟨0, Nat.zero_le _, rfl, HW⟩
  case round =>
    obtain ⟨k, hk, rfl, HW1⟩ := hrel.ex
    clear hrel HW
    have s1 := lt_of_heap HW1.out.s
    have s2 : wr.cell? ⟨sb, 0, none⟩ = some (.slice a l.length c) := by rw [cell_at HW1.out.s]; rfl
    by_cases hlt : k < l.length
    · obtain ⟨b, o, rfl, hc⟩ := HV.out k hlt
      obtain ⟨c0, c1, c2⟩ := hc wr HW1.out.mp.tu
      have HTk := HT.out k hlt
      have HWs : Hid (Wo w sb rb ob (.slice (some ⟨b, o, none⟩) l.length c) (noKey key (l.take k)) wr) := HW1.out
      clear hc HW1
      generalize (l.getD k (0, 0)).1 = q1 at *
      generalize (l.getD k (0, 0)).2 = q2 at *
      by_cases g : q1 = key
      · have HN : Hid (noKey key (l.take (k + 1)) = noKey key (l.take k)) := by rw [Hid, HTk, if_pos g, List.append_nil]
        have g1 : (q1 != key) = false := by simpa using g
        clear g HTk
        go_wp2
        go_roundw
        case rel => exact ⟨k + 1, by omega, by go_num, by rw [HN.out]; exact HWs⟩
        case measure => simp [intOf]; omega
      · have HN : Hid (noKey key (l.take (k + 1)) = noKey key (l.take k) ++ [(q1, q2)]) := by rw [Hid, HTk, if_neg g]
        have g1 : (q1 != key) = true := by simpa using g
        clear g HTk
        obtain ⟨v, hv, hO⟩ := HWs.out.mp.ex
        obtain ⟨va, vc, rfl⟩ := hO.slice
        have HO : Hid (OW 67 2 encP w.heap.size wr (.slice va (noKey key (l.take k)).length vc) (noKey key (l.take k))) := hO
        have o1 := lt_of_heap hv
        have o2 : wr.cell? ⟨ob, 0, none⟩ = some (.slice va (noKey key (l.take k)).length vc) := by rw [cell_at hv]; rfl
        have hB0 : w.heap.size ≤ wr.heap.size := HWs.out.mp.tu.size
        have hby : ((noKey key (l.take k)).length + [(q1, q2)].length) * 16 ≤ 140737488355328 := by
          have := HLn.out k
          simp only [List.length_cons, List.length_nil]
          omega
        have HOne : Hid (∀ (i : Nat) (u : Value), ([(q1, q2)].flatMap encP)[i]? = some u → (#[Value.int .i64 q1, Value.int .i64 q2] : Array Value)[i]? = some u) := fun i u hu => by simpa [encP] using hu
        have HPu : Hid _ := fun y z v2 h1 h2 h3 => HWs.out.push (q := (q1, q2)) (v2 := v2) (y := y) (z := z) hv h1 (hO.still h1) h2 h3
        clear hv hO
        go_wp2
        go_region_law (first | (refine step_apO elP enP (B := w.heap.size) (v := .slice va (noKey key (l.take k)).length vc) (u := .slice (some ⟨wr.heap.size, 0, none⟩) 1 1) (R := noKey key (l.take k)) (M := [(q1, q2)]) rfl _ _ rfl ?_ (HO.out.still ?_) ?_ (VW.block (R := [(q1, q2)]) (c := 1) (blk_new _ _) HOne.out) hby ?_ ?_; (focus (simp [Act.eval]; done)); (focus (repeat first | exact Turned.refl _ _ | refine Turned.drew ?_ | refine Turned.alloc ?_ _)); (focus (simp [Act.eval]; done)); (focus (refine Nat.le_trans hB0 ?_; simp)); intro v2 w2 ho ht _; obtain ⟨g2, c2, rfl⟩ := ho.somes; obtain ⟨m1, m2, m3, m4⟩ := HPu.out _ w2 _ (by (repeat first | exact Turned.refl _ _ | refine Turned.drew ?_ | refine Turned.alloc ?_ _)) ht ho; have HM2 : Hid _ := m4; clear m4 ho ht))
        all_goals
          go_wp2
          go_roundw
          case rel => exact ⟨k + 1, by omega, by go_num, by rw [HN.out]; exact HM2⟩
          case measure => simp [intOf]; omega
    · obtain rfl : k = l.length := by omega
      obtain ⟨v, hv, hO⟩ := HW1.out.mp.ex
      obtain ⟨va, vc, rfl⟩ := hO.slice
      have o1 := lt_of_heap hv
      have o2 : wr.cell? ⟨ob, 0, none⟩ = some (.slice va (noKey key (l.take l.length)).length vc) := by rw [cell_at hv]; rfl
      have r1 := lt_of_heap HW1.out.r
      have r2 : wr.cell? ⟨rb, 0, none⟩ = some (.slice none 0 0) := by rw [cell_at HW1.out.r]; rfl
      have r3 := froz_at HW1.out.r 0
      have HE : Hid (OW 67 2 encP w.heap.size (wr.setCell ⟨rb, 0, none⟩ (.slice va (noKey key (l.take l.length)).length vc)) (.slice va (noKey key (l.take l.length)).length vc) (noKey key l) ∧ Turned [] w (wr.setCell ⟨rb, 0, none⟩ (.slice va (noKey key (l.take l.length)).length vc))) := by
        have h1 := hO.keep ((Turned.refl [rb] wr).set (r := rb) (by simp) 0 (.slice va (noKey key (l.take l.length)).length vc)) (fun g hg hm => by
          obtain ⟨cs, h4⟩ := hO.type hg
          rw [List.mem_singleton.1 hm] at h4
          exact tyne HW1.out.r h4 (by decide) rfl)
        refine ⟨?_, HW1.out.mp.tu.set (.inr HW1.out.ne.2.2) _ _⟩
        have e := HL.out
        rw [e] at h1 ⊢
        exact h1
      clear hv hO
      generalize noKey key (l.take l.length) = R9 at *
      have HBk : Hid ((wr.setCell ⟨rb, 0, none⟩ (.slice va R9.length vc)).heap[rb]? = some (.cells #[.slice va R9.length vc] 118 (0, 0))) := blk_set HW1.out.r 0 _
      go_wp2
      refine bodyPost_ret (results_cell_row rfl _ _ rb _ _ (0, 0) _ rfl HBk.out Tryd.underlying118 rfl (by kernel_rfl)) rfl ⟨⟨_, rfl, HE.out.1⟩, HE.out.2⟩
end Go.Proofs.YtbielnehggcaoaaDoor
/-
  What a version holds as the document keeps it: tables without a key, with one more. (By the verifier; no statement.)
-/
namespace Go.Proofs.YtbielnehggcaoaaDoor
open Go.RowKit
theorem Hold.put_del_same (f : Hold) (k v : Int) : (f.put k v).del k = f.del k := by
  funext x
  simp only [Hold.del, Hold.put]
  by_cases h : x = k <;> simp [h]
theorem Hold.put_del_other (f : Hold) {k key : Int} (v : Int) (h : k ≠ key) : (f.put k v).del key = (f.del key).put k v := by
  funext x
  simp only [Hold.del, Hold.put]
  by_cases h1 : x = key
  · rw [if_pos h1, if_neg (by omega), if_pos h1]
  · rw [if_neg h1, if_neg h1]
theorem Hold.del_put (f : Hold) (k v : Int) : (f.del k).put k v = f.put k v := by
  funext x
  simp only [Hold.del, Hold.put]
  by_cases h : x = k <;> simp [h]
theorem Hold.none_del (k : Int) : Hold.none.del k = Hold.none := by
  funext x
  simp only [Hold.del, Hold.none]
  by_cases h : x = k <;> simp [h]
theorem lay_del (key : Int) : ∀ (l : List (Int × Int)) (f : Hold), (f.lay l).del key = (f.del key).lay (noKey key l)
  | [], f => rfl
  | (k, v) :: l, f => by
    show ((f.put k v).lay l).del key = _
    rw [lay_del key l]
    unfold noKey
    by_cases h : k = key
    · subst h
      rw [Hold.put_del_same, List.filter_cons_of_neg (by simp)]
    · rw [Hold.put_del_other f v h, List.filter_cons_of_pos (by simpa using h)]
      rfl
theorem layN_noKey (key : Int) (l : List (Int × Int)) : layN (noKey key l) = (layN l).del key := by
  rw [layN, layN, lay_del, Hold.none_del]
theorem layN_put (l : List (Int × Int)) (q : Int × Int) : layN (l ++ [q]) = (layN l).put q.1 q.2 := Hold.lay_append _ l q
theorem layN_new (key v : Int) (l : List (Int × Int)) : layN (noKey key l ++ [(key, v)]) = (layN l).put key v := by
  rw [layN_put, layN_noKey, Hold.del_put]
theorem lay_more (f : Hold) {ps : List (Int × Int)} {k : Nat} (h : k < ps.length) : f.lay (ps.take (k + 1)) = (f.lay (ps.take k)).put (ps.getD k (0, 0)).1 (ps.getD k (0, 0)).2 := by
  rw [List.take_add_one, List.getElem?_eq_getElem h, Option.toList_some, Hold.lay_append]
  simp [h]
theorem noKey_len (key : Int) (l : List (Int × Int)) : (noKey key l).length ≤ l.length := List.length_filter_le _ _
/-- A table in memory of its own: what it holds, at most so many pairs. -/
structure TB (B : Nat) (w : World) (v : Value) (f : Hold) (n : Nat) : Prop where
  ex : ∃ l : List (Int × Int), OW 67 2 encP B w v l ∧ layN l = f ∧ l.length ≤ n
theorem TB.still {B n : Nat} {w w' : World} {v : Value} {f : Hold} (h : TB B w v f n) (ht : Turned [] w w') : TB B w' v f n := by
  obtain ⟨l, h1, h2, h3⟩ := h.ex
  exact ⟨l, h1.still ht, h2, h3⟩
theorem TB.keep {B n : Nat} {w w' : World} {v : Value} {f : Hold} {F : List Nat} (h : TB B w v f n) (ht : Turned F w w') (hF : ∀ g cs, g ∈ F → w.heap[g]? ≠ some (.cells cs 67 (0, 0))) : TB B w' v f n := by
  obtain ⟨l, h1, h2, h3⟩ := h.ex
  refine ⟨l, h1.keep ht fun g hg hm => ?_, h2, h3⟩
  obtain ⟨cs, hc⟩ := h1.type hg
  exact hF g cs hm hc
theorem TB.mono {B n n' : Nat} {w : World} {v : Value} {f : Hold} (h : TB B w v f n) (hn : n ≤ n') : TB B w v f n' := by
  obtain ⟨l, h1, h2, h3⟩ := h.ex
  exact ⟨l, h1, h2, Nat.le_trans h3 hn⟩
theorem TB.lower {B B' n : Nat} {w : World} {v : Value} {f : Hold} (h : TB B w v f n) (hb : B' ≤ B) : TB B' w v f n := by
  obtain ⟨l, h1, h2, h3⟩ := h.ex
  exact ⟨l, h1.lower hb, h2, h3⟩
theorem cWithoutT {w : World} {a : Option Addr} {c B n : Nat} {l : List (Int × Int)} {key : Int} {f : Hold} (hO : OW 67 2 encP B w (.slice a l.length c) l) (hf : layN l = f) (hn : l.length ≤ n) (hn2 : n ≤ 1000000000) (hB : B ≤ w.heap.size) : Calls Tryd.prog 72 #[.agg #[.slice a l.length c], .int .i64 key] w fun r w' => (∃ v, r = .returned (.agg #[v]) ∧ TB B w' v (f.del key) n) ∧ Turned [] w w' := by
  refine (cWithout hO.view (Nat.le_trans hn hn2)).mono ?_
  rintro r w' ⟨⟨v, rfl, h1⟩, h2⟩
  exact ⟨⟨v, rfl, ⟨noKey key l, h1.lower hB, by rw [layN_noKey, hf], Nat.le_trans (noKey_len _ _) hn⟩⟩, h2⟩
end Go.Proofs.YtbielnehggcaoaaDoor
/-
  The versions of a part, as the document lays them in a row: their mathematics, their memory. (By the verifier; no statement.)
-/
namespace Go.Proofs.YtbielnehggcaoaaDoor
open Go.RowKit
/-- A slice, told by its address, length and room. -/
abbrev SV := Option Addr × Nat × Nat
abbrev slV (p : SV) : Value := .slice p.1 p.2.1 p.2.2
abbrev encT : SV → List Value := fun p => [slV p]
theorem enT : En 1 encT := ⟨fun _ => rfl, fun r u hu => by rw [List.mem_singleton.1 hu]; rfl⟩
theorem elTb : El 118 91 1 24 (.agg #[.slice none 0 0]) := ⟨by kernel_rfl, by kernel_rfl, rfl, by decide, by decide⟩
theorem elTr : El 91 88 1 24 (.slice none 0 0) := ⟨by kernel_rfl, by kernel_rfl, rfl, by decide, by decide⟩
theorem slV_of {v : Value} {n : Nat} (h : ∃ a c, v = .slice a n c) : ∃ p : SV, v = slV p := by
  obtain ⟨a, c, rfl⟩ := h
  exact ⟨(a, n, c), rfl⟩
theorem TB.sv {B n : Nat} {w : World} {v : Value} {f : Hold} (h : TB B w v f n) : ∃ p : SV, v = slV p := by
  obtain ⟨l, h1, _⟩ := h.ex
  exact slV_of h1.slice
theorem TB.sl {B n : Nat} {w : World} {v : Value} {f : Hold} (h : TB B w v f n) : ∃ a k c, v = .slice a k c := by
  obtain ⟨⟨a, k, c⟩, e⟩ := h.sv
  exact ⟨a, k, c, e⟩
section
variable {m : Int} {D : List Ev} {p : Int} {f0 : Hold} {u : Nat} {H : List Hold}
/-- The versions so far; g: how many more there can be. -/
structure TbX (m : Int) (D : List Ev) (p : Int) (f0 : Hold) (u : Nat) (H : List Hold) : Prop where
  one : 1 ≤ u
  len : H.length = u
  chain : ∀ j : Nat, 1 ≤ j → j + 1 ≤ u → timesN m D D.length p (j + 1) = 1
  rest : ∃ (g : Nat) (pre : List Hold) (f : Hold), u + g = D.length + 1 ∧ H = pre ++ [f] ∧ tblL m D p D.length 1 f0 = pre ++ tblL m D p g u f
theorem TbX.start (m : Int) (D : List Ev) (p : Int) (f0 : Hold) : TbX m D p f0 1 [f0] := ⟨Nat.le_refl 1, rfl, fun j h1 h2 => by omega, D.length, [], f0, by omega, rfl, rfl⟩
theorem TbX.le (h : TbX m D p f0 u H) : u ≤ D.length + 1 := by
  obtain ⟨g, _, _, h1, _⟩ := h.rest
  omega
theorem TbX.next (h : TbX m D p f0 u H) (ht : timesN m D D.length p ((u : Int) + 1) = 1) : u ≤ D.length ∧ TbX m D p f0 (u + 1) (H ++ [(H.getD (u - 1) Hold.none).chg (eAt D (placeN m D D.length p ((u : Int) + 1)))]) := by
  obtain ⟨g, pre, f, h1, rfl, h3⟩ := h.rest
  have hl : pre.length + 1 = u := by simpa using h.len
  have e0 : (pre ++ [f]).getD (u - 1) Hold.none = f := by
    rw [List.getD_eq_getElem?_getD, List.getElem?_append_right (by omega), show u - 1 - pre.length = 0 by omega]
    rfl
  have hc : ∀ j : Nat, 1 ≤ j → j ≤ u → timesN m D D.length p (j + 1) = 1 := fun j h3 h4 => by
    by_cases e : j = u
    · rw [e]; exact ht
    · exact h.chain j h3 (by omega)
  have hb := chain_bound hc
  obtain ⟨g', rfl⟩ : ∃ g', g = g' + 1 := ⟨g - 1, by omega⟩
  rw [e0]
  refine ⟨hb, ⟨by omega, by simp; omega, fun j h4 h5 => hc j h4 (by omega), g', pre ++ [f], f.chg (eAt D (placeN m D D.length p ((u : Int) + 1))), by omega, rfl, ?_⟩⟩
  rw [h3]
  conv => lhs; unfold tblL
  rw [if_pos ht]
  simp
theorem TbX.done (h : TbX m D p f0 u H) (ht : timesN m D D.length p ((u : Int) + 1) ≠ 1) : tblL m D p D.length 1 f0 = H := by
  obtain ⟨g, pre, f, h1, rfl, h3⟩ := h.rest
  rw [h3]
  cases g with
  | zero => rfl
  | succ g =>
    unfold tblL
    rw [if_neg ht]
end
/-- A row of tables in memory of its own. -/
structure RowT (B : Nat) (w : World) (v : Value) (H : List Hold) : Prop where
  ex : ∃ L : List SV, OW 118 1 encT B w v L ∧ L.length = H.length ∧ ∀ (j : Nat) (hj : j < L.length), TB B w (slV L[j]) (H.getD j Hold.none) (1000000 + j * 3001)
section
variable {B : Nat} {w w' x y z : World} {v : Value} {H : List Hold}
theorem RowT.slice (h : RowT B w v H) : ∃ a c, v = .slice a H.length c := by
  obtain ⟨L, h1, h2, _⟩ := h.ex
  obtain ⟨a, c, e⟩ := h1.slice
  exact ⟨a, c, by rw [← h2, e]⟩
theorem RowT.keep {F : List Nat} (h : RowT B w v H) (ht : Turned F w w') (hF : ∀ g cs T, g ∈ F → w.heap[g]? = some (.cells cs T (0, 0)) → T ≠ 67 ∧ T ≠ 118) : RowT B w' v H := by
  obtain ⟨L, h1, h2, h3⟩ := h.ex
  refine ⟨L, h1.keep ht fun g hg hm => ?_, h2, fun j hj => (h3 j hj).keep ht fun g cs hg hc => (hF g cs _ hg hc).1 rfl⟩
  obtain ⟨cs, hc⟩ := h1.type hg
  exact (hF g cs _ hm hc).2 rfl
theorem RowT.still (h : RowT B w v H) (ht : Turned [] w w') : RowT B w' v H := h.keep ht (fun g cs T hg => by cases hg)
theorem RowT.lower {B' : Nat} (h : RowT B w v H) (hb : B' ≤ B) : RowT B' w v H := by
  obtain ⟨L, h1, h2, h3⟩ := h.ex
  exact ⟨L, h1.lower hb, h2, fun j hj => (h3 j hj).lower hb⟩
/-- One of its tables. -/
theorem RowT.get (h : RowT B w v H) {j : Nat} (hj : j < H.length) : ∃ (b o c : Nat) (q : SV), v = .slice (some ⟨b, o, none⟩) H.length c ∧ (∀ y, Turned [] w y → b < y.heap.size ∧ y.cell? ⟨b, o + j, none⟩ = some (slV q)) ∧ TB B w (slV q) (H.getD j Hold.none) (1000000 + j * 3001) := by
  obtain ⟨L, h1, h2, h3⟩ := h.ex
  have hj' : j < L.length := by omega
  obtain ⟨b, o, c, e, _, hc⟩ := h1.view.get enT (by decide) hj'
  refine ⟨b, o, c, L[j], by rw [← h2]; exact e, fun y hy => ?_, h3 j hj'⟩
  have c0 := hy.cell (hc 0 _ rfl) (by simp)
  rw [Nat.mul_one, Nat.add_zero] at c0
  exact ⟨World.block_lt_of_cell? _ _ c0, c0⟩
/-- One more table, laid behind. -/
theorem RowT.push {L : List SV} {q : SV} {v2 : Value} {f : Hold} {n : Nat} (h1 : OW 118 1 encT B w v L) (h2 : L.length = H.length) (h3 : ∀ (j : Nat) (hj : j < L.length), TB B w (slV L[j]) (H.getD j Hold.none) (1000000 + j * 3001)) (hxy : Turned [] w y) (hq : TB B y (slV q) f n) (hn : n ≤ 1000000 + H.length * 3001) (ht : Turned v.ownBlock.toList y z) (ho : OW 118 1 encT B z v2 (L ++ [q])) : RowT B z v2 (H ++ [f]) := by
  have hty : ∀ g cs, g ∈ v.ownBlock.toList → y.heap[g]? ≠ some (.cells cs 67 (0, 0)) := fun g cs hg hc => by
    simp only [Option.mem_toList] at hg
    obtain ⟨cs', h4⟩ := h1.type hg
    exact tyne (hxy.heap h4 (by simp)) hc (by decide) rfl
  refine ⟨L ++ [q], ho, by simp [h2], fun j hj => ?_⟩
  by_cases e : j < L.length
  · have e1 : (L ++ [q])[j] = L[j] := List.getElem_append_left e
    have e2 : (H ++ [f]).getD j Hold.none = H.getD j Hold.none := by
      rw [List.getD_eq_getElem?_getD, List.getD_eq_getElem?_getD, List.getElem?_append_left (by omega)]
    rw [e1, e2]
    exact ((h3 j e).still hxy).keep ht hty
  · have hj2 : j = L.length := by simp at hj; omega
    subst hj2
    have e2 : (H ++ [f]).getD L.length Hold.none = f := by
      rw [List.getD_eq_getElem?_getD, List.getElem?_append_right (by omega), h2, Nat.sub_self]
      rfl
    rw [e2, List.getElem_append_right (by omega)]
    simp only [Nat.sub_self, List.getElem_cons_zero]
    exact (hq.keep ht hty).mono (by rw [h2]; exact hn)
end
end Go.Proofs.YtbielnehggcaoaaDoor
/-
  Is an event right? By the document's own functions; by contract. (By the verifier; no statement.)
-/
namespace Go.Proofs.YtbielnehggcaoaaDoor
open Go.RowKit
/-- An event as a value. -/
abbrev evA (e : Ev) (nv pv : Value) : Array Value := #[.int .i64 e.wk, .int .i64 e.b, .int .i64 e.e, .int .i64 e.k, .int .i64 e.p, .int .i64 e.key, .int .i64 e.num, .bool e.had, .int .i64 e.val, .bool e.has, .int .i64 e.new, nv, pv]
set_option maxHeartbeats 800000 in
theorem cWrites {e : Ev} {na pa : Option Addr} {nl nc pl pc : Nat} (w : World) : Calls Tryd.prog 55 #[.agg (evA e (.slice na nl nc) (.slice pa pl pc))] w fun r w' => r = .returned (.bool e.pub) ∧ Turned [] w w' := by
  unfold Ev.pub
  obtain ⟨wk, b, en, k, p, key, num, had, val, has, new, ns, ps⟩ := e
  dsimp only
  by_cases g : k = 2
  · subst g
    go_enter Tryd.func55, Tryd.ntmps55
    go_wp2
    go_ret
    exact ⟨rfl, (Turned.refl [] w).alloc _⟩
  · have g1 : (k == 2) = false := by simpa using g
    rw [decide_eq_false g, Bool.false_or]
    go_enter Tryd.func55, Tryd.ntmps55
    go_wp2
    go_ret
    exact ⟨rfl, (Turned.refl [] w).alloc _⟩
/-- Why an event isn't right, case by case. -/
theorem good_cases {m : Nat} (hm : 1 ≤ m) (e : Ev) : (e.k < 1 ∧ e.good m = false) ∨ (1 ≤ e.k ∧ 5 < e.k ∧ e.good m = false) ∨ (1 ≤ e.k ∧ e.k ≤ 5 ∧ timeB e.b e.e = false ∧ e.good m = false) ∨ (1 ≤ e.k ∧ e.k ≤ 5 ∧ timeB e.b e.e = true ∧ e.p < 0 ∧ e.good m = false) ∨ (1 ≤ e.k ∧ e.k ≤ 5 ∧ timeB e.b e.e = true ∧ 0 ≤ e.p ∧ (m : Int) ≤ e.p ∧ e.good m = false) ∨ (1 ≤ e.k ∧ e.k ≤ 5 ∧ timeB e.b e.e = true ∧ 0 ≤ e.p ∧ e.p < (m : Int) ∧ e.k = 4 ∧ e.p ≠ 0 ∧ e.good m = false) ∨
    (1 ≤ e.k ∧ e.k ≤ 5 ∧ timeB e.b e.e = true ∧ 0 ≤ e.p ∧ e.p < (m : Int) ∧ (e.k = 4 → e.p = 0) ∧ e.good m = (if e.e = 0 then true else if e.k = 4 then numsB m e.ns else if e.pub then decide (2 ≤ e.num) else decide (1 ≤ e.num))) := by
  have hg : e.good m = (decide (1 ≤ e.k) && decide (e.k ≤ 5) && timeB e.b e.e && e.inPart m && (if e.e = 0 then true else if e.k = 4 then numsB m e.ns else if e.pub then decide (2 ≤ e.num) else decide (1 ≤ e.num))) := rfl
  by_cases h1 : 1 ≤ e.k
  · by_cases h2 : e.k ≤ 5
    · cases h3 : timeB e.b e.e with
      | false => exact .inr (.inr (.inl ⟨h1, h2, rfl, by rw [hg, h3]; simp⟩))
      | true =>
        have hg2 : e.good m = (e.inPart m && (if e.e = 0 then true else if e.k = 4 then numsB m e.ns else if e.pub then decide (2 ≤ e.num) else decide (1 ≤ e.num))) := by rw [hg, h3, decide_eq_true h1, decide_eq_true h2]; rfl
        by_cases h4 : 0 ≤ e.p
        · by_cases h5 : e.p < (m : Int)
          · by_cases h6 : e.k = 4
            · have hi : e.inPart m = decide (e.p = 0) := by unfold Ev.inPart; rw [if_pos h6]
              by_cases h7 : e.p = 0
              · refine .inr (.inr (.inr (.inr (.inr (.inr ⟨h1, h2, rfl, h4, h5, fun _ => h7, ?_⟩)))))
                rw [hg2, hi, decide_eq_true h7, Bool.true_and]
              · refine .inr (.inr (.inr (.inr (.inr (.inl ⟨h1, h2, rfl, h4, h5, h6, h7, ?_⟩)))))
                rw [hg2, hi, decide_eq_false h7, Bool.false_and]
            · have hi : e.inPart m = true := by unfold Ev.inPart; rw [if_neg h6, decide_eq_true h4, decide_eq_true h5]; rfl
              refine .inr (.inr (.inr (.inr (.inr (.inr ⟨h1, h2, rfl, h4, h5, fun h => absurd h h6, ?_⟩)))))
              rw [hg2, hi, Bool.true_and]
          · have hi : e.inPart m = false := by
              unfold Ev.inPart
              by_cases h6 : e.k = 4
              · rw [if_pos h6]; exact decide_eq_false (by omega)
              · rw [if_neg h6, decide_eq_false h5, Bool.and_false]
            exact .inr (.inr (.inr (.inr (.inl ⟨h1, h2, rfl, h4, by omega, by rw [hg2, hi]; rfl⟩))))
        · have hi : e.inPart m = false := by
            unfold Ev.inPart
            by_cases h6 : e.k = 4
            · rw [if_pos h6]; exact decide_eq_false (by omega)
            · rw [if_neg h6, decide_eq_false h4, Bool.false_and]
          exact .inr (.inr (.inr (.inl ⟨h1, h2, rfl, by omega, by rw [hg2, hi]; rfl⟩)))
    · exact .inr (.inl ⟨h1, by omega, by rw [hg, decide_eq_false h2]; simp⟩)
  · exact .inl ⟨by omega, by rw [hg, decide_eq_false h1]; simp⟩
end Go.Proofs.YtbielnehggcaoaaDoor
/-
  The document's history in memory while it is judged: who is blamed. (By the verifier; no statement.)
-/
namespace Go.Proofs.YtbielnehggcaoaaDoor
open Go.RowKit
/-- While events are judged: w1 is the world in which all that is told stands; the history alone turned since, and what it blames is new. -/
structure VX (w1 : World) (hb m : Nat) (lv tv : Value) (O : List Bm) (x : World) : Prop where
  tu : Turned [hb] w1 x
  lt : hb < w1.heap.size
  ex : ∃ ov, x.heap[hb]? = some (.cells #[.int .i64 m, lv, tv, ov] 90 (0, 0)) ∧ BR w1.heap.size x ov O
/-- What a blame keeps. -/
structure KeepB (hb : Nat) (x x' : World) : Prop where
  size : x.heap.size ≤ x'.heap.size
  keep : ∀ b cs T, b ≠ hb → T ≠ 55 → x.heap[b]? = some (.cells cs T (0, 0)) → x'.heap[b]? = some (.cells cs T (0, 0))
theorem KeepB.of {hb : Nat} {x y : World} (h : Turned [] x y) : KeepB hb x y := ⟨h.size, fun _ _ _ _ _ hb => h.heap hb (by simp)⟩
theorem KeepB.trans {hb : Nat} {x y z : World} (h : KeepB hb x y) (h2 : KeepB hb y z) : KeepB hb x z := ⟨Nat.le_trans h.size h2.size, fun b cs T h3 h4 h5 => h2.keep b cs T h3 h4 (h.keep b cs T h3 h4 h5)⟩
section
variable {w1 x y z : World} {hb m : Nat} {lv tv : Value} {O : List Bm}
theorem VX.still (h : VX w1 hb m lv tv O x) (ht : Turned [] x y) : VX w1 hb m lv tv O y := by
  obtain ⟨ov, h1, h2⟩ := h.ex
  exact ⟨h.tu.trans (ht.mono (by simp)), h.lt, ov, ht.heap h1 (by simp), h2.still ht⟩
theorem VX.hist (h : VX w1 hb m lv tv O x) : ∃ ov, ∀ y, Turned [] x y → y.heap[hb]? = some (.cells #[.int .i64 m, lv, tv, ov] 90 (0, 0)) := by
  obtain ⟨ov, h1, _⟩ := h.ex
  exact ⟨ov, fun y hy => hy.heap h1 (by simp)⟩
set_option maxHeartbeats 1600000 in
theorem cBlameR (h : VX w1 hb m lv tv O x) (hl : O.length ≤ 1000000000) (a b c : Int) : Calls Tryd.prog 57 #[.pointer (some ⟨hb, 0, none⟩), .int .i64 a, .int .i64 b, .int .i64 c] x fun r x' => r = .returned (.tuple #[]) ∧ VX w1 hb m lv tv (O ++ [(a, b, c)]) x' ∧ KeepB hb x x' := by
  obtain ⟨ov, h1, h2⟩ := h.ex
  have HV : Hid (VX w1 hb m lv tv O x) := h
  have HX : Hid (x.heap[hb]? = some (.cells #[.int .i64 m, lv, tv, ov] 90 (0, 0))) := h1
  have HR : Hid (BR w1.heap.size x ov O) := h2
  have HL : Hid (O.length ≤ 1000000000) := hl
  have HB : Hid (w1.heap.size ≤ x.heap.size) := h.tu.size
  have c3 : x.cell? ⟨hb, 3, none⟩ = some ov := by rw [cell_at h1]; rfl
  have hlt : hb < x.heap.size := lt_of_heap h1
  have HG : Hid (∀ g, ov.ownBlock = some g → g ≠ hb) := fun g hg => by
    have := (h2.fresh hg).1
    have := h.lt
    omega
  have e1 : ∃ q : Option Addr, ∃ n k, ov = .slice q n k := by
    rcases h2.form with ⟨e, _⟩ | ⟨g, k, e⟩
    · exact ⟨_, _, _, e⟩
    · exact ⟨_, _, _, e⟩
  obtain ⟨q, n, k, rfl⟩ := e1
  clear h h1 h2 hl
  go_enter Tryd.func57, Tryd.ntmps57
  go_wp2_with (at_builtin; refine wpList_apBm (B := w1.heap.size) (v := .slice q n k) (R := O) (r := (a, b, c)) (g := x.heap.size) rfl _ _ rfl rfl (HR.out.still ((Turned.refl [] _).alloc _)) rfl (blk_new _ _) HL.out (by have := HB.out; simp; omega) ?_; intro v1 w2 hr1 ht1 ho1; obtain ⟨g1, c1, hv1⟩ := hr1.somes; subst hv1; have HR1 : Hid _ := hr1; have HT1 : Hid (Turned (Value.slice q n k).ownBlock.toList x w2) := ((Turned.refl _ _).alloc _).trans ht1; clear hr1 ht1 ho1; have k3 := HT1.out.cell c3 (by intro hm; simp only [Option.mem_toList] at hm; exact (HG.out _ hm) rfl); have y3 := froz_at (HT1.out.heap HX.out (by intro hm; simp only [Option.mem_toList] at hm; exact (HG.out _ hm) rfl)) 3; have m1 := Nat.lt_of_lt_of_le hlt HT1.out.size; clear c3)
  go_end0
  have hh1 := HT1.out.heap HX.out (by intro hm; simp only [Option.mem_toList] at hm; exact (HG.out _ hm) rfl)
  have hlt1 := HV.out.lt
  have hset : Turned [hb] w2 (w2.setCell ⟨hb, 3, none⟩ (.slice (some ⟨g1, 0, none⟩) (O.length + 1) c1)) := (Turned.refl [hb] w2).set (by simp) _ _
  have hK : KeepB hb x (w2.setCell ⟨hb, 3, none⟩ (.slice (some ⟨g1, 0, none⟩) (O.length + 1) c1)) := ⟨Nat.le_trans HT1.out.size hset.size, fun b cs T h3 h4 h5 => hset.heap (HT1.out.heap h5 (fun hm => by
    simp only [Option.mem_toList] at hm
    obtain ⟨cs', h6⟩ := HR.out.type hm
    exact tyne h5 h6 h4 rfl)) (by simpa using h3)⟩
  refine ⟨rfl, ⟨(HV.out.tu.inner HT1.out fun g hg => .inr (HR.out.fresh (by simpa using hg)).1).trans hset, hlt1, _, ?_, HR1.out.keep hset fun g hg hm => ?_⟩, hK⟩
  · have := blk_set hh1 3 (.slice (some ⟨g1, 0, none⟩) (O.length + 1) c1)
    simpa using this
  · have h3 := (HR1.out.fresh hg).1
    rw [List.mem_singleton.1 hm] at h3
    omega
end
end Go.Proofs.YtbielnehggcaoaaDoor
/-
  Is an event right? The document's own way, by contract. (By the verifier; no statement.)
-/
namespace Go.Proofs.YtbielnehggcaoaaDoor
open Go.RowKit
set_option maxRecDepth 100000 in
set_option maxHeartbeats 3200000 in
theorem cIs {w : World} {hb m : Nat} {lv tv ov : Value} {e : Ev} {na pa : Option Addr} {nc pl pc : Nat} (hH : w.heap[hb]? = some (.cells #[.int .i64 m, lv, tv, ov] 90 (0, 0))) (hm : 1 ≤ m) (hN : IV w (.slice na e.ns.length nc) e.ns) (hl : e.ns.length ≤ 1000000000) : Calls Tryd.prog 38 #[.pointer (some ⟨hb, 0, none⟩), .agg (evA e (.slice na e.ns.length nc) (.slice pa pl pc))] w fun r w' => r = .returned (.bool (e.good m)) ∧ Turned [] w w' := by
  have G := good_cases hm e
  have PW : Hid (∀ x, Calls Tryd.prog 55 #[.agg (evA e (.slice na e.ns.length nc) (.slice pa pl pc))] x fun r w' => r = .returned (.bool e.pub) ∧ Turned [] x w') := fun x => cWrites x
  have PT : Hid (∀ x, Calls Tryd.prog 50 #[.int .i64 e.b, .int .i64 e.e] x fun r w' => r = .returned (.bool (timeB e.b e.e)) ∧ w' = x) := fun x => cRTimes _ _ x
  have HC : Hid (∀ k, k < e.ns.length → ∃ b o x, na = some ⟨b, o, none⟩ ∧ (∀ y, Turned [] w y → b < y.heap.size ∧ y.cell? ⟨b, o + k, none⟩ = some (.int .i64 x)) ∧ (e.ns.take (k + 1)).all (fun n => decide (1 ≤ n)) = ((e.ns.take k).all (fun n => decide (1 ≤ n)) && decide (1 ≤ x)) ∧ (decide (1 ≤ x) = false → e.ns.all (fun n => decide (1 ≤ n)) = false)) := fun k hk => by
    obtain ⟨a, c, ea, -, hc⟩ := hN.ex
    simp only [Value.slice.injEq] at ea
    obtain ⟨rfl, -, rfl⟩ := ea
    obtain ⟨b, o, ha, hx⟩ := hc (fun e0 => by rw [e0] at hk; simp at hk)
    refine ⟨b, o, e.ns[k], ha, fun y hy => ?_, all_takeI hk, fun hd => List.all_eq_false.2 ⟨e.ns[k], List.getElem_mem hk, by simp [hd]⟩⟩
    have h1 := hy.cell (hx k hk) (by simp)
    exact ⟨World.block_lt_of_cell? _ _ h1, h1⟩
  clear hN
  have HP : Hid (∀ y, Turned [] w y → hb < y.heap.size ∧ y.cell? ⟨hb, 0, none⟩ = some (.int .i64 m)) := fun y hy => by
    have h1 := hy.heap hH (by simp)
    exact ⟨lt_of_heap h1, by rw [cell_at h1]; rfl⟩
  clear hH
  have HNB : Hid (numsB m e.ns = (decide ((e.ns.length : Int) = (m : Int)) && e.ns.all fun n => decide (1 ≤ n))) := rfl
  have HE : Hid (e.ns.take e.ns.length = e.ns) := by rw [Hid, List.take_length]
  generalize e.good m = gd at *
  generalize e.pub = pu at *
  obtain ⟨wk, b, en, k, p, key, num, had, val, has, new, ns, ps⟩ := e
  dsimp only at *
  generalize timeB b en = tb at *
  obtain ⟨p1, p2⟩ := HP.out (w.alloc (.cells (evA ⟨wk, b, en, k, p, key, num, had, val, has, new, ns, ps⟩ (.slice na ns.length nc) (.slice pa pl pc)) 52 (0, 0))) ((Turned.refl [] w).alloc _)
  rcases G with ⟨g1, rfl⟩ | ⟨g1, g2, rfl⟩ | ⟨g1, g2, rfl, rfl⟩ | ⟨g1, g2, rfl, g4, rfl⟩ | ⟨g1, g2, rfl, g4, g5, rfl⟩ | ⟨g1, g2, rfl, g4, g5, g6, g7, rfl⟩ | ⟨g1, g2, rfl, g4, g5, g6, g7⟩
  · have xa1 : decide (k < 1) = true := decide_eq_true (by omega)
    go_enter Tryd.func38, Tryd.ntmps38
    go_wp2
    go_quiet ((go_at_call 50; exact Calls.quiet_of_same (PT.out _)))
    go_wp2
    go_ret
    exact ⟨rfl, ((Turned.refl [] w).alloc _).drewN _⟩
  · have xa0 : decide (k < 1) = false := decide_eq_false (by omega)
    have xb1 : decide (k > 5) = true := decide_eq_true (by omega)
    go_enter Tryd.func38, Tryd.ntmps38
    go_wp2
    go_quiet ((go_at_call 50; exact Calls.quiet_of_same (PT.out _)))
    go_wp2
    go_ret
    exact ⟨rfl, ((Turned.refl [] w).alloc _).drewN _⟩
  · have xa0 : decide (k < 1) = false := decide_eq_false (by omega)
    have xb0 : decide (k > 5) = false := decide_eq_false (by omega)
    go_enter Tryd.func38, Tryd.ntmps38
    go_wp2
    go_quiet ((go_at_call 50; exact Calls.quiet_of_same (PT.out _)))
    go_wp2
    go_ret
    exact ⟨rfl, ((Turned.refl [] w).alloc _).drewN _⟩
  · have xa0 : decide (k < 1) = false := decide_eq_false (by omega)
    have xb0 : decide (k > 5) = false := decide_eq_false (by omega)
    have xc1 : decide (p < 0) = true := decide_eq_true (by omega)
    go_enter Tryd.func38, Tryd.ntmps38
    go_wp2
    go_quiet ((go_at_call 50; exact Calls.quiet_of_same (PT.out _)))
    go_wp2
    go_ret
    exact ⟨rfl, ((Turned.refl [] w).alloc _).drewN _⟩
  · have xa0 : decide (k < 1) = false := decide_eq_false (by omega)
    have xb0 : decide (k > 5) = false := decide_eq_false (by omega)
    have xc0 : decide (p < 0) = false := decide_eq_false (by omega)
    have xd1 : decide (p ≥ (m : Int)) = true := decide_eq_true (by omega)
    go_enter Tryd.func38, Tryd.ntmps38
    go_wp2
    go_quiet ((go_at_call 50; exact Calls.quiet_of_same (PT.out _)))
    go_wp2
    go_ret
    exact ⟨rfl, ((Turned.refl [] w).alloc _).drewN _⟩
  · have xc0 : decide (p < 0) = false := decide_eq_false (by omega)
    have xd0 : decide (p ≥ (m : Int)) = false := decide_eq_false (by omega)
    have xf : (p != 0) = true := by simpa using g7
    subst g6
    go_enter Tryd.func38, Tryd.ntmps38
    go_wp2
    go_quiet ((go_at_call 50; exact Calls.quiet_of_same (PT.out _)))
    go_wp2
    go_ret
    exact ⟨rfl, ((Turned.refl [] w).alloc _).drewN _⟩
  · have xd0 : decide (p ≥ (m : Int)) = false := decide_eq_false (by omega)
    by_cases k4 : k = 4
    · have p0 : p = 0 := g6 k4
      subst k4
      subst p0
      have xm : decide (m = 0) = false := decide_eq_false (by omega)
      by_cases e0 : en = 0
      · subst e0
        rw [if_pos rfl] at g7
        subst g7
        go_enter Tryd.func38, Tryd.ntmps38
        go_wp2
        go_quiet ((go_at_call 50; exact Calls.quiet_of_same (PT.out _)))
        go_wp2
        go_ret
        exact ⟨rfl, ((Turned.refl [] w).alloc _).drewN _⟩
      · have xe : (en == 0) = false := by simpa using e0
        rw [if_neg e0, if_pos rfl, HNB.out] at g7
        have HG : Hid _ := g7
        clear g7 HNB PW g6
        go_enter Tryd.func38, Tryd.ntmps38
        go_wp2
        go_quiet ((go_at_call 50; exact Calls.quiet_of_same (PT.out _)))
        go_wp2
        go_loopw [5] (fun i wx => ∃ k : Nat, k ≤ ns.length ∧ i = .int .i64 k ∧ Hid ((ns.take k).all (fun n => decide (1 ≤ n)) = true) ∧ Hid (Turned [] w wx ∧ wx.heap[w.heap.size]? = some (.cells (evA ⟨wk, b, en, 4, 0, key, num, had, val, has, new, ns, ps⟩ (.slice na ns.length nc) (.slice pa pl pc)) 52 (0, 0)))) (fun i _ => ns.length - (intOf i).toNat)
        case atStart => exact ⟨0, Nat.zero_le _, rfl, rfl, ((Turned.refl [] w).alloc _).drewN _, ((Turned.refl [] _).drewN _).heap (blk_new _ _) (by simp)⟩
        case round =>
          clear p1 p2
          obtain ⟨k, hk, rfl, HA, HW⟩ := hrel
          have s1 := lt_of_heap HW.out.2
          have s2 : wr.cell? ⟨w.heap.size, 11, none⟩ = some (.slice na ns.length nc) := by rw [cell_at HW.out.2]; rfl
          obtain ⟨p1, p2⟩ := HP.out wr HW.out.1
          by_cases hlt : k < ns.length
          · obtain ⟨b9, o, x, rfl, hx, h1, h2⟩ := HC.out k hlt
            obtain ⟨c1, c2⟩ := hx wr HW.out.1
            have HX : Hid _ := h1
            have HY : Hid _ := h2
            clear h1 h2 hx
            by_cases hx1 : x < 1
            · have d1 : decide (x < 1) = true := decide_eq_true hx1
              go_wp2
              go_ret
              exact ⟨by rw [HG.out, HY.out (decide_eq_false (by omega)), Bool.and_false] <;> rfl, HW.out.1⟩
            · have d1 : decide (x < 1) = false := decide_eq_false hx1
              go_wp2
              go_roundw
              case rel => exact ⟨k + 1, by omega, by go_num, by rw [Hid, HX.out, HA.out, decide_eq_true (by omega)]; rfl, HW⟩
              case measure => simp [intOf]; omega
          · have e : k = ns.length := by omega
            subst e
            have HB := HA.out
            rw [HE.out] at HB
            have HG2 : Hid (gd = ((ns.length : Int) == (m : Int))) := by
              rw [Hid, HG.out, HB, Bool.and_true]
              by_cases q : (ns.length : Int) = (m : Int) <;> simp [q]
            clear HB
            go_wp2
            go_quiet (fail)
            go_wp2
            go_ret
            exact ⟨by rw [HG2.out] <;> rfl, HW.out.1.drewN _⟩
    · have xa0 : decide (k < 1) = false := decide_eq_false (by omega)
      have xb0 : decide (k > 5) = false := decide_eq_false (by omega)
      have xc0 : decide (p < 0) = false := decide_eq_false (by omega)
      have xk : (k == 4) = false := by simpa using k4
      have xn : (k != 4) = true := by simpa using k4
      by_cases e0 : en = 0
      · subst e0
        rw [if_pos rfl] at g7
        subst g7
        go_enter Tryd.func38, Tryd.ntmps38
        go_wp2
        go_quiet ((go_at_call 50; exact Calls.quiet_of_same (PT.out _)))
        go_wp2
        go_ret
        exact ⟨rfl, ((Turned.refl [] w).alloc _).drewN _⟩
      · have xe : (en == 0) = false := by simpa using e0
        rw [if_neg e0, if_neg k4] at g7
        by_cases n1 : 1 ≤ num
        · have y1 : decide (num ≥ 1) = true := decide_eq_true (by omega)
          have HG : Hid (gd = if pu = true then decide (num ≥ 2) else true) := by
            rw [Hid, g7]
            cases pu
            · simpa using n1
            · rfl
          clear g7 g6 HNB n1
          cases pu
          · have HG2 : Hid (gd = true) := HG.out
            go_enter Tryd.func38, Tryd.ntmps38
            go_wp2
            go_quiet ((go_at_call 50; exact Calls.quiet_of_same (PT.out _)))
            go_wp2_with (go_at_call 55; refine (PW.out _).mono ?_; rintro r z ⟨rfl, tz⟩; have hz : z.heap[w.heap.size]? = some (.cells (evA ⟨wk, b, en, k, p, key, num, had, val, has, new, ns, ps⟩ (.slice na ns.length nc) (.slice pa pl pc)) 52 (0, 0)) := tz.heap (((Turned.refl [] _).drewN _).heap (blk_new _ _) (by simp)) (by simp); have z1 := lt_of_heap hz; have z2 : z.cell? ⟨w.heap.size, 6, none⟩ = some (.int .i64 num) := by { rw [cell_at hz]; rfl }; have HZ : Hid (Turned [] w z) := (((Turned.refl [] w).alloc _).drewN _).trans tz; clear hz tz)
            go_ret
            exact ⟨by rw [HG2.out] <;> rfl, HZ.out⟩
          · have HG2 : Hid (gd = decide (num ≥ 2)) := HG.out
            go_enter Tryd.func38, Tryd.ntmps38
            go_wp2
            go_quiet ((go_at_call 50; exact Calls.quiet_of_same (PT.out _)))
            go_wp2_with (go_at_call 55; refine (PW.out _).mono ?_; rintro r z ⟨rfl, tz⟩; have hz : z.heap[w.heap.size]? = some (.cells (evA ⟨wk, b, en, k, p, key, num, had, val, has, new, ns, ps⟩ (.slice na ns.length nc) (.slice pa pl pc)) 52 (0, 0)) := tz.heap (((Turned.refl [] _).drewN _).heap (blk_new _ _) (by simp)) (by simp); have z1 := lt_of_heap hz; have z2 : z.cell? ⟨w.heap.size, 6, none⟩ = some (.int .i64 num) := by { rw [cell_at hz]; rfl }; have HZ : Hid (Turned [] w z) := (((Turned.refl [] w).alloc _).drewN _).trans tz; clear hz tz)
            go_ret
            exact ⟨by rw [HG2.out] <;> rfl, HZ.out⟩
        · have y1 : decide (num ≥ 1) = false := decide_eq_false (by omega)
          have HG : Hid (gd = false) := by
            rw [Hid, g7]
            cases pu
            · simpa using n1
            · simp; omega
          clear g7 g6 HNB n1
          go_enter Tryd.func38, Tryd.ntmps38
          go_wp2
          go_quiet ((go_at_call 50; exact Calls.quiet_of_same (PT.out _)))
          go_wp2
          go_ret
          exact ⟨by rw [HG.out] <;> rfl, ((Turned.refl [] w).alloc _).drewN _⟩
end Go.Proofs.YtbielnehggcaoaaDoor
/-
  Has a right event of a part ended? The document's own way, by contract. (By the verifier; no statement.)
-/
namespace Go.Proofs.YtbielnehggcaoaaDoor
open Go.RowKit
/-- A right event of a part, no snapshot, that has ended. -/
def Ev.endB (m part : Int) (e : Ev) : Bool := e.good m && (decide (e.e ≠ 0) && (decide (e.k ≠ 4) && decide (e.p = part)))
set_option maxRecDepth 100000 in
set_option maxHeartbeats 6400000 in
theorem cEnded {w : World} {hb m : Nat} {lv tv ov : Value} {D : List Ev} {i : Nat} {part : Int} (hH : w.heap[hb]? = some (.cells #[.int .i64 m, lv, tv, ov] 90 (0, 0))) (hm : 1 ≤ m) (hE : EsAt w lv D) (hi : i < D.length) (hl2 : (eAt D i).ns.length ≤ 1000000000) : Calls Tryd.prog 54 #[.pointer (some ⟨hb, 0, none⟩), .int .i64 i, .int .i64 part] w fun r w' => r = .returned (.bool ((eAt D i).endB m part)) ∧ Turned [] w w' := by
  obtain ⟨b, o, c, rfl, he⟩ := hE.get hi
  have hl := hE.len
  unfold Ev.endB
  obtain ⟨nv, n1, n2⟩ := he.c11
  obtain ⟨pv, q1, q2⟩ := he.c12
  obtain ⟨na, nc, rfl, -, -⟩ := id n2.ex
  obtain ⟨pa, pc, rfl, -⟩ := id q2.ex
  have PI : Hid (∀ x, Turned [] w x → Calls Tryd.prog 38 #[.pointer (some ⟨hb, 0, none⟩), .agg (evA (eAt D i) (.slice na (eAt D i).ns.length nc) (.slice pa (eAt D i).ps.length pc))] x fun r w' => r = .returned (.bool ((eAt D i).good m)) ∧ Turned [] x w') := fun x hx => cIs (hx.heap hH (by simp)) hm (n2.still hx) hl2
  have b1 := lt_of_heap hH
  have b2 : w.cell? ⟨hb, 1, none⟩ = some (.slice (some ⟨b, o, none⟩) D.length c) := by rw [cell_at hH]; rfl
  have f0 := he.c0
  have f1 := he.c1
  have f2 := he.c2
  have f3 := he.c3
  have f4 := he.c4
  have f5 := he.c5
  have f6 := he.c6
  have f7 := he.c7
  have f8 := he.c8
  have f9 := he.c9
  have f10 := he.c10
  have b3 := he.lt
  clear he hE hH n2 q2
  generalize (eAt D i).good m = gd at *
  generalize eAt D i = e at *
  obtain ⟨wk, eb, en, k, p, key, num, had, val, has, new, ns, ps⟩ := e
  dsimp only at *
  generalize hR : (gd && (decide (en ≠ 0) && (decide (k ≠ 4) && decide (p = part)))) = R
  cases gd
  · have HR : Hid (R = false) := by rw [Hid, ← hR]; rfl
    clear hR
    go_enter Tryd.func54, Tryd.ntmps54
    go_wp2_with (go_at_call 38; refine (PI.out _ ((Turned.refl [] w).alloc _)).mono ?_; rintro r z ⟨rfl, tz⟩; have hz : z.heap[w.heap.size]? = some (.cells (evA ⟨wk, eb, en, k, p, key, num, had, val, has, new, ns, ps⟩ (.slice na ns.length nc) (.slice pa ps.length pc)) 52 (0, 0)) := tz.heap (blk_new _ _) (by simp); have z1 := lt_of_heap hz; have z2 : z.cell? ⟨w.heap.size, 2, none⟩ = some (.int .i64 en) := by { rw [cell_at hz]; rfl }; have z3 : z.cell? ⟨w.heap.size, 3, none⟩ = some (.int .i64 k) := by { rw [cell_at hz]; rfl }; have z4 : z.cell? ⟨w.heap.size, 4, none⟩ = some (.int .i64 p) := by { rw [cell_at hz]; rfl }; have HZ : Hid (Turned [] w z) := ((Turned.refl [] w).alloc _).trans tz; clear hz tz)
    go_ret
    exact ⟨by rw [HR.out] <;> rfl, HZ.out⟩
  · by_cases e0 : en = 0
    · have x0 : (en != 0) = false := by simpa using e0
      have HR : Hid (R = false) := by rw [Hid, ← hR]; simp [e0]
      clear hR e0
      go_enter Tryd.func54, Tryd.ntmps54
      go_wp2_with (go_at_call 38; refine (PI.out _ ((Turned.refl [] w).alloc _)).mono ?_; rintro r z ⟨rfl, tz⟩; have hz : z.heap[w.heap.size]? = some (.cells (evA ⟨wk, eb, en, k, p, key, num, had, val, has, new, ns, ps⟩ (.slice na ns.length nc) (.slice pa ps.length pc)) 52 (0, 0)) := tz.heap (blk_new _ _) (by simp); have z1 := lt_of_heap hz; have z2 : z.cell? ⟨w.heap.size, 2, none⟩ = some (.int .i64 en) := by { rw [cell_at hz]; rfl }; have z3 : z.cell? ⟨w.heap.size, 3, none⟩ = some (.int .i64 k) := by { rw [cell_at hz]; rfl }; have z4 : z.cell? ⟨w.heap.size, 4, none⟩ = some (.int .i64 p) := by { rw [cell_at hz]; rfl }; have HZ : Hid (Turned [] w z) := ((Turned.refl [] w).alloc _).trans tz; clear hz tz)
      go_ret
      exact ⟨by rw [HR.out] <;> rfl, HZ.out⟩
    · have x0 : (en != 0) = true := by simpa using e0
      by_cases k4 : k = 4
      · have x1 : (k != 4) = false := by simpa using k4
        have HR : Hid (R = false) := by rw [Hid, ← hR]; simp [k4]
        clear hR e0 k4
        go_enter Tryd.func54, Tryd.ntmps54
        go_wp2_with (go_at_call 38; refine (PI.out _ ((Turned.refl [] w).alloc _)).mono ?_; rintro r z ⟨rfl, tz⟩; have hz : z.heap[w.heap.size]? = some (.cells (evA ⟨wk, eb, en, k, p, key, num, had, val, has, new, ns, ps⟩ (.slice na ns.length nc) (.slice pa ps.length pc)) 52 (0, 0)) := tz.heap (blk_new _ _) (by simp); have z1 := lt_of_heap hz; have z2 : z.cell? ⟨w.heap.size, 2, none⟩ = some (.int .i64 en) := by { rw [cell_at hz]; rfl }; have z3 : z.cell? ⟨w.heap.size, 3, none⟩ = some (.int .i64 k) := by { rw [cell_at hz]; rfl }; have z4 : z.cell? ⟨w.heap.size, 4, none⟩ = some (.int .i64 p) := by { rw [cell_at hz]; rfl }; have HZ : Hid (Turned [] w z) := ((Turned.refl [] w).alloc _).trans tz; clear hz tz)
        go_ret
        exact ⟨by rw [HR.out] <;> rfl, HZ.out⟩
      · have x1 : (k != 4) = true := by simpa using k4
        have HR : Hid (R = (p == part)) := by rw [Hid, ← hR]; by_cases q : p = part <;> simp [e0, k4, q]
        clear hR e0 k4
        go_enter Tryd.func54, Tryd.ntmps54
        go_wp2_with (go_at_call 38; refine (PI.out _ ((Turned.refl [] w).alloc _)).mono ?_; rintro r z ⟨rfl, tz⟩; have hz : z.heap[w.heap.size]? = some (.cells (evA ⟨wk, eb, en, k, p, key, num, had, val, has, new, ns, ps⟩ (.slice na ns.length nc) (.slice pa ps.length pc)) 52 (0, 0)) := tz.heap (blk_new _ _) (by simp); have z1 := lt_of_heap hz; have z2 : z.cell? ⟨w.heap.size, 2, none⟩ = some (.int .i64 en) := by { rw [cell_at hz]; rfl }; have z3 : z.cell? ⟨w.heap.size, 3, none⟩ = some (.int .i64 k) := by { rw [cell_at hz]; rfl }; have z4 : z.cell? ⟨w.heap.size, 4, none⟩ = some (.int .i64 p) := by { rw [cell_at hz]; rfl }; have HZ : Hid (Turned [] w z) := ((Turned.refl [] w).alloc _).trans tz; clear hz tz)
        go_ret
        exact ⟨by rw [HR.out] <;> rfl, HZ.out⟩
end Go.Proofs.YtbielnehggcaoaaDoor

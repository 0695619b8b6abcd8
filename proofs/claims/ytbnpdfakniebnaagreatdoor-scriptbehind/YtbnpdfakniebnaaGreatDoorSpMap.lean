/-
  Maps from words to what lines do. (By the verifier; no statement.)
-/
import Derived.Test.YtbnpdfakniebnaaGreatDoorSpTab
import Derived.Maps.Own
import Derived.ChangeKeysEq
namespace Go.Proofs.YtbnpdfakniebnaaGreatDoor
open Go.RowKit
section
variable {κ ν : Type} [DecidableEq κ]
def asc : List (κ × ν) → κ → Option ν
  | [], _ => none
  | q :: l, x => if x = q.1 then some q.2 else asc l x
def ascI : List (κ × ν) → κ → Nat → Option (Nat × ν)
  | [], _, _ => none
  | q :: l, x, i => if x = q.1 then some (i, q.2) else ascI l x (i + 1)
theorem ascI_asc : ∀ (l : List (κ × ν)) (x : κ) (i : Nat), (ascI l x i).map (·.2) = asc l x
  | [], _, _ => rfl
  | q :: l, x, i => by
    unfold ascI asc
    split
    · rfl
    · exact ascI_asc l x (i + 1)
theorem ascI_some : ∀ (l : List (κ × ν)) (x : κ) (i j : Nat) (v : ν), ascI l x i = some (j, v) → ∃ d, j = i + d ∧ l[d]? = some (x, v)
  | [], _, _, _, _, h => by simp [ascI] at h
  | q :: l, x, i, j, v, h => by
    unfold ascI at h
    split at h
    · rename_i e
      obtain ⟨rfl, rfl⟩ := Prod.mk.inj (Option.some.inj h)
      exact ⟨0, rfl, by simp [e]⟩
    · obtain ⟨d, h1, h2⟩ := ascI_some l x (i + 1) j v h
      exact ⟨d + 1, by omega, by simpa using h2⟩
theorem ascI_none : ∀ (l : List (κ × ν)) (x : κ) (i : Nat), ascI l x i = none → x ∉ l.map (·.1)
  | [], _, _, _ => by simp
  | q :: l, x, i, h => by
    unfold ascI at h
    split at h
    · cases h
    · rename_i e
      have := ascI_none l x (i + 1) h
      rw [List.map_cons, List.mem_cons, not_or]
      exact ⟨e, this⟩
theorem asc_append (l : List (κ × ν)) (x : κ) (v : ν) (h : x ∉ l.map (·.1)) (y : κ) : asc (l ++ [(x, v)]) y = if y = x then some v else asc l y := by
  induction l with
  | nil => simp [asc]
  | cons q l ih =>
    rw [List.map_cons, List.mem_cons, not_or] at h
    rw [List.cons_append]
    unfold asc
    rw [ih h.2]
    by_cases e : y = q.1
    · rw [if_pos e, if_neg (fun e2 => h.1 (e2.symm.trans e))]
      simp [e]
    · simp [e]
theorem asc_set : ∀ (l : List (κ × ν)) (d : Nat) (x : κ) (u v : ν), l[d]? = some (x, u) → (l.map (·.1)).Nodup → ∀ y, asc (l.set d (x, v)) y = if y = x then some v else asc l y
  | [], _, _, _, _, h, _, _ => by simp at h
  | q :: l, 0, x, u, v, h, _, y => by
    simp only [List.getElem?_cons_zero, Option.some.injEq] at h
    subst h
    rw [List.set_cons_zero]
    unfold asc
    split <;> simp_all
  | q :: l, d + 1, x, u, v, h, hn, y => by
    rw [List.getElem?_cons_succ] at h
    rw [List.map_cons, List.nodup_cons] at hn
    rw [List.set_cons_succ]
    unfold asc
    rw [asc_set l d x u v h hn.2 y]
    by_cases e : y = q.1
    · have hne : ¬ y = x := fun e2 => hn.1 (by rw [← e, e2]; exact List.mem_map.2 ⟨(x, u), List.mem_of_getElem? h, rfl⟩)
      rw [if_pos e, if_neg hne]
      simp [e]
    · simp [e]
theorem asc_erase : ∀ (l : List (κ × ν)) (d : Nat) (x : κ) (u : ν), l[d]? = some (x, u) → (l.map (·.1)).Nodup → ∀ y, asc (l.eraseIdx d) y = if y = x then none else asc l y
  | [], _, _, _, h, _, _ => by simp at h
  | q :: l, 0, x, u, h, hn, y => by
    simp only [List.getElem?_cons_zero, Option.some.injEq] at h
    subst h
    rw [List.map_cons, List.nodup_cons] at hn
    rw [List.eraseIdx_cons_zero]
    by_cases e : y = x
    · subst e
      rw [if_pos rfl]
      have hno : ∀ l : List (κ × ν), y ∉ l.map (·.1) → asc l y = none := by
        intro l
        induction l with
        | nil => intro _; rfl
        | cons q l ih =>
          intro h
          rw [List.map_cons, List.mem_cons, not_or] at h
          unfold asc
          rw [if_neg h.1, ih h.2]
      exact hno l hn.1
    · rw [if_neg e]
      conv => rhs; unfold asc
      simp [e]
  | q :: l, d + 1, x, u, h, hn, y => by
    rw [List.getElem?_cons_succ] at h
    rw [List.map_cons, List.nodup_cons] at hn
    rw [List.eraseIdx_cons_succ]
    unfold asc
    rw [asc_erase l d x u h hn.2 y]
    by_cases e : y = q.1
    · have hne : ¬ y = x := fun e2 => hn.1 (by rw [← e, e2]; exact List.mem_map.2 ⟨(x, u), List.mem_of_getElem? h, rfl⟩)
      rw [if_pos e, if_neg hne]
      simp [e]
    · simp [e]
/-- The map at block b is the function f. -/
structure GM (ek : κ → Value) (ev : ν → Value) (w : World) (b : Nat) (f : κ → Option ν) : Prop where
  ex : ∃ es clock, ∃ ps : List (κ × ν), w.heap[b]? = some (.map es clock) ∧ es.toList.map (fun e => (e.key, e.val)) = ps.map (fun q => (ek q.1, ev q.2)) ∧ (ps.map (·.1)).Nodup ∧ ∀ k, f k = asc ps k
variable {ek : κ → Value} {ev : ν → Value} {w : World} {b : Nat} {f : κ → Option ν}
theorem GM.keep {w' : World} {l : List Nat} (h : GM ek ev w b f) (ht : Turned l w w') (hb : b ∉ l) : GM ek ev w' b f := by
  obtain ⟨es, c, ps, h1, h2⟩ := h.ex
  exact ⟨es, c, ps, ht.heap h1 hb, h2⟩
theorem GM.lt (h : GM ek ev w b f) : b < w.heap.size := by
  obtain ⟨es, c, ps, h1, _⟩ := h.ex
  exact lt_of_heap h1
theorem GM.made (w : World) : GM ek ev (w.alloc (.map #[] 0)) w.heap.size (fun _ => none) := ⟨#[], 0, [], blk_new _ _, rfl, List.nodup_nil, fun _ => rfl⟩
/-- What is asked of a kind of keys. -/
structure KeyOk (P : Program) (kt : TypeId) (ek : κ → Value) : Prop where
  find : ∀ (ν : Type) (ev : ν → Value) (w : World) (k : κ) (l : List MapEntry) (ps : List (κ × ν)), l.map (fun e => (e.key, e.val)) = ps.map (fun q => (ek q.1, ev q.2)) → (Instr.findKey kt (ek k) l).run P w = .ok ((ascI ps k 0).map fun q => (q.1, ev q.2)) w
  check : ∀ (e : Bool) (w : World) (k : κ), (Instr.checkKey e 10000 kt (ek k)).run P w = .ok () w
  stays : ∀ k, Instr.sameBits 10000 (ek k) (ek k) = true
variable {P : Program} {t kt et : TypeId}
theorem GM.look (h : GM ek ev w b f) (hK : KeyOk P kt ek) (ht : P.underlying t = some (.map kt et)) {z : Value} (hz : (zeroValue et).run P w = .ok z w) (k : κ) : (Instr.lookup t (.map (some b)) (ek k) true).run P w = .ok (.tuple #[((f k).map ev).getD z, .bool (f k).isSome]) w := by
  obtain ⟨es, c, ps, h1, h2, _, h4⟩ := h.ex
  have hf := hK.find ν ev w k es.toList ps h2
  have h5 := ascI_asc ps k 0
  rw [← h4 k] at h5
  unfold Instr.lookup
  cases hq : ascI ps k 0 with
  | none =>
    rw [hq] at hf h5
    rw [← h5]
    simp only [Option.map_none] at hf
    simp [run_underlying ht, MapKept.run_getObj_map h1, hK.check, hf, hz, Result.andThen]
  | some q =>
    rw [hq] at hf h5
    rw [← h5]
    simp only [Option.map_some] at hf
    simp [run_underlying ht, MapKept.run_getObj_map h1, hK.check, hf, Result.andThen]
theorem GM.look1 (h : GM ek ev w b f) (hK : KeyOk P kt ek) (ht : P.underlying t = some (.map kt et)) {z : Value} (hz : (zeroValue et).run P w = .ok z w) (k : κ) : (Instr.lookup t (.map (some b)) (ek k) false).run P w = .ok (((f k).map ev).getD z) w := by
  obtain ⟨es, c, ps, h1, h2, _, h4⟩ := h.ex
  have hf := hK.find ν ev w k es.toList ps h2
  have h5 := ascI_asc ps k 0
  rw [← h4 k] at h5
  unfold Instr.lookup
  cases hq : ascI ps k 0 with
  | none =>
    rw [hq] at hf h5
    rw [← h5]
    simp only [Option.map_none] at hf
    simp [run_underlying ht, MapKept.run_getObj_map h1, hK.check, hf, hz, Result.andThen]
  | some q =>
    rw [hq] at hf h5
    rw [← h5]
    simp only [Option.map_some] at hf
    simp [run_underlying ht, MapKept.run_getObj_map h1, hK.check, hf, Result.andThen]
theorem turned_block (w : World) (b : Nat) (o : Obj) : Turned [b] w { w with heap := w.heap.setIfInBounds b o } := by
  refine ⟨rfl, rfl, rfl, by simp, fun k hk hn => ?_⟩
  have : k ≠ b := by simpa using hn
  simp [Ne.symm this]
theorem blk_block {w : World} {b : Nat} (h : b < w.heap.size) (o : Obj) : ({ w with heap := w.heap.setIfInBounds b o } : World).heap[b]? = some o := by
  simp [h]
theorem map_modify {α β : Type} (g : α → β) (u : α → α) (v : β) (hu : ∀ x, g (u x) = v) : ∀ (l : List α) (i : Nat), (l.modify i u).map g = (l.map g).set i v
  | [], i => by simp
  | x :: l, 0 => by simp [hu]
  | x :: l, i + 1 => by simp [map_modify g u v hu l i]
theorem set_self {α : Type} : ∀ (l : List α) (i : Nat) (x : α), l[i]? = some x → l.set i x = l
  | [], _, _, h => by simp at h
  | y :: l, 0, x, h => by simp at h; simp [h]
  | y :: l, i + 1, x, h => by rw [List.set_cons_succ, set_self l i x (by simpa using h)]
theorem GM.put (h : GM ek ev w b f) (hK : KeyOk P kt ek) (ht : P.underlying t = some (.map kt et)) (k : κ) (v : ν) : ∃ w', (Instr.mapUpdate t (.map (some b)) (ek k) (ev v)).run P w = .ok () w' ∧ Turned [b] w w' ∧ GM ek ev w' b (fun x => if x = k then some v else f x) := by
  obtain ⟨es, c, ps, h1, h2, h3, h4⟩ := h.ex
  have hf := hK.find ν ev w k es.toList ps h2
  cases hq : ascI ps k 0 with
  | none =>
    rw [hq] at hf
    simp only [Option.map_none] at hf
    have hn := ascI_none ps k 0 hq
    refine ⟨_, ?_, turned_block w b (.map (es.push ⟨ek k, ev v, c⟩) (c + 1)), ⟨_, _, ps ++ [(k, v)], blk_block h.lt _, by simp [h2], ?_, fun x => ?_⟩⟩
    · unfold Instr.mapUpdate
      simp [run_underlying ht, MapKept.run_getObj_map h1, hK.check, hf, MapKept.run_setObj_map _ h1, Result.andThen]
    · rw [List.map_append, List.nodup_append]
      refine ⟨h3, by simp, fun a ha q hq => ?_⟩
      simp only [List.map_cons, List.map_nil, List.mem_singleton] at hq
      subst hq
      exact fun e => hn (by rw [← e]; exact ha)
    · rw [asc_append ps k v hn x, h4 x]
  | some q =>
    rw [hq] at hf
    simp only [Option.map_some] at hf
    obtain ⟨j, u⟩ := q
    obtain ⟨d, hd, hg⟩ := ascI_some ps k 0 j u hq
    have hd2 : j = d := by omega
    subst hd2
    have hk : (es[j]?).map (·.key) = some (ek k) := by
      have := congrArg (fun l => l[j]?) h2
      simp only [List.getElem?_map, hg, Option.map_some, Array.getElem?_toList] at this
      cases he : es[j]? with
      | none => rw [he] at this; cases this
      | some x =>
        rw [he] at this
        simp only [Option.map_some, Option.some.injEq, Prod.mk.injEq] at this
        simp [this.1]
    refine ⟨_, ?_, turned_block w b (.map (es.modify j fun e => { e with key := ek k, val := ev v }) c), ⟨_, _, ps.set j (k, v), blk_block h.lt _, ?_, ?_, fun x => ?_⟩⟩
    · unfold Instr.mapUpdate Instr.keyThatStays
      simp [run_underlying ht, MapKept.run_getObj_map h1, hK.check, hf, MapKept.run_setObj_map _ h1, Result.andThen, hk, hK.stays]
    · rw [Array.toList_modify, map_modify (fun e : MapEntry => (e.key, e.val)) _ (ek k, ev v) (fun _ => rfl), h2, List.map_set]
    · have : (ps.set j (k, v)).map (·.1) = ps.map (·.1) := by
        rw [List.map_set]
        exact set_self _ _ _ (by rw [List.getElem?_map, hg]; rfl)
      rw [this]
      exact h3
    · rw [asc_set ps j k u v hg h3 x, h4 x]
end
/-- Keys that are words. -/
abbrev ekS (k : Bs) : Value := sV k
theorem bytes_beq (x y : Bs) : ((⟨x.toArray⟩ : ByteArray) == ⟨y.toArray⟩) = (x == y) := by
  show (x.toArray == y.toArray) = _
  simp
theorem findNow_str {ν : Type} (ev : ν → Value) (k : Bs) : ∀ (l : List MapEntry) (ps : List (Bs × ν)) (i : Nat), l.map (fun e => (e.key, e.val)) = ps.map (fun q => (ekS q.1, ev q.2)) → Instr.findNow .string (ekS k) l i = some ((ascI ps k i).map fun q => (q.1, ev q.2))
  | [], [], _, _ => rfl
  | [], _ :: _, _, h => by simp at h
  | _ :: _, [], _, h => by simp at h
  | e :: l, q :: ps, i, h => by
    simp only [List.map_cons, List.cons.injEq, Prod.mk.injEq] at h
    obtain ⟨⟨h1, h2⟩, h3⟩ := h
    have ih := findNow_str ev k l ps (i + 1) h3
    unfold Instr.findNow ascI
    rw [h1]
    simp only [ekS, Instr.sameNow]
    by_cases e1 : k = q.1
    · subst e1
      have e3 : ((⟨q.1.toArray⟩ : ByteArray) == ⟨q.1.toArray⟩) = true := by rw [bytes_beq]; simp
      rw [if_pos rfl, e3]
      simp [h2]
    · have e2 : ((⟨k.toArray⟩ : ByteArray) == ⟨q.1.toArray⟩) = false := (bytes_beq _ _).trans (by simpa using e1)
      rw [if_neg e1, e2]
      exact ih
theorem keyStr : KeyOk Tryz.prog 9 ekS where
  find ν ev w k l ps h := by
    unfold Instr.findKey
    have hf := findNow_str ev k l ps 0 h
    simp only [ekS] at hf
    simp [run_underlying Tryz.underlying9, hf, Result.andThen, ekS]
  check e w k := by
    unfold Instr.checkKey
    simp [run_underlying Tryz.underlying9, ekS]
  stays k := by
    show ((⟨k.toArray⟩ : ByteArray) == ⟨k.toArray⟩) = true
    rw [bytes_beq]; simp
abbrev fV (n : Nat) : Value := .func (.func n) #[] #[]
/-- What each word does. -/
abbrev DM (w : World) (b : Nat) (f : Bs → Option Nat) : Prop := GM ekS fV w b f
theorem zFun (w : World) : (zeroValue 154).run Tryz.prog w = .ok .nilFunc w := by kernel_rfl
def words1 (i : Nat) : List Bs := ((callT.take i).drop 1).map (·.1)
theorem words1_step {i : Nat} (hi : 0 < i) {q : Bs × Int × Bool} (hq : callT[i]? = some q) : words1 (i + 1) = words1 i ++ [q.1] := by
  unfold words1
  have h20 : i < callT.length := (List.getElem?_eq_some_iff.1 hq).1
  rw [List.take_add_one, hq, List.drop_append, List.length_take]
  simp only [Option.toList_some, List.map_append]
  rw [show 1 - min i callT.length = 0 by omega]
  rfl
theorem words1_one : words1 1 = words1 0 := rfl
theorem kindG_mem : ∀ (l : List (Bs × Int × Bool)) (i : Nat) (w : Bs), 0 < i → (kindG l i w ≠ 0 ↔ w ∈ l.map (·.1))
  | [], i, w, _ => by simp [kindG]
  | q :: l, i, w, h => by
    have ih := kindG_mem l (i + 1) w (by omega)
    rw [kindG]
    by_cases e : q.1 = w
    · rw [if_pos ⟨h, e⟩]
      simp [e]
      omega
    · rw [if_neg (fun hh => e hh.2), ih]
      simp [show ¬ w = q.1 from fun hh => e hh.symm]
theorem kindB_words (w : Bs) : w ∈ words1 20 ↔ kindB w ≠ 0 := by
  have h := kindG_mem (callT.drop 1) 1 w (by omega)
  have e : kindB w = kindG (callT.drop 1) 1 w := by
    show kindG (([], 0, false) :: callT.drop 1) 0 w = _
    rw [kindG, if_neg (by simp)]
  rw [e, h]
  rfl
end Go.Proofs.YtbnpdfakniebnaaGreatDoor

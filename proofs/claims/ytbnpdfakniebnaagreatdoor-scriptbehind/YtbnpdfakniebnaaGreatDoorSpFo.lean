/-
  Calls laid one behind the other: what is left of it. (By the verifier; no statement.)
-/
import Derived.Test.YtbnpdfakniebnaaGreatDoorSpCR
namespace Go.Proofs.YtbnpdfakniebnaaGreatDoor
open Go.RowKit
namespace RS
variable {r : RS} {c : Cl}
theorem add_callsN : (r.add c).callsN = r.callsN + 1 := by
  unfold callsN add
  simp
theorem add_ne : (r.add c).work ≠ [] := by unfold add; simp
theorem add_len (h : r.work ≠ []) : (r.add c).work.length = r.work.length := by
  have : 0 < r.work.length := by
    rcases Nat.eq_zero_or_pos r.work.length with e | e
    · exact absurd (List.length_eq_zero_iff.1 e) h
    · exact e
  unfold add
  simp
  omega
theorem addAll_append (r : RS) (L M : List Cl) : r.addAll (L ++ M) = (r.addAll L).addAll M := by unfold addAll; rw [List.foldl_append]
theorem addAll_all (r : RS) (h : r.work ≠ []) : ∀ L : List Cl, (r.addAll L).work ≠ [] ∧ (r.addAll L).work.length = r.work.length ∧ (r.addAll L).callsN = r.callsN + L.length ∧ (r.addAll L).body = r.body ∧ (r.addAll L).times = r.times ∧ (r.addAll L).tag = r.tag
  | [] => ⟨h, rfl, by simp [addAll], rfl, rfl, rfl⟩
  | c :: L => by
    have ih := addAll_all (r.add c) add_ne L
    have e : r.addAll (c :: L) = (r.add c).addAll L := rfl
    rw [e]
    refine ⟨ih.1, ih.2.1.trans (add_len h), ?_, ih.2.2.2.1, ih.2.2.2.2.1, ih.2.2.2.2.2⟩
    rw [ih.2.2.1, add_callsN, List.length_cons]
    omega
end RS
theorem flat_succ (n : Nat) (b : List Cl) : (List.replicate (n + 1) b).flatten = (List.replicate n b).flatten ++ b := by
  rw [List.replicate_succ', List.flatten_append]
  simp
theorem flat_len (n : Nat) (b : List Cl) : (List.replicate n b).flatten.length = n * b.length := by
  induction n with
  | zero => simp
  | succ n ih => rw [flat_succ, List.length_append, ih, Nat.succ_mul]
section
variable {B : Nat} {w w' : World} {m : RM} {S : List (Int × Int)} {T H : List Int} {W : List (List Cl)} {D : List Cl}
/-- What was to be repeated is forgotten. -/
theorem RP.drop (h : RP B w m S T H W D) : RP B w { m with vb := .slice none 0 0, bd := [] } S T H W [] := by
  refine ⟨h.src, h.trn, h.hlt, h.wrk, h.rws, OW.nil _ _ _ _ _, fun q hq => h.prs q (List.mem_append_right _ hq), h.eqw, rfl, h.nI, ?_, ?_⟩
  · have := (List.nodup_append.1 h.nC).2.1
    simpa [ownL, Value.ownBlock] using this
  · have := h.nP
    rw [List.nodup_append] at this ⊢
    refine ⟨this.1, ?_, fun x hx y hy => this.2.2 x hx y ?_⟩
    · have h2 := this.2.1
      rw [RM.calls, List.flatMap_append, List.nodup_append] at h2
      simpa [RM.calls] using h2.2.1
    · rw [RM.calls, List.flatMap_append]
      exact List.mem_append_right _ (by simpa [RM.calls] using hy)
/-- A call's block beside all rows turns. -/
theorem RP.aside (h : RP B w m S T H W D) {b : Nat} {cs : Array Value} (ht : Turned [b] w w') (hb : w.heap[b]? = some (.cells cs 79 (0, 0))) (hn : b ∉ ownL m.vb ++ m.rows.flatMap fun p => ownL p.1.v) : RP B w' m S T H W D := by
  rw [List.mem_append, not_or] at hn
  refine ⟨h.src.off ht fun x hx => ?_, h.trn.off ht fun x hx => ?_, h.hlt.off ht fun x hx => ?_, h.wrk.off ht fun x hx => ?_, fun p hp => (h.rws p hp).away ht fun x hx hm => ?_, h.bdy.away ht fun x hx hm => ?_, fun q hq => ⟨(h.prs q hq).1.off ht fun x hx => ?_, (h.prs q hq).2⟩, h.eqw, h.eqb, h.nI, h.nC, h.nP⟩
  rotate_left 4
  · rw [List.mem_singleton] at hm
    subst hm
    exact hn.2 (List.mem_flatMap.2 ⟨p, hp, hx⟩)
  · rw [List.mem_singleton] at hm
    subst hm
    exact hn.1 hx
  all_goals
    rw [List.mem_singleton.1 hx]
    exact ⟨cs, _, hb, by decide⟩
end
section
variable {W0 w w1 : World} {rb lb : Nat} {f : Bs} {cs : Array Value} {g : RG} {s : Ln}
theorem RX.aside (h : RX W0 w rb lb f cs g s) {b : Nat} {ds : Array Value} (ht : Turned [b] w w1) (hb : w.heap[b]? = some (.cells ds 79 (0, 0))) (hge : W0.heap.size ≤ b) (hn : b ∉ ownL g.m.vb ++ g.m.rows.flatMap fun p => ownL p.1.v) : RX W0 w1 rb lb f cs g s := by
  have hF : ∀ x ∈ [b], ∃ cs, w.heap[x]? = some (.cells cs 79 (0, 0)) := fun x hx => by rw [List.mem_singleton.1 hx]; exact ⟨ds, hb⟩
  refine ⟨h.tu.inner ht fun x hx => .inr (by rw [List.mem_singleton.1 hx]; exact hge), ht.heap h.blk ?_, h.rp.aside ht hb hn, GM.keep h.map ht ?_, h.ln.off ht fun x hx => ?_, h.ge, h.tab⟩
  · rw [List.mem_singleton]; exact tyne h.blk hb (by decide)
  · rw [List.mem_singleton]; exact GM.not_cells h.map hb
  · obtain ⟨c2, h2⟩ := hF x hx
    exact ⟨c2, _, h2, by decide, by decide⟩
end
end Go.Proofs.YtbnpdfakniebnaaGreatDoor

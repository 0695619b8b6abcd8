/-
  A line's methods by contract: numbers, pairs. (By the verifier; no statement.)
-/
import Derived.Test.YtbnpdfakniebnaaGreatDoorSpLine2
namespace Go.Proofs.YtbnpdfakniebnaaGreatDoor
open Go.RowKit
abbrev encP : Int × Int → List Value := fun p => [.int .i64 p.1, .int .i64 p.2]
theorem enP : En 2 encP := ⟨fun _ => rfl, fun r u hu => by
  simp only [encP, List.mem_cons, List.not_mem_nil, or_false] at hu
  rcases hu with rfl | rfl <;> rfl⟩
theorem elP : El 157 23 2 16 (.agg #[.int .i64 0, .int .i64 0]) := ⟨by kernel_rfl, by kernel_rfl, rfl, by decide, by decide⟩
abbrev encI : Int → List Value := fun p => [.int .i64 p]
theorem enI : En 1 encI := ⟨fun _ => rfl, fun r u hu => by rw [List.mem_singleton.1 hu]; rfl⟩
theorem elI : El 3 27 1 8 (.int .i64 0) := ⟨by kernel_rfl, by kernel_rfl, rfl, by decide, by decide⟩
theorem OW.typed {α : Type} {T : TypeId} {k : Nat} {enc : α → List Value} {B : Nat} {w : World} {v : Value} {R : List α} (h : OW T k enc B w v R) : ∀ b ∈ v.ownBlock.toList, ∃ cs, w.heap[b]? = some (.cells cs T (0, 0)) := fun b hb => h.type (by simpa using hb)
theorem OW.off {α : Type} {T : TypeId} {k : Nat} {enc : α → List Value} {B : Nat} {w w' : World} {v : Value} {R : List α} (h : OW T k enc B w v R) {F : List Nat} (ht : Turned F w w') (hF : ∀ b ∈ F, ∃ cs U, w.heap[b]? = some (.cells cs U (0, 0)) ∧ U ≠ T) : OW T k enc B w' v R :=
  h.keep ht fun g hg hm => by
    obtain ⟨cs, h1⟩ := h.type hg
    obtain ⟨ds, U, h2, h3⟩ := hF g hm
    exact tyne h2 h1 h3 rfl
/-- A row in the making beside a line. -/
structure LR {α : Type} (T : TypeId) (k : Nat) (enc : α → List Value) (w0 w : World) (lb : Nat) (f : Bs) (s : Ln) (v : Value) (R : List α) : Prop where
  ls : LS w0 w lb f s
  row : OW T k enc w0.heap.size w v R
theorem LS.line {w0 w : World} {lb : Nat} {f : Bs} {s : Ln} (h : LS w0 w lb f s) : ∀ b ∈ [lb], ∃ cs, w.heap[b]? = some (.cells cs 152 (0, 0)) := fun b hb => by
  rw [List.mem_singleton.1 hb]; exact h.at_.type
section
variable {α : Type} {T : TypeId} {k : Nat} {enc : α → List Value} {w0 w w1 : World} {lb : Nat} {f : Bs} {s t : Ln} {v : Value} {R : List α}
theorem LR.line (h : LR T k enc w0 w lb f s v R) (hT : T ≠ 152) (h1 : LS w w1 lb f t) : LR T k enc w0 w1 lb f t v R :=
  ⟨⟨h.ls.tu.trans h1.tu, h1.at_⟩, h.row.off h1.tu fun b hb => by obtain ⟨cs, h2⟩ := h.ls.line b hb; exact ⟨cs, _, h2, hT.symm⟩⟩
theorem LR.push (h : LR T k enc w0 w lb f s v R) (hT : T ≠ 152) (hS : T ≠ 9) {w2 : World} {u : Value} {M : List α} (hw : Turned [] w w1) (h1 : OW T k enc w0.heap.size w2 u (R ++ M)) (h2 : Turned v.ownBlock.toList w1 w2) : LR T k enc w0 w2 lb f s u (R ++ M) :=
  ⟨⟨h.ls.tu.inner ((hw.mono (m := v.ownBlock.toList) (by simp)).trans h2) (fun x hx => by
      right
      exact (h.row.fresh (by simpa using hx)).1), h.ls.at_.still hw |>.off h2 fun b hb => by obtain ⟨cs, h3⟩ := (h.row.still hw).typed b hb; exact ⟨cs, _, h3, hT, hS⟩⟩, h1⟩
end
end Go.Proofs.YtbnpdfakniebnaaGreatDoor

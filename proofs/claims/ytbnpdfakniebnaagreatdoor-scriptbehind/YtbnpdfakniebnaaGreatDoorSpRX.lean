/-
  The reader in memory beside the line that it reads. (By the verifier; no statement.)
-/
import Derived.Test.YtbnpdfakniebnaaGreatDoorSpRd
import Derived.Test.YtbnpdfakniebnaaGreatDoorSpDeed
namespace Go.Proofs.YtbnpdfakniebnaaGreatDoor
open Go.RowKit
structure RG where
  m : RM
  S : List (Int × Int)
  T : List Int
  H : List Int
  W : List (List Cl)
  D : List Cl
  mb : Nat
  F : Bs → Option Nat
/-- The reader's block holds cs, its rows are g's, the line is s. -/
structure RX (W0 w : World) (rb lb : Nat) (f : Bs) (cs : Array Value) (g : RG) (s : Ln) : Prop where
  tu : Turned [rb] W0 w
  blk : w.heap[rb]? = some (.cells cs 96 (0, 0))
  rp : RP W0.heap.size w g.m g.S g.T g.H g.W g.D
  map : DM w g.mb g.F
  ln : LnAt w lb f s
  ge : W0.heap.size ≤ lb
  tab : TabC W0 ∧ rb ≠ 1 ∧ rb ≠ 4
abbrev rdCells (r : RS) (m : RM) (mb : Nat) : Array Value := #[.int .i64 r.parts, .int .i64 r.workers, .int .i64 r.slots, .int .i64 r.leases, m.vs, .int .i64 r.fails, m.vw, m.vt, m.vh, .int .i64 r.til, .map (some mb), .bool r.wants, .bool r.stood, .int .i64 r.times, m.vb]
abbrev RS.rg (r : RS) (m : RM) (mb : Nat) : RG := ⟨m, r.source, r.turns, r.halt, r.work, r.body, mb, deedF r.tag⟩
/-- The reader's state is r. -/
abbrev RL (W0 w : World) (rb lb : Nat) (f : Bs) (r : RS) (m : RM) (mb : Nat) (s : Ln) : Prop := RX W0 w rb lb f (rdCells r m mb) (r.rg m mb) s
theorem GM.not_cells {κ ν : Type} [DecidableEq κ] {ek : κ → Value} {ev : ν → Value} {w : World} {b c : Nat} {f : κ → Option ν} {cs : Array Value} {T : TypeId} {fr : Nat × Nat} (h : GM ek ev w b f) (hc : w.heap[c]? = some (.cells cs T fr)) : b ≠ c := fun e => by
  obtain ⟨es, cl, ps, h1, _⟩ := h.ex
  subst e
  rw [h1] at hc
  cases hc
section
variable {W0 w w1 : World} {rb lb : Nat} {f : Bs} {cs : Array Value} {g : RG} {s t : Ln}
theorem RX.at (h : RX W0 w rb lb f cs g s) (i : Nat) (v : Value) (hv : cs[i]? = some v) : rb < w.heap.size ∧ w.cell? ⟨rb, i, none⟩ = some v ∧ w.frozen? ⟨rb, i, none⟩ = false :=
  ⟨lt_of_heap h.blk, (cell_at h.blk i).trans hv, froz_at h.blk i⟩
theorem RX.tabc (h : RX W0 w rb lb f cs g s) : TabC w := h.tab.1.keep h.tu (by rw [List.mem_singleton]; exact h.tab.2.1.symm)
theorem RX.line (h : RX W0 w rb lb f cs g s) (h1 : LS w w1 lb f t) : RX W0 w1 rb lb f cs g t := by
  obtain ⟨ls, hl⟩ := h.ln.type
  have hF : ∀ b ∈ [lb], ∃ cs, w.heap[b]? = some (.cells cs 152 (0, 0)) := fun b hb => by rw [List.mem_singleton.1 hb]; exact ⟨ls, hl⟩
  refine ⟨h.tu.inner h1.tu fun x hx => .inr (by rw [List.mem_singleton.1 hx]; exact h.ge), h1.tu.heap h.blk ?_, h.rp.off h1.tu fun b hb => ?_, GM.keep h.map h1.tu ?_, h1.at_, h.ge, h.tab⟩
  · rw [List.mem_singleton]; exact tyne h.blk hl (by decide)
  · obtain ⟨cs, h2⟩ := hF b hb
    exact ⟨cs, _, h2, by decide⟩
  · rw [List.mem_singleton]; exact GM.not_cells h.map hl
theorem RX.set (h : RX W0 w rb lb f cs g s) (i : Nat) (x : Value) : RX W0 (w.setCell ⟨rb, i, none⟩ x) rb lb f (cs.setIfInBounds i x) g s := by
  have ht : Turned [rb] w (w.setCell ⟨rb, i, none⟩ x) := (Turned.refl _ _).set (by simp) _ _
  have hF : ∀ b ∈ [rb], ∃ cs, w.heap[b]? = some (.cells cs 96 (0, 0)) := fun b hb => by rw [List.mem_singleton.1 hb]; exact ⟨cs, h.blk⟩
  refine ⟨h.tu.set (.inl (by simp)) _ _, blk_set h.blk i x, h.rp.off ht fun b hb => ?_, GM.keep h.map ht ?_, h.ln.off ht fun b hb => ?_, h.ge, h.tab⟩
  · obtain ⟨cs, h2⟩ := hF b hb
    exact ⟨cs, _, h2, by decide⟩
  · rw [List.mem_singleton]; exact GM.not_cells h.map h.blk
  · obtain ⟨cs, h2⟩ := hF b hb
    exact ⟨cs, _, h2, by decide, by decide⟩
theorem RX.still (h : RX W0 w rb lb f cs g s) (h1 : Turned [] w w1) : RX W0 w1 rb lb f cs g s :=
  ⟨h.tu.inner h1 (by simp), h1.heap h.blk (by simp), h.rp.still h1, GM.keep h.map h1 (by simp), h.ln.still h1, h.ge, h.tab⟩
/-- Another map. -/
theorem RX.deeds (h : RX W0 w rb lb f cs g s) (h1 : Turned [] w w1) {mb : Nat} {F : Bs → Option Nat} (hm : DM w1 mb F) (_hb : w.heap.size ≤ mb) : RX W0 w1 rb lb f cs { g with mb := mb, F := F } s :=
  have h2 := h.still h1
  ⟨h2.tu, h2.blk, h2.rp, hm, h2.ln, h.ge, h.tab⟩
/-- Rows turn. -/
theorem RX.rows (h : RX W0 w rb lb f cs g s) {X : List Nat} (ht : Turned X w w1) (hX : ∀ b ∈ X, W0.heap.size ≤ b ∧ ∃ cs U, w.heap[b]? = some (.cells cs U (0, 0)) ∧ U ≠ 96 ∧ U ≠ 152 ∧ U ≠ 9)
    {m : RM} {S : List (Int × Int)} {T H : List Int} {W : List (List Cl)} {D : List Cl} (hr : RP W0.heap.size w1 m S T H W D) : RX W0 w1 rb lb f cs { g with m := m, S := S, T := T, H := H, W := W, D := D } s := by
  refine ⟨h.tu.inner ht fun x hx => .inr (hX x hx).1, ht.heap h.blk ?_, hr, GM.keep h.map ht ?_, h.ln.off ht fun b hb => ?_, h.ge, h.tab⟩
  · intro hm
    obtain ⟨-, c2, U, h2, h3, -⟩ := hX _ hm
    exact tyne h2 h.blk h3 rfl
  · intro hm
    obtain ⟨-, c2, U, h2, -⟩ := hX _ hm
    exact GM.not_cells h.map h2 rfl
  · obtain ⟨-, c2, U, h2, -, h3⟩ := hX b hb
    exact ⟨c2, U, h2, h3⟩
theorem OW.rowX {α : Type} {T : TypeId} {k : Nat} {enc : α → List Value} {B : Nat} {w : World} {v : Value} {R : List α} (h : OW T k enc B w v R) (hT : T ≠ 96 ∧ T ≠ 152 ∧ T ≠ 9) : ∀ b ∈ ownL v, B ≤ b ∧ ∃ cs U, w.heap[b]? = some (.cells cs U (0, 0)) ∧ U ≠ 96 ∧ U ≠ 152 ∧ U ≠ 9 := fun b hb => by
  obtain ⟨cs, h2⟩ := h.typed b hb
  exact ⟨h.own_ge b hb, cs, T, h2, hT⟩
end
/-- What was read keeps the limits. -/
structure RS.Ok (r : RS) : Prop where
  src : r.source.length ≤ 256
  trn : r.turns.length ≤ 20000
  hlt : r.halt.length ≤ 20000
  wrk : r.work.length ≤ 8
  row : ∀ l ∈ r.work, l.length ≤ 64
  bdy : r.body.length ≤ 64
  tm : 0 ≤ r.times ∧ r.times ≤ 64
  bps : ∀ c ∈ r.body, c.ps.length ≤ 1000000000
  tg : r.tag ≠ 0 → r.tag ≠ 1 → r.work ≠ []
end Go.Proofs.YtbnpdfakniebnaaGreatDoor

/- A law's state of two chains over one pool: what stays beside it, what each call makes of it. -/
import Derived.Test.YtaaibhgbkdnlbaaJ21
import Derived.Test.YtaaibhgbkdnlbaaJ03
namespace Go.Proofs.Ytaaibhgbkdnlbaa
open Go.RowKit
def tameT : List TypeId := [42, 3, 45, 39, 52]
/-- Blocks of a law's own types stay. -/
structure Keeps (x x' : World) : Prop where
  size : x.heap.size ≤ x'.heap.size
  blk : ∀ (g : Nat) (cs : Array Value) (T : TypeId), T ∈ tameT → x.heap[g]? = some (.cells cs T (0, 0)) → x'.heap[g]? = some (.cells cs T (0, 0))
theorem Keeps.trans {x y z : World} (h : Keeps x y) (k : Keeps y z) : Keeps x z := ⟨Nat.le_trans h.size k.size, fun g cs T hT hg => k.blk g cs T hT (h.blk g cs T hT hg)⟩
theorem Keeps.of {x y : World} (h : Turned [] x y) : Keeps x y := ⟨h.size, fun _ _ _ _ hg => h.heap hg (by simp)⟩
theorem IR.kept {B : Nat} {w w' : World} {v : Value} {l : List Int} (h : IR B w v l) (hk : Keeps w w') : IR B w' v l := by
  refine ⟨h.own.1, ?_⟩
  rcases h.own.2 with h0 | ⟨g, c, cs, rfl, hb, hg, h3⟩
  · exact .inl h0
  · exact .inr ⟨g, c, cs, rfl, hb, hk.blk _ _ _ (by decide) hg, h3⟩
section
variable {x x' : World} {nl p kb lb cp c sb it : Nat} {E : Nat → Nat} {F F' : List Nat} {s : PSt} {St : List Nat} {now head : Int} {S S' : Nat → Option SRec} {L : List Ver}
/-- A row of numbers that is no set's is written. -/
theorem CS.beside (h : CS x nl p kb lb cp E c sb F s St it now head S L) {g : Nat} {cs : Array Value} (hg : x.heap[g]? = some (.cells cs 3 (0, 0))) (hS : g ∉ setB S s.n) (ht : Turned [g] x x') : CS x' nl p kb lb cp E c sb F s St it now head S L := by
  obtain ⟨cur, hcur, -⟩ := h.ck.row
  have d : ∀ {b : Nat} {y : Array Value} {T : TypeId}, x.heap[b]? = some (.cells y T (0, 0)) → T ≠ 3 → b ∉ [g] := fun hb hT hm => by
    simp at hm; subst hm; exact other_type hb hg hT rfl
  refine ⟨⟨poolLaws.keep h.ca.pool ht (fun y hy hm => ?_), ht.heap h.ca.clk (d h.ca.clk (by decide)), ht.heap h.ca.obj (d h.ca.obj (by decide)), h.ca.sets.keep ht (d h.ca.sets.row (by decide)) (fun y hy => by simp at hy; subst hy; exact hS)⟩, h.ck.keep ht (d h.ck.obj (by decide)) (d hcur (by decide)) (fun k hk => d (h.ck.lease k hk) (by decide)), h.nE, h.pv, h.fa, h.vs, h.nd, h.room, h.own, h.pos⟩
  simp at hy; subst hy
  exact poolAt_other h.ca.pool hg (by decide) hm
end
theorem setB_none (n : Nat) : ∀ z, z ∉ setB (fun _ => none) n := fun z hz => by
  obtain ⟨k, r, -, h, -⟩ := setB_mem hz
  cases h
/-- Two chains over one pool, as a law holds them: the blocks N are no set's. -/
structure LYx (W x : World) (m n p kb c c2 used it : Nat) (now : Int) (G : Int → List Int) (L : List Ver) (N : List Nat) (lb cp : Nat) (E : Nat → Nat) (sb sb2 : Nat) (F : List Nat) (s : PSt) (St : List Nat) (it0 : Nat) (head : Int) (S : Nat → Option SRec) : Prop where
  cs : CS x m p kb lb cp E c sb F s St it0 now head S L
  oc : m = 1 → x.heap[c2]? = some (chainObj p kb 0 sb2 s.n)
  os : m = 1 → SetsAt x sb2 s.n (fun _ => none)
  nc : m = 1 → c2 ≠ c
  ns : m = 1 → sb2 ≠ sb
  tw : Turned [] W x
  low : ∀ z, (z = c ∨ z = sb ∨ z ∈ F) → W.heap.size ≤ z
  lowk : W.heap.size ≤ kb ∧ W.heap.size ≤ E 0
  lowS : ∀ k r, k ≤ s.n → S k = some r → W.heap.size ≤ r.g
  n_ : s.n = n
  used_ : used + St.length = n
  it_ : it0 ≤ it
  G_ : ∀ v ∈ L, setOf S v = G v.h
  out : ∀ g, g ∈ N → g < x.heap.size ∧ g ∉ setB S n
structure LY (W x : World) (m n p kb c c2 used it : Nat) (now : Int) (G : Int → List Int) (L : List Ver) (N : List Nat) : Prop where
  ex : ∃ lb cp E sb sb2 F s St it0 head S, LYx W x m n p kb c c2 used it now G L N lb cp E sb sb2 F s St it0 head S
section
variable {W x x' : World} {m n p kb c c2 used it used' it' : Nat} {now now' : Int} {G G' : Int → List Int} {L L' : List Ver} {N N' : List Nat} {lb cp : Nat} {E : Nat → Nat} {sb sb2 : Nat} {F F' : List Nat} {s s' : PSt} {St St' : List Nat} {it0 it1 : Nat} {head head' : Int} {S S' : Nat → Option SRec}
theorem LYx.off (h : LYx W x m n p kb c c2 used it now G L N lb cp E sb sb2 F s St it0 head S) {M : List Nat} (hM : ∀ z, z ∈ M → z = c ∨ z = sb ∨ z ∈ F) : m = 1 → c2 ∉ M ∧ sb2 ∉ M := by
  intro h1
  have hoc := h.oc h1
  have hos := h.os h1
  refine ⟨fun hm => ?_, fun hm => ?_⟩
  · rcases hM _ hm with e | e | e
    · exact h.nc h1 e
    · exact other_type hoc (e ▸ h.cs.ca.sets.row) (by decide) rfl
    · exact poolAt_other h.cs.ca.pool hoc (by decide) e
  · rcases hM _ hm with e | e | e
    · exact other_type hos.row (e ▸ h.cs.ca.obj) (by decide) rfl
    · exact h.ns h1 e
    · exact poolAt_other h.cs.ca.pool hos.row (by decide) e
theorem LYx.next (h : LYx W x m n p kb c c2 used it now G L N lb cp E sb sb2 F s St it0 head S) {M : List Nat} (ht : Turned M x x') (hM : ∀ z, z ∈ M → z = c ∨ z = sb ∨ z ∈ F)
    (hC : CS x' m p kb lb cp E c sb F' s' St' it1 now' head' S' L') (hW : Wider F F' x) (hn : s'.n = s.n) (hu : used' + St'.length = n) (hi : it1 ≤ it') (hS : ∀ k r, S' k = some r → S k = some r ∨ (x.heap.size ≤ r.b ∧ x.heap.size ≤ r.g)) (hG : ∀ v ∈ L', setOf S' v = G' v.h) (hN : ∀ g, g ∈ N' → g < x'.heap.size ∧ g ∉ setB S' n) :
    LYx W x' m n p kb c c2 used' it' now' G' L' N' lb cp E sb sb2 F' s' St' it1 head' S' := by
  have o := h.off hM
  refine ⟨hC, fun h1 => by rw [hn]; exact ht.heap (h.oc h1) (o h1).1, fun h1 => by rw [hn]; exact (h.os h1).keep ht (o h1).2 (fun z _ => setB_none _ z), h.nc, h.ns, h.tw.inner ht (fun z hz => .inr (h.low z (hM z hz))), fun z hz => ?_, h.lowk, fun k r hk hr => ?_, hn.trans h.n_, hu, hi, hG, hN⟩
  · rcases hz with e | e | e
    · exact h.low z (.inl e)
    · exact h.low z (.inr (.inl e))
    · rcases hW z e with e | e
      · exact h.low z (.inr (.inr e))
      · have := h.tw.size; omega
  · rcases hS k r hr with e | e
    · exact h.lowS k r (by rw [← hn]; exact hk) e
    · have := h.tw.size; omega
theorem LYx.keeps (h : LYx W x m n p kb c c2 used it now G L N lb cp E sb sb2 F s St it0 head S) {M : List Nat} (ht : Turned M x x') (hM : ∀ z, z ∈ M → z = c ∨ z = sb ∨ z ∈ F) : Keeps x x' := by
  refine ⟨ht.size, fun g cs T hT hg => ht.heap hg (fun hm => ?_)⟩
  have hT' : T = 42 ∨ T = 3 ∨ T = 45 ∨ T = 39 ∨ T = 52 := by simpa [tameT] using hT
  rcases hM _ hm with e | e | e
  · subst e; exact other_type hg h.cs.ca.obj (by rcases hT' with rfl | rfl | rfl | rfl | rfl <;> decide) rfl
  · subst e; exact other_type hg h.cs.ca.sets.row (by rcases hT' with rfl | rfl | rfl | rfl | rfl <;> decide) rfl
  · exact poolAt_other h.cs.ca.pool hg (by rcases hT' with rfl | rfl | rfl | rfl | rfl <;> decide) e
/-- Nothing but the pool's own turned. -/
theorem LYx.same (h : LYx W x m n p kb c c2 used it now G L N lb cp E sb sb2 F s St it0 head S) (ht : Turned F x x') (hC : CS x' m p kb lb cp E c sb F s St it0 now head S L) : Keeps x x' ∧ LY W x' m n p kb c c2 used it now G L N := by
  have hM : ∀ z, z ∈ F → z = c ∨ z = sb ∨ z ∈ F := fun z hz => .inr (.inr hz)
  exact ⟨h.keeps ht hM, _, _, _, _, _, _, _, _, _, _, _, h.next ht hM hC (fun z hz => .inl hz) rfl h.used_ h.it_ (fun _ _ hr => .inl hr) h.G_ (fun g hg => ⟨Nat.lt_of_lt_of_le (h.out g hg).1 ht.size, (h.out g hg).2⟩)⟩
theorem LY.still (h : LY W x m n p kb c c2 used it now G L N) (ht : Turned [] x x') : LY W x' m n p kb c c2 used it now G L N := by
  obtain ⟨_, _, _, _, _, F, _, _, _, _, _, h⟩ := h.ex
  exact (h.same (ht.mono (by simp)) (h.cs.still ht)).2
theorem LY.turned (h : LY W x m n p kb c c2 used it now G L N) : Turned [] W x := by
  obtain ⟨_, _, _, _, _, F, _, _, _, _, _, h⟩ := h.ex
  exact h.tw
theorem LY.weak (h : LY W x m n p kb c c2 used it now G L N) (hN : ∀ g, g ∈ N' → g ∈ N) (hi : it ≤ it') : LY W x m n p kb c c2 used it' now G L N' := by
  obtain ⟨_, _, _, _, _, F, _, _, _, _, _, h⟩ := h.ex
  exact ⟨_, _, _, _, _, _, _, _, _, _, _, ⟨h.cs, h.oc, h.os, h.nc, h.ns, h.tw, h.low, h.lowk, h.lowS, h.n_, h.used_, Nat.le_trans h.it_ hi, h.G_, fun g hg => h.out g (hN g hg)⟩⟩
/-- A new block is no set's. -/
theorem LY.fresh (h : LY W x m n p kb c c2 used it now G L N) (ht : Turned [] x x') (hN : ∀ g, g ∈ N' → x.heap.size ≤ g ∧ g < x'.heap.size) : LY W x' m n p kb c c2 used it now G L N' := by
  obtain ⟨_, _, _, _, _, F, _, _, _, _, _, h⟩ := h.ex
  have h' := h.next (N' := N') (G' := G) (ht.mono (m := F) (by simp)) (fun z hz => .inr (.inr hz)) (h.cs.still ht) (fun z hz => .inl hz) rfl h.used_ h.it_ (fun _ _ hr => .inl hr) h.G_ (fun g hg => ⟨(hN g hg).2, fun hm => by
    have := h.cs.ca.sets.lt g (by rw [h.n_]; exact hm)
    have := (hN g hg).1
    omega⟩)
  exact ⟨_, _, _, _, _, _, _, _, _, _, _, h'⟩
/-- A row of numbers that is no set's is written. -/
theorem LY.write (h : LY W x m n p kb c c2 used it now G L N) {g : Nat} {cs : Array Value} (hN : g ∈ N) (hg : x.heap[g]? = some (.cells cs 3 (0, 0))) (hw : W.heap.size ≤ g) (ht : Turned [g] x x') : LY W x' m n p kb c c2 used it now G L N := by
  obtain ⟨_, _, _, _, _, F, s, _, _, _, S, h⟩ := h.ex
  have hS := (h.out g hN).2
  rw [← h.n_] at hS
  have hC := h.cs.beside hg hS ht
  have d : ∀ {b : Nat} {y : Array Value} {T : TypeId}, x.heap[b]? = some (.cells y T (0, 0)) → T ≠ 3 → b ∉ [g] := fun hb hT hm => by
    simp at hm; subst hm; exact other_type hb hg hT rfl
  exact ⟨_, _, _, _, _, _, _, _, _, _, _, ⟨hC, fun h1 => ht.heap (h.oc h1) (d (h.oc h1) (by decide)), fun h1 => (h.os h1).keep ht (d (h.os h1).row (by decide)) (fun z _ => setB_none _ z), h.nc, h.ns, h.tw.inner ht (fun z hz => by simp at hz; subst hz; exact .inr hw), h.low, h.lowk, h.lowS, h.n_, h.used_, h.it_, h.G_, fun g hg => ⟨Nat.lt_of_lt_of_le (h.out g hg).1 ht.size, (h.out g hg).2⟩⟩⟩
theorem yTop {v : Ver} (h : LY W x m n p kb c c2 used it now G (v :: L) N) :
    Calls Try.prog 8 #[pp c, .pointer none] x fun e x' => e = .returned (.tuple #[.int .i64 v.h, .int .i64 v.st, .int .i64 0]) ∧ Keeps x x' ∧ LY W x' m n p kb c c2 used it now G (v :: L) N := by
  obtain ⟨_, _, _, _, _, F, _, _, _, _, _, h⟩ := h.ex
  refine (kTop h.cs).mono ?_
  rintro e x' ⟨rfl, ht, hC⟩
  exact ⟨rfl, h.same ht hC⟩
theorem yAt {v : Ver} (h : LY W x m n p kb c c2 used it now G (v :: L) N) (t : Int) :
    Calls Try.prog 9 #[pp c, .pointer none, .int .i64 t] x fun e x' => e = .returned (atE (atV (v :: L) t)) ∧ Keeps x x' ∧ LY W x' m n p kb c c2 used it now G (v :: L) N := by
  obtain ⟨_, _, _, _, _, F, _, _, _, _, _, h⟩ := h.ex
  refine (kAt h.cs t).mono ?_
  rintro e x' ⟨rfl, ht, hC⟩
  exact ⟨rfl, h.same ht hC⟩
theorem yVersions (h : LY W x m n p kb c c2 used it now G L N) :
    Calls Try.prog 16 #[pp c] x fun e x' => ∃ v, e = .returned v ∧ IR x.heap.size x' v (L.map (·.h)) ∧ Keeps x x' ∧ LY W x' m n p kb c c2 used it now G L N := by
  obtain ⟨_, _, _, _, _, F, _, _, _, _, _, h⟩ := h.ex
  refine (kVersions h.cs).mono ?_
  rintro e x' ⟨v, rfl, hv, ht, hC⟩
  exact ⟨v, rfl, hv, h.same ht hC⟩
/-- The other chain holds none. -/
theorem yOther (h : LY W x 1 n p kb c c2 used it now G L N) :
    Calls Try.prog 16 #[pp c2] x fun e x' => (∃ a cc, e = .returned (.slice a 0 cc)) ∧ Keeps x x' ∧ LY W x' 1 n p kb c c2 used it now G L N := by
  obtain ⟨_, _, _, _, _, F, _, _, _, _, _, h⟩ := h.ex
  refine (cVersions (L := []) ⟨h.cs.ca.pool, h.cs.ca.clk, h.oc rfl, h.os rfl⟩ h.cs.pv.ok rfl (Nat.zero_le _)).mono ?_
  rintro e x' ⟨v, rfl, hv, ht, hA⟩
  obtain ⟨a, cc, rfl⟩ := hv.form
  exact ⟨⟨a, cc, rfl⟩, h.same ht (h.cs.same ht (h.cs.ca.step ht hA.pool rfl))⟩
theorem ySet (h : LY W x m n p kb c c2 used it now G L N) {v : Ver} (hv : v ∈ L) (hl : (G v.h).length ≤ 10000) :
    Calls Try.prog 19 #[pp c, .int .i64 v.h] x fun e x' => ∃ u, e = .returned u ∧ IR x.heap.size x' u (G v.h) ∧ Keeps x x' ∧ LY W x' m n p kb c c2 used it now G L N := by
  obtain ⟨_, _, _, _, _, F, _, _, _, _, _, h⟩ := h.ex
  have := kSet h.cs hv (by rw [h.G_ v hv]; exact hl)
  rw [h.G_ v hv] at this
  refine this.mono ?_
  rintro e x' ⟨u, rfl, hu, ht, hC⟩
  exact ⟨u, rfl, hu, h.same ht hC⟩
theorem yRead (h : LY W x m n p kb c c2 used it now G L N) {v : Ver} (hv : v ∈ L) :
    Calls Try.prog 18 #[pp p, .pointer none, .int .i64 v.h] x fun e x' => ∃ nb nc nd, e = .returned (.tuple #[.agg #[.int .i64 v.a, .int .i64 nb, .int .i64 nc, .int .i64 nd], .int .i64 0]) ∧ Keeps x x' ∧ LY W x' m n p kb c c2 used it now G L N := by
  obtain ⟨_, _, _, _, _, F, _, _, _, _, _, h⟩ := h.ex
  refine (kRead h.cs hv).mono ?_
  rintro e x' ⟨nb, nc, nd, rfl, ht, hC⟩
  exact ⟨nb, nc, nd, rfl, h.same ht hC⟩
theorem yFree (h : LY W x m n p kb c c2 used it now G L N) :
    Calls Try.prog 17 #[pp p] x fun e x' => (∃ a cc, e = .returned (.slice a (n - used) cc)) ∧ Keeps x x' ∧ LY W x' m n p kb c c2 used it now G L N := by
  obtain ⟨_, _, _, _, _, F, _, St, _, _, _, h⟩ := h.ex
  refine (kFree h.cs).mono ?_
  rintro e x' ⟨he, ht, hC⟩
  have hu := h.used_
  rw [show St.length = n - used by omega] at he
  exact ⟨he, h.same ht hC⟩
theorem yFaults (h : LY W x m n p kb c c2 used it now G L N) :
    Calls Try.prog 20 #[pp p] x fun e x' => e = .returned (.int .i64 0) ∧ Turned [] W x' := by
  obtain ⟨_, _, _, _, _, F, _, St, _, _, _, h⟩ := h.ex
  refine (kFaults h.cs).mono ?_
  rintro e x' ⟨rfl, ht⟩
  exact ⟨rfl, h.tw.inner ht (fun z hz => .inr (h.low z (.inr (.inr hz))))⟩
theorem yPushFull (h : LY W x m n p kb c c2 n it now G L N) {v : Value} {B : Nat} {l : List Int} (hv : IR B x v l) (old xa xb xc xd : Int) :
    Calls Try.prog 11 #[pp c, .pointer none, .int .i64 old, .agg #[.int .i64 xa, .int .i64 xb, .int .i64 xc, .int .i64 xd], v] x fun e x' => e = .returned (.tuple #[.int .i64 0, .bool false, .int .i64 102]) ∧ Keeps x x' ∧ LY W x' m n p kb c c2 n it now G L N := by
  obtain ⟨_, _, _, _, _, F, _, St, _, _, _, h⟩ := h.ex
  have hu := h.used_
  obtain rfl : St = [] := List.length_eq_zero_iff.1 (by omega)
  obtain ⟨a, cc, hf⟩ := hv.form
  refine (kPushFull h.cs ⟨a, _, cc, hf⟩ old xa xb xc xd).mono ?_
  rintro e x' ⟨rfl, ht, hC⟩
  exact ⟨rfl, h.same ht hC⟩
theorem IR.offPool {B : Nat} {v : Value} {l : List Int} (hv : IR B x v l) (hp : PoolAt x p F s) : ∀ b, v.ownBlock = some b → b ∉ F := fun b hb => by
  obtain ⟨cs, hc⟩ := hv.type hb
  exact poolAt_other hp hc (by decide)
theorem yPushOk {u : Ver} (h : LY W x m n p kb c c2 used it now G (u :: L) N) (hlt : used < n) (hf : it + 1 ≤ 1000000) {v : Value} {B : Nat} {l : List Int} (hv : IR B x v l) (hl : l.length ≤ 10000) (xa xb xc xd : Int) :
    Calls Try.prog 11 #[pp c, .pointer none, .int .i64 u.h, .agg #[.int .i64 xa, .int .i64 xb, .int .i64 xc, .int .i64 xd], v] x fun e x' => ∃ h', ¬ h' = 0 ∧ (∀ z ∈ u :: L, z.h ≠ h') ∧ e = .returned (.tuple #[.int .i64 h', .bool true, .int .i64 0]) ∧ Keeps x x' ∧ LY W x' m n p kb c c2 (used + 1) (it + 1) now (fun k => if k = h' then l else G k) (⟨h', xa, now⟩ :: u :: L) N := by
  obtain ⟨_, _, _, sb, _, F, s, St, it0, head, S, h⟩ := h.ex
  have hu := h.used_
  obtain ⟨i, St, rfl⟩ : ∃ i St', St = i :: St' := by
    cases St with
    | nil => simp at hu; omega
    | cons i t => exact ⟨i, t, rfl⟩
  have hcs := h.cs
  obtain ⟨j, -, hh, -⟩ := hcs.vs
  rw [← hh] at hcs
  have hit := h.it_
  refine (kPushOk hcs (by omega) hv.view (hv.offPool h.cs.ca.pool) hl xa xb xc xd).mono ?_
  rintro e x' ⟨rfl, ht, F', s', S', hC, hW, hn, hs1, hs2, hs3⟩
  have hno := hC.nd
  simp only [List.map_cons, List.nodup_cons] at hno
  have hne : ∀ z ∈ u :: L, z.h ≠ hnd i ((s.slot i).gen + 1) := fun z hz e => hno.1 (by rw [← e]; simpa using List.mem_map.2 ⟨z, hz, rfl⟩)
  have hM : ∀ z, z ∈ c :: sb :: F → z = c ∨ z = sb ∨ z ∈ F := fun z hz => by simpa using hz
  refine ⟨_, ?_, hne, rfl, h.keeps ht hM, _, _, _, _, _, _, _, _, _, _, _, h.next ht hM hC hW hn (by simp at hu; omega) (by omega) hs3 (fun z hz => ?_) (fun g hg => ⟨Nat.lt_of_lt_of_le (h.out g hg).1 ht.size, fun hm => ?_⟩)⟩
  · obtain ⟨k, hk, -⟩ := hC.vs
    exact hk.nz
  · simp only [List.mem_cons] at hz
    rcases hz with rfl | hz
    · simp only [if_pos]; exact hs1
    · have hz' : z ∈ u :: L := by simpa using hz
      show setOf S' z = if _ then _ else _
      rw [if_neg (hne z hz'), hs2 z hz', h.G_ z hz']
  · obtain ⟨k, r, hk, hr, e⟩ := setB_mem hm
    have o := h.out g hg
    rcases hs3 k r hr with e1 | e1
    · have := mem_setB hk e1
      rcases e with e | e
      · exact o.2 (e ▸ this.1)
      · exact o.2 (e ▸ this.2)
    · rcases e with e | e <;> omega
theorem yPushNot {u : Ver} (h : LY W x m n p kb c c2 used it now G (u :: L) N) (hlt : used < n) (hf : it + 2 ≤ 1000000) {v : Value} {B : Nat} {l : List Int} (hv : IR B x v l) (hl : l.length ≤ 10000) {old : Int} (hne : ¬ u.h = old) (xa xb xc xd : Int) :
    Calls Try.prog 11 #[pp c, .pointer none, .int .i64 old, .agg #[.int .i64 xa, .int .i64 xb, .int .i64 xc, .int .i64 xd], v] x fun e x' => e = .returned (.tuple #[.int .i64 0, .bool false, .int .i64 0]) ∧ Keeps x x' ∧ LY W x' m n p kb c c2 used (it + 2) now G (u :: L) N := by
  obtain ⟨_, _, _, sb, _, F, s, St, it0, head, S, h⟩ := h.ex
  have hu := h.used_
  obtain ⟨i, St, rfl⟩ : ∃ i St', St = i :: St' := by
    cases St with
    | nil => simp at hu; omega
    | cons i t => exact ⟨i, t, rfl⟩
  obtain ⟨j, -, hh, -⟩ := h.cs.vs
  have hit := h.it_
  refine (kPushNot h.cs (by omega) hv.view (hv.offPool h.cs.ca.pool) hl (old := old) (by rw [← hh]; exact hne) xa xb xc xd).mono ?_
  rintro e x' ⟨rfl, ht, F', s', hC, hW, hn⟩
  have hM : ∀ z, z ∈ c :: sb :: F → z = c ∨ z = sb ∨ z ∈ F := fun z hz => by simpa using hz
  exact ⟨rfl, h.keeps ht hM, _, _, _, _, _, _, _, _, _, _, _, h.next ht hM hC hW hn hu (by omega) (fun _ _ hr => .inl hr) h.G_ (fun g hg => ⟨Nat.lt_of_lt_of_le (h.out g hg).1 ht.size, (h.out g hg).2⟩)⟩
theorem yCutNone {v : Ver} {pre : List Ver} (h : LY W x m n p kb c c2 used it now G (pre ++ [v]) N) :
    Calls Try.prog 13 #[pp c, .pointer none, .int .i64 v.h] x fun e x' => e = .returned (.tuple #[.int .i64 0, .slice none 0 0, .int .i64 0]) ∧ Keeps x x' ∧ LY W x' m n p kb c c2 used it now G (pre ++ [v]) N := by
  obtain ⟨_, _, _, _, _, F, _, _, _, _, _, h⟩ := h.ex
  refine (kCutNone h.cs).mono ?_
  rintro e x' ⟨rfl, ht, s', hC, hn⟩
  exact ⟨rfl, h.keeps ht (fun z hz => .inr (.inr hz)), _, _, _, _, _, _, _, _, _, _, _, h.next ht (fun z hz => .inr (.inr hz)) hC (fun z hz => .inl hz) hn h.used_ h.it_ (fun _ _ hr => .inl hr) h.G_ (fun g hg => ⟨Nat.lt_of_lt_of_le (h.out g hg).1 ht.size, (h.out g hg).2⟩)⟩
theorem yCut {v z : Ver} {pre post : List Ver} (h : LY W x m n p kb c c2 used it now G (pre ++ v :: z :: post) N) :
    Calls Try.prog 13 #[pp c, .pointer none, .int .i64 v.h] x fun e x' => ∃ u, e = .returned (.tuple #[.int .i64 z.h, u, .int .i64 0]) ∧ (∀ y ∈ pre, y.h ≠ v.h) ∧ IR W.heap.size x' u (G v.h) ∧ Keeps x x' ∧ LY W x' m n p kb c c2 used it now (fun k => if k = v.h then [] else G k) (pre ++ [v]) u.ownBlock.toList := by
  obtain ⟨_, _, _, sb, _, F, s, _, _, _, S, h⟩ := h.ex
  refine (kCut h.cs).mono ?_
  rintro e x' ⟨u, rfl, ht, s', S', hC, hn, hV, hs1, hs2, hs3⟩
  have hM : ∀ z, z ∈ c :: sb :: F → z = c ∨ z = sb ∨ z ∈ F := fun z hz => by simpa using hz
  have hnd := hC.nd
  rw [List.map_append, List.nodup_append] at hnd
  have hne : ∀ y ∈ pre, y.h ≠ v.h := fun y hy e => hnd.2.2 y.h (List.mem_map.2 ⟨y, hy, rfl⟩) v.h (by simp) e
  have hrow := hV.row
  rw [h.G_ v (by simp)] at hrow
  refine ⟨u, rfl, hne, ⟨hrow.own.1, ?_⟩, h.keeps ht hM, _, _, _, _, _, _, _, _, _, _, _, h.next ht hM hC (fun z hz => .inl hz) hn h.used_ h.it_ (fun k r hr => .inl (hs3 k r hr)) (fun y hy => ?_) (fun g hg => ?_)⟩
  · rcases hrow.own.2 with h0 | ⟨g, cc, cs, hv, hb, hg, h3⟩
    · exact .inl h0
    · obtain ⟨-, k, r, hr, hk, e⟩ := hV.out g (by rw [hv]; rfl)
      exact .inr ⟨g, cc, cs, hv, by rw [e]; exact h.lowS k r hk hr, hg, h3⟩
  · simp only [List.mem_append, List.mem_singleton] at hy
    show setOf S' y = if _ then _ else _
    rcases hy with hy | rfl
    · rw [if_neg (hne y hy), hs2 y hy, h.G_ y (by simp [hy])]
    · rw [if_pos rfl, hs1]
  · have hg' : u.ownBlock = some g := by simpa using hg
    obtain ⟨a1, -⟩ := hV.out g hg'
    rw [h.n_] at a1
    exact ⟨(hrow.fresh hg').2, a1⟩
/-- 'now' goes on by one. -/
theorem yTick (h : LY W x 1 n p kb c c2 used it now G L N) (hp : now ≤ 90000) :
    Calls Try.prog 14 #[pp kb, .pointer none] x fun e x1 => e = .returned (.tuple #[.agg #[.int .i64 0, .int .i64 now], .int .i64 0]) ∧ Keeps x x1 ∧ ∀ x2, Turned [] x1 x2 → Calls Try.prog 15 #[pp kb, .pointer none, .int .i64 0] x2 fun e x3 => e = .returned (.int .i64 0) ∧ Keeps x2 x3 ∧ LY W x3 1 n p kb c c2 used it (now + 1) G L N := by
  obtain ⟨lb, cp, E, sb, sb2, F, s, St, it0, head, S, h⟩ := h.ex
  have hpos := h.cs.pos
  have kp : ∀ {y y' : World} {f : Nat → Int} {nw : Int} {M : List Nat}, ClockAt y kb lb 1 cp E nw f → Turned M y y' → (∀ z, z ∈ M → z = kb ∨ z = E 0) → Keeps y y' := fun {y y' f nw M} hk ht hM => by
    refine ⟨ht.size, fun g cs T hT hg => ht.heap hg (fun hm => ?_)⟩
    have hT' : T = 42 ∨ T = 3 ∨ T = 45 ∨ T = 39 ∨ T = 52 := by simpa [tameT] using hT
    rcases hM _ hm with e | e
    · subst e; exact other_type hg hk.obj (by rcases hT' with rfl | rfl | rfl | rfl | rfl <;> decide) rfl
    · subst e; exact other_type hg (hk.lease 0 (by omega)) (by rcases hT' with rfl | rfl | rfl | rfl | rfl <;> decide) rfl
  refine (cTakeAt h.cs.ck (by omega) (by omega) (by omega) 0 (by omega) rfl (by omega)).mono ?_
  rintro e x1 ⟨rfl, hk1, ht1⟩
  refine ⟨rfl, kp h.cs.ck ht1 (fun z hz => by simpa using hz), fun x2 ht2 => ?_⟩
  have hk2 := hk1.still ht2
  refine (cReleaseHeld hk2 0 (by omega) (by rw [upd_same]; omega)).mono ?_
  rintro e x3 ⟨rfl, hk3, ht3⟩
  have ef : upd (upd (fun _ => (0 : Int)) 0 (now + 1)) 0 0 = fun _ => 0 := by funext k; unfold upd; by_cases e : k = 0 <;> simp [e]
  rw [ef] at hk3
  have ht : Turned [kb, E 0] x x3 := (ht1.trans (ht2.mono (by simp))).trans (ht3.mono (by simp))
  have d : ∀ {b : Nat} {y : Array Value} {T : TypeId}, x.heap[b]? = some (.cells y T (0, 0)) → T ≠ 83 → T ≠ 70 → b ∉ [kb, E 0] := fun hb h1 h2 hm => by
    simp only [List.mem_cons, List.not_mem_nil, or_false] at hm
    rcases hm with rfl | rfl
    · exact other_type hb h.cs.ck.obj h1 rfl
    · exact other_type hb (h.cs.ck.lease 0 (by omega)) h2 rfl
  have hC : CS x3 1 p kb lb cp E c sb F s St it0 (now + 1) head S L := ⟨⟨poolLaws.keep h.cs.ca.pool ht (fun y hy hm => by
      simp only [List.mem_cons, List.not_mem_nil, or_false] at hy
      rcases hy with rfl | rfl
      · exact h.cs.ca.nk hm
      · exact h.cs.nE 0 (by omega) hm), hk3.obj, ht.heap h.cs.ca.obj (d h.cs.ca.obj (by decide) (by decide)), h.cs.ca.sets.keep ht (d h.cs.ca.sets.row (by decide) (by decide)) (fun y hy hm => by
      obtain ⟨cs, T, hT, hTT⟩ := h.cs.ca.sets.type hm
      exact d hT (by simp only [List.mem_cons, List.not_mem_nil, or_false] at hTT; rcases hTT with rfl | rfl <;> decide) (by simp only [List.mem_cons, List.not_mem_nil, or_false] at hTT; rcases hTT with rfl | rfl <;> decide) hy)⟩, hk3, h.cs.nE, h.cs.pv, h.cs.fa, h.cs.vs, h.cs.nd, h.cs.room, h.cs.own, by omega⟩
  exact ⟨rfl, kp hk2 ht3 (fun z hz => by simp at hz; exact .inr hz), lb, cp, E, sb, sb2, F, s, St, it0, head, S, ⟨hC, fun h1 => ht.heap (h.oc h1) (d (h.oc h1) (by decide) (by decide)), fun h1 => (h.os h1).keep ht (d (h.os h1).row (by decide) (by decide)) (fun z _ => setB_none _ z), h.nc, h.ns, h.tw.inner ht (fun z hz => by
    simp only [List.mem_cons, List.not_mem_nil, or_false] at hz
    rcases hz with rfl | rfl
    · exact .inr h.lowk.1
    · exact .inr h.lowk.2), h.low, h.lowk, h.lowS, h.n_, h.used_, h.it_, h.G_, fun g hg => ⟨Nat.lt_of_lt_of_le (h.out g hg).1 ht.size, (h.out g hg).2⟩⟩⟩
end
end Go.Proofs.Ytaaibhgbkdnlbaa
/- A law's rows of versions. -/
namespace Go.Proofs.Ytaaibhgbkdnlbaa
open Go.RowKit
structure VRow where
  v : Ver
  u : Value
def rowC (r : VRow) : List Value := [.int .i64 r.v.h, .int .i64 r.v.a, .int .i64 r.v.st, r.u]
theorem rows_len (R : List VRow) : (R.flatMap rowC).length = R.length * 4 := by
  induction R with
  | nil => rfl
  | cons x l ih => rw [List.flatMap_cons, List.length_append, ih, List.length_cons]; simp only [rowC, List.length_cons, List.length_nil]; omega
/-- The slice v is the rows R, in memory of its own from B on. -/
structure VR (B : Nat) (w : World) (v : Value) (R : List VRow) : Prop where
  own : w.ownsRow B 42 4 v R.length (R.flatMap rowC)
  one : ∀ r ∈ R, r.u.oneCell' = true
section
variable {B : Nat} {w w' : World} {v : Value} {R : List VRow}
theorem VR.keep {F : List Nat} (h : VR B w v R) (ht : Turned F w w') (hF : ∀ g, v.ownBlock = some g → g ∉ F) : VR B w' v R := by
  refine ⟨⟨h.own.1, ?_⟩, h.one⟩
  rcases h.own.2 with h0 | ⟨g, c, cs, rfl, hb, hg, h3⟩
  · exact .inl h0
  · exact .inr ⟨g, c, cs, rfl, hb, ht.heap hg (hF g rfl), h3⟩
theorem VR.still (h : VR B w v R) (ht : Turned [] w w') : VR B w' v R := h.keep ht (by simp)
theorem VR.kept (h : VR B w v R) (hk : Keeps w w') : VR B w' v R := by
  refine ⟨⟨h.own.1, ?_⟩, h.one⟩
  rcases h.own.2 with h0 | ⟨g, c, cs, rfl, hb, hg, h3⟩
  · exact .inl h0
  · exact .inr ⟨g, c, cs, rfl, hb, hk.blk _ _ _ (by decide) hg, h3⟩
/-- A row of numbers is written beside. -/
theorem VR.beside (h : VR B w v R) {b : Nat} {cs : Array Value} (hb : w.heap[b]? = some (.cells cs 3 (0, 0))) (ht : Turned [b] w w') : VR B w' v R := by
  refine h.keep ht (fun g hg hm => ?_)
  rcases h.own.2 with ⟨h0, _⟩ | ⟨g', c, cs', hv, _, hg', _⟩
  · rw [h0] at hg; cases hg
  · rw [hv] at hg; cases hg
    simp at hm; subst hm
    exact other_type hg' hb (by decide) rfl
theorem VR.at_ (h : VR B w v R) (hne : R ≠ []) : ∃ g c, v = .slice (some ⟨g, 0, none⟩) R.length c ∧ R.length ≤ c ∧ c ≤ maxLen ∧ B ≤ g ∧ g < w.heap.size := by
  rcases h.own.2 with ⟨_, h0⟩ | ⟨g, c, cs, hv, hb, hg, hn, hm, _⟩
  · exact absurd (List.length_eq_zero_iff.1 h0) hne
  · exact ⟨g, c, hv, hn, hm, hb, lt_of_heap hg⟩
theorem VR.cell {g c k : Nat} (h : VR B w (.slice (some ⟨g, 0, none⟩) R.length c) R) (hk : k < R.length) : w.cell? ⟨g, k * 4, none⟩ = some (.int .i64 R[k].v.h) ∧ w.cell? ⟨g, k * 4 + 1, none⟩ = some (.int .i64 R[k].v.a) ∧ w.cell? ⟨g, k * 4 + 2, none⟩ = some (.int .i64 R[k].v.st) ∧ w.cell? ⟨g, k * 4 + 3, none⟩ = some R[k].u := by
  have key : ∀ j, j < 4 → w.cell? ⟨g, k * 4 + j, none⟩ = (rowC R[k])[j]? := fun j hj => by
    rw [h.own.cellAt _ (by omega)]
    have e : R = R.take k ++ R[k] :: R.drop (k + 1) := by rw [← List.drop_eq_getElem_cons hk, List.take_append_drop]
    have hl : ((R.take k).flatMap rowC).length = k * 4 := by rw [rows_len, List.length_take, Nat.min_eq_left (by omega)]
    have : (R.flatMap rowC)[k * 4 + j]? = ((R.take k).flatMap rowC ++ (rowC R[k] ++ (R.drop (k + 1)).flatMap rowC))[k * 4 + j]? := by
      conv => lhs; rw [e]
      rw [List.flatMap_append, List.flatMap_cons]
    rw [this, List.getElem?_append_right (by omega), hl, show k * 4 + j - k * 4 = j by omega, List.getElem?_append_left (by simp only [rowC, List.length_cons, List.length_nil]; omega)]
  exact ⟨key 0 (by omega), key 1 (by omega), key 2 (by omega), key 3 (by omega)⟩
theorem VR.froz {g c : Nat} (h : VR B w (.slice (some ⟨g, 0, none⟩) R.length c) R) (k : Nat) : w.frozen? ⟨g, k, none⟩ = false := by
  rcases h.own.2 with ⟨h0, _⟩ | ⟨g', c', cs, hv, hb, hg, _⟩
  · cases h0
  · cases hv; exact froz_at hg k
/-- The first ones. -/
theorem VR.take {g c : Nat} {pre post : List VRow} (h : VR B w (.slice (some ⟨g, 0, none⟩) (pre ++ post).length c) (pre ++ post)) : VR B w (.slice (some ⟨g, 0, none⟩) pre.length c) pre := by
  obtain ⟨⟨h1, h2⟩, h3⟩ := h
  rcases h2 with ⟨h0, _⟩ | ⟨g', c', cs, hv, hb, hg, hn, hm, hs, ht⟩
  · cases h0
  · simp only [Value.slice.injEq, Option.some.injEq, Addr.mk.injEq, and_true] at hv
    obtain ⟨rfl, -, rfl⟩ := hv
    refine ⟨⟨rows_len pre, .inr ⟨g, c, cs, rfl, hb, hg, by simp at hn; omega, hm, hs, ?_⟩⟩, fun r hr => h3 r (by simp [hr])⟩
    have h4 := congrArg (List.take (pre.length * 4)) ht
    rw [List.take_take, List.flatMap_append] at h4
    rw [show min (pre.length * 4) ((pre ++ post).length * 4) = pre.length * 4 by simp] at h4
    rw [h4, List.take_append_of_le_length (by rw [rows_len]; omega), List.take_of_length_le (by rw [rows_len]; omega)]
/-- A row's set is put. -/
theorem VR.put {g c : Nat} {pre post : List VRow} {r : VRow} (h : VR B w (.slice (some ⟨g, 0, none⟩) (pre ++ r :: post).length c) (pre ++ r :: post)) {u : Value} (hu : u.oneCell' = true) : VR B (w.setCell ⟨g, pre.length * 4 + 3, none⟩ u) (.slice (some ⟨g, 0, none⟩) (pre ++ r :: post).length c) (pre ++ ⟨r.v, u⟩ :: post) := by
  obtain ⟨⟨h1, h2⟩, h3⟩ := h
  rcases h2 with ⟨h0, _⟩ | ⟨g', c', cs, hv, hb, hg, hn, hm, hs, ht⟩
  · cases h0
  · simp only [Value.slice.injEq, Option.some.injEq, Addr.mk.injEq, and_true] at hv
    obtain ⟨rfl, -, rfl⟩ := hv
    refine ⟨⟨rows_len _, .inr ⟨g, c, _, by simp, hb, blk_set hg _ _, by simpa using hn, hm, by simpa using hs, ?_⟩⟩, fun q hq => ?_⟩
    · rw [show (pre ++ (⟨r.v, u⟩ : VRow) :: post).length = (pre ++ r :: post).length by simp]
      rw [Array.toList_setIfInBounds, List.take_set, ht, List.flatMap_append, List.flatMap_append, List.flatMap_cons, List.flatMap_cons, List.set_append_right _ _ (by rw [rows_len]; omega), rows_len, show pre.length * 4 + 3 - pre.length * 4 = 3 by omega]
      rfl
    · simp only [List.mem_append, List.mem_cons] at hq
      rcases hq with hq | rfl | hq
      · exact h3 q (by simp [hq])
      · exact hu
      · exact h3 q (by simp [hq])
end
theorem infoVer : (Try.prog.info? 42).map (fun i => (i.zero, i.size, i.bytes)) = some (some (.agg #[.int .i64 0, .int .i64 0, .int .i64 0, .slice none 0 0]), 4, 48) := by kernel_rfl
theorem undVers : Try.prog.underlying 43 = some (.slice 42) := by kernel_rfl
/-- 'append([]version{r}, l..)'. -/
theorem wpList_apRow {w : World} {ops : Array Oper} {rest : List Oper} {o : Oper} {a : Act} {Q : Exit → Act → World → Prop} {B : Nat} {v : Value} {r : VRow} {R : List VRow} {g c : Nat} (hgd : o.guard = none) (p q : Operand) (ho : o.op = .call { callee := .builtin .append, args := #[p, q], argTypes := #[43, 43] })
    (hs : a.eval p = v) (hr : VR B w v [r]) (hy : a.eval q = .slice (some ⟨g, 0, none⟩) R.length c) {B' : Nat} (hR : VR B' w (.slice (some ⟨g, 0, none⟩) R.length c) R) (hm : R.length ≤ 10000) (hB : B ≤ w.heap.size)
    (h : ∀ v' w', VR B w' v' (r :: R) → Turned v.ownBlock.toList w w' → (v'.ownBlock = v.ownBlock ∨ v'.ownBlock = some w.heap.size) → wpList Try.prog ops Q rest (a.put o.dst v') w') : wpList Try.prog ops Q (o :: rest) a w := by
  obtain ⟨i, hi, hzz⟩ := Option.map_eq_some_iff.1 infoVer
  simp only [Prod.mk.injEq] at hzz
  obtain ⟨hz, hs1, hb⟩ := hzz
  refine wpList_plain hgd fun K hK => ?_
  obtain ⟨v', w', hrun, h2, h3, h4, h5⟩ := run_append_own_at (P := Try.prog) w B 43 o.type 42 i _ 4 48 undVers hi hz hs1 hb rfl (by decide) v 1 ([r].flatMap rowC) hr.own ⟨g, 0, none⟩ R.length c (R.flatMap rowC) (rows_len R) (fun j u hj => by
    have hadd : (⟨g, 0, none⟩ : Addr).add j = ⟨g, j, none⟩ := by unfold Addr.add; split <;> simp_all
    have hjl : j < R.length * 4 := by
      apply Classical.byContradiction
      intro hn
      rw [List.getElem?_eq_none (by rw [rows_len]; omega)] at hj
      cases hj
    rw [hadd, hR.own.cellAt j hjl]
    exact hj) (fun u hu => by
      obtain ⟨q, hq, hqu⟩ := List.mem_flatMap.1 hu
      simp only [rowC, List.mem_cons, List.not_mem_nil, or_false] at hqu
      rcases hqu with rfl | rfl | rfl | rfl
      · rfl
      · rfl
      · rfl
      · exact hR.one q hq) (by unfold maxLen; omega) (by omega) hB
  unfold Oper.wp execOp
  simp only [ho, resolve, invoke, builtin, Sem.run_bind, Sem.run_pure, Result.andThen_ok, List.map_toArray, List.map_cons, List.map_nil, hs, hy, hrun]
  refine hK _ _ (h v' w' ⟨by rw [show (r :: R).length = 1 + R.length by simp; omega, show (r :: R).flatMap rowC = [r].flatMap rowC ++ R.flatMap rowC by simp]; exact h2, fun q hq => ?_⟩ ⟨h3.os, h3.tape, h3.output, h3.size, fun k hk hn => h3.block k hk fun e => hn (by rw [← e]; simp)⟩ h5)
  simp only [List.mem_cons] at hq
  rcases hq with rfl | hq
  · exact hr.one _ (by simp)
  · exact hR.one q hq
end Go.Proofs.Ytaaibhgbkdnlbaa
/- A chain that was never begun; First. -/
namespace Go.Proofs.Ytaaibhgbkdnlbaa
open Go.RowKit
section
variable {w : World} {p kb c sb : Nat} {F : List Nat} {s : PSt} {now : Int} {kv : Value} {S : Nat → Option SRec}
set_option maxHeartbeats 1600000 in
theorem cAtNone (H : CA w p kb F s now kv c sb 0 S) (hO : s.Ok) (t : Int) :
    Calls Try.prog 9 #[pp c, .pointer none, .int .i64 t] w fun e w' => e = .returned (.tuple #[.int .i64 0, .int .i64 141]) ∧ w' = w := by
  have HT := cTopNone H
  have d3 := H.c3
  have HS : Hid (∀ x, Calls Try.prog 29 #[.slice (some ⟨sb, 0, none⟩) (s.n + 1) (s.n + 1)] x fun e w' => e = .returned (.int .i64 s.n) ∧ w' = x) := fun x => cSlots hO.n2 x
  clear H
  go_enter Try.func9, Try.ntmps9
  go_wp2_with (first
    | (go_at_call 8; refine HT.mono ?_; rintro e w' ⟨rfl, hw⟩; obtain rfl := hw.symm)
    | (go_at_call 29; refine (HS.out _).mono ?_; rintro e w' ⟨rfl, hw⟩; obtain rfl := hw.symm))
  go_loopw [10] (fun er wr => er = .int .i64 141 ∧ wr = w) (fun _ _ => 0)
  case atStart => exact ⟨rfl, rfl⟩
  case round =>
    obtain ⟨rfl, rfl⟩ := hrel
    go_wp2
    go_ret2
    exact ⟨rfl, rfl⟩
end
section
variable {W x x' : World} {m n p kb c c2 used it : Nat} {now : Int} {G : Int → List Int} {L : List Ver} {N : List Nat}
theorem yTopNone (h : LY W x m n p kb c c2 used it now G [] N) :
    Calls Try.prog 8 #[pp c, .pointer none] x fun e x' => e = .returned (.tuple #[.int .i64 0, .int .i64 0, .int .i64 141]) ∧ x' = x := by
  obtain ⟨_, _, _, _, _, F, _, _, _, head, _, h⟩ := h.ex
  obtain rfl : head = 0 := h.cs.vs
  exact cTopNone h.cs.ca
theorem yAtNone (h : LY W x m n p kb c c2 used it now G [] N) (t : Int) :
    Calls Try.prog 9 #[pp c, .pointer none, .int .i64 t] x fun e x' => e = .returned (.tuple #[.int .i64 0, .int .i64 141]) ∧ x' = x := by
  obtain ⟨_, _, _, _, _, F, _, _, _, head, _, h⟩ := h.ex
  obtain rfl : head = 0 := h.cs.vs
  exact cAtNone h.cs.ca h.cs.pv.ok t
theorem yFirst (h : LY W x m n p kb c c2 used it now G [] N) (hlt : used < n) (hf : it + 1 ≤ 1000000) (xa xb xc xd : Int) :
    Calls Try.prog 10 #[pp c, .pointer none, .agg #[.int .i64 xa, .int .i64 xb, .int .i64 xc, .int .i64 xd]] x fun e x' => ∃ h', ¬ h' = 0 ∧ e = .returned (.tuple #[.int .i64 h', .int .i64 0]) ∧ Keeps x x' ∧ LY W x' m n p kb c c2 (used + 1) (it + 1) now (fun _ => []) [⟨h', xa, 1⟩] N := by
  obtain ⟨_, _, _, sb, _, F, s, St, it0, head, S, h⟩ := h.ex
  obtain rfl : head = 0 := h.cs.vs
  have hu := h.used_
  obtain ⟨i, St, rfl⟩ : ∃ i St', St = i :: St' := by
    cases St with
    | nil => simp at hu; omega
    | cons i t => exact ⟨i, t, rfl⟩
  have hit := h.it_
  have hSi := h.cs.free_none
  refine (kFirst h.cs (by omega) xa xb xc xd).mono ?_
  rintro e x' ⟨rfl, ht, F', s', hC, hW, hn⟩
  have hM : ∀ z, z ∈ c :: sb :: F → z = c ∨ z = sb ∨ z ∈ F := fun z hz => by simpa using hz
  obtain ⟨k, hk, -⟩ := hC.vs
  refine ⟨_, hk.nz, rfl, h.keeps ht hM, _, _, _, _, _, _, _, _, _, _, _, h.next ht hM hC hW hn (by simp at hu; omega) (by omega) (fun _ _ hr => .inl hr) (fun z hz => ?_) (fun g hg => ⟨Nat.lt_of_lt_of_le (h.out g hg).1 ht.size, (h.out g hg).2⟩)⟩
  simp only [List.mem_singleton] at hz
  subst hz
  have : k = i := by
    have hkh : hnd i ((s.slot i).gen + 1) = hnd k (s'.slot k).gen := hk.h
    have q := h.cs.pv.some
    have f := h.cs.pv.fits
    have g0 : 0 ≤ (s.slot i).gen + 1 := by omega
    have g1 : (s.slot i).gen + 1 ≤ 1000000000 := by omega
    exact ((hnd_inj g0 g1 hk.g0 hk.g1 hkh).1).symm
  subst this
  unfold setOf
  rw [plc_of hk, hSi]
  rfl
/-- A pool, a clock and a chain that are new. -/
theorem LY.start {lb cp : Nat} {E : Nat → Nat} {sb sb2 : Nat} {F : List Nat} (hn : 1 ≤ n) (hn2 : n ≤ 4096) (hP : PoolAt x p F (PSt.new n)) (hK : ClockAt x kb lb m cp E 1 (fun _ => 0)) (hc : x.heap[c]? = some (chainObj p kb 0 sb n)) (hs : SetsAt x sb n (fun _ => none)) (oc : m = 1 → x.heap[c2]? = some (chainObj p kb 0 sb2 n) ∧ SetsAt x sb2 n (fun _ => none) ∧ c2 ≠ c ∧ sb2 ≠ sb) (tw : Turned [] W x) (nE : ∀ k, k < m → E k ∉ F) (low : ∀ z, (z = c ∨ z = sb ∨ z ∈ F) → W.heap.size ≤ z) (lowk : W.heap.size ≤ kb ∧ W.heap.size ≤ E 0) : LY W x m n p kb c c2 0 0 1 (fun _ => []) [] [] :=
  ⟨lb, cp, E, sb, sb2, F, PSt.new n, List.range' 1 n, 0, 0, fun _ => none, ⟨⟨⟨hP, hK.obj, hc, hs⟩, hK, nE, PV.new hn hn2, rfl, rfl, List.nodup_nil, (by simp [PSt.new]), (fun _ _ _ h => by cases h), by omega⟩, fun h1 => (oc h1).1, fun h1 => (oc h1).2.1, fun h1 => (oc h1).2.2.1, fun h1 => (oc h1).2.2.2, tw, low, lowk, (fun _ _ _ h => by cases h), rfl, by simp, Nat.le_refl _, (fun v hv => by cases hv), fun g hg => by cases hg⟩⟩
end
end Go.Proofs.Ytaaibhgbkdnlbaa
/- The chain's known example. -/
namespace Go.Proofs.Ytaaibhgbkdnlbaa
open Go.RowKit
theorem ir_two (x : World) (a b : Int) : IR x.heap.size (x.alloc (.cells #[.int .i64 a, .int .i64 b] 3 (0, 0))) (.slice (some ⟨x.heap.size, 0, none⟩) 2 2) [a, b] :=
  ⟨rfl, .inr ⟨_, 2, _, rfl, Nat.le_refl _, blk_new _ _, by simp, by decide, rfl, rfl⟩⟩
theorem LY.made {w w1 w2 w3 w4 : World} {m n p c c2 lb cp sb sb2 : Nat} {E : Nat → Nat} {F : List Nat} (hn : 1 ≤ n) (hn2 : n ≤ 4096) (hm : 1 ≤ m) (T1 : Turned [] w w1) (A1 : PoolAt w1 p F (PSt.new n)) (F1 : ∀ z, z ∈ F → w.heap.size ≤ z) (K2 : ClockAt w2 w1.heap.size lb m cp E 1 (fun _ => 0)) (T2 : Turned [] w1 w2) (L2 : w1.heap.size ≤ lb) (E2 : ∀ k, k < m → w1.heap.size ≤ E k)
    (T3 : Turned F w2 w3) (hc : w3.heap[c]? = some (chainObj p w1.heap.size 0 sb n)) (hs : SetsAt w3 sb n (fun _ => none)) (lc : w2.heap.size ≤ c) (ls : w2.heap.size ≤ sb) (T4 : Turned F w3 w4) (A4 : PoolAt w4 p F (PSt.new n))
    (oc : m = 1 → w4.heap[c2]? = some (chainObj p w1.heap.size 0 sb2 n) ∧ SetsAt w4 sb2 n (fun _ => none) ∧ w3.heap.size ≤ c2 ∧ w3.heap.size ≤ sb2) : LY w w4 m n p w1.heap.size c c2 0 0 1 (fun _ => []) [] [] := by
  have lF := poolLaws.lt A1
  have s1 := T1.size
  have s2 := T2.size
  have hcl := lt_of_heap hc
  have hsl := lt_of_heap hs.row
  have nF : ∀ {z : Nat}, w1.heap.size ≤ z → z ∉ F := fun hz hm => by have := lF _ hm; omega
  refine LY.start (sb2 := sb2) hn hn2 A4 (((K2.keep T3 (nF (Nat.le_refl _)) (nF L2) (fun k hk => nF (E2 k hk)))).keep T4 (nF (Nat.le_refl _)) (nF L2) (fun k hk => nF (E2 k hk))) (T4.heap hc (nF (by omega))) (hs.keep T4 (nF (by omega)) (fun z _ => setB_none _ z)) (fun h1 => ?_) (((T1.trans T2).inner T3 (fun z hz => .inr (F1 z hz))).inner T4 (fun z hz => .inr (F1 z hz))) (fun k hk => nF (E2 k hk)) (fun z hz => ?_) ⟨by omega, by have := E2 0 (by omega); omega⟩
  · obtain ⟨o1, o2, o3, o4⟩ := oc h1
    exact ⟨o1, o2, by omega, by omega⟩
  · rcases hz with rfl | rfl | hz
    · omega
    · omega
    · exact F1 z hz
theorem okNew {n : Nat} (h1 : 1 ≤ n) (h2 : n ≤ 4096) : (PSt.new n).Ok := (PV.new h1 h2).ok
set_option maxRecDepth 100000 in
set_option maxHeartbeats 3200000 in
theorem cKnown (w : World) : Calls Try.prog 4 #[] w fun e w' => e = .returned (.bool true) ∧ Turned [] w w' := by
  go_enter Try.func4, Try.ntmps4
  go_wp2_with (first
    | (go_at_call 5; refine (poolLaws.new w 9 (by omega) (by omega)).mono ?_; rintro e w1 ⟨p, F, rfl, t1, a1, f1⟩; have H1 : Hid _ := And.intro t1 (And.intro a1 f1); clear t1 a1 f1)
    | (go_at_call 6; refine (cNewClk w1 2 (by omega) (by omega)).mono ?_; rintro e w2 ⟨rfl, lb, cp, E, k2, t2, l2, e2⟩; have H2 : Hid _ := And.intro k2 (And.intro t2 (And.intro l2 e2)); clear k2 t2 l2 e2)
    | (go_at_call 7; refine (cChainNew (H1.out.2.1.still H2.out.2.1) (okNew (by omega) (by omega)) w1.heap.size).mono ?_; rintro e w3 ⟨c, sb, rfl, t3, a3, hc, hs, lc, ls⟩; have Y0 : Hid (LY w w3 2 9 p w1.heap.size c 0 0 0 1 (fun _ => []) [] []) := LY.made (sb2 := 0) (by omega) (by omega) (by omega) H1.out.1 H1.out.2.1 H1.out.2.2 H2.out.1 H2.out.2.1 H2.out.2.2.1 H2.out.2.2.2 t3 hc hs lc ls (Turned.refl _ _) a3 (fun h => by omega); clear t3 a3 hc hs lc ls)
    | (go_at_call 10; refine (yFirst Y0.out (by omega) (by omega) 10 0 0 0).mono ?_; rintro e w4 ⟨a, ha, rfl, k4, y4⟩; have ea : (a == 0) = false := by simpa using ha
       have Y1 : Hid _ := y4; clear ha k4 y4 Y0)
    | (go_at_call 8; refine (yTop Y1.out).mono ?_; rintro e w5 ⟨rfl, k5, y5⟩; have Y2 : Hid _ := y5; clear k5 y5 Y1)
    | (go_at_call 11; refine (yPushOk (u := ⟨a, 10, 1⟩) (Y2.out.still ((Turned.refl [] _).alloc _)) (by omega) (by omega) (ir_two _ 7 8) (by simp) 20 0 0 0).mono ?_; rintro e w6 ⟨b, hb, hne, rfl, k6, y6⟩; have Y3 : Hid _ := y6; have HNE : Hid (¬ b = a) := (fun e => hne ⟨a, 10, 1⟩ (by simp) e.symm); clear hb hne k6 y6 Y2)
    | (go_at_call 11; refine (yPushNot Y3.out (by omega) (by omega) (IR.nil 0 _) (by simp) (old := a) HNE.out 30 0 0 0).mono ?_; rintro e w7 ⟨rfl, k7, y7⟩; have Y4 : Hid _ := y7; clear k7 y7 Y3)
    | (go_at_call 16; refine (yVersions Y4.out).mono ?_; rintro e w8 ⟨v8, rfl, i8, k8, y8⟩; have Y5 : Hid _ := y8; have I5 : Hid _ := i8; clear k8 y8 i8 Y4)
    | (go_at_call 12; refine (cInts (I5.out.still ((Turned.refl [] _).alloc _)).view (ir_two _ b a).view (by simp)).mono ?_; rintro e w9 ⟨rfl, t9⟩; have Y6 : Hid _ := (Y5.out.still ((Turned.refl [] _).alloc _)).still t9; clear t9 Y5 I5)
    | (go_at_call 19; refine (ySet (v := ⟨b, 20, 1⟩) Y6.out (by simp) (by simp)).mono ?_; rintro e w10 ⟨u10, rfl, i10, k10, y10⟩; have i10' : IR _ w10 u10 [7, 8] := (by simpa using i10); have I7 : Hid _ := i10'; clear i10'; have Y7 : Hid _ := y10; clear i10 k10 y10 Y6)
    | (go_at_call 12; refine (cInts (I7.out.still ((Turned.refl [] _).alloc _)).view (ir_two _ 7 8).view (by simp)).mono ?_; rintro e w11 ⟨rfl, t11⟩; have Y8 : Hid _ := (Y7.out.still ((Turned.refl [] _).alloc _)).still t11; clear t11 Y7 I7)
    | (go_at_call 13; refine (yCut (pre := []) (v := ⟨b, 20, 1⟩) (z := ⟨a, 10, 1⟩) (post := []) Y8.out).mono ?_; rintro e w12 ⟨u12, rfl, -, i12, k12, y12⟩; have i12' : IR _ w12 u12 [7, 8] := (by simpa using i12); have I9 : Hid _ := i12'; clear i12'; have Y9 : Hid _ := y12; clear i12 k12 y12 Y8)
    | (go_at_call 13; refine (yCutNone (pre := []) (v := ⟨b, 20, 1⟩) Y9.out).mono ?_; rintro e w13 ⟨rfl, k13, y13⟩; have I10 : Hid _ := I9.out.kept k13; have Y10 : Hid _ := y13; clear k13 y13 Y9 I9)
    | (go_at_call 12; refine (cInts (I10.out.still ((Turned.refl [] _).alloc _)).view (ir_two _ 7 8).view (by simp)).mono ?_; rintro e w14 ⟨rfl, t14⟩; have Y11 : Hid _ := (Y10.out.still ((Turned.refl [] _).alloc _)).still t14; clear t14 Y10 I10)
    | (go_at_call 19; refine (ySet (v := ⟨b, 20, 1⟩) Y11.out (by simp) (by simp)).mono ?_; rintro e w15 ⟨u15, rfl, i15, k15, y15⟩; have i16 : IR _ w15 u15 [] := (by simpa using i15); obtain ⟨a16, c16, rfl⟩ := i16.form; have Y12 : Hid _ := y15; clear i15 i16 k15 y15 Y11))
  go_ret
  exact ⟨rfl, Y12.out.turned⟩
end Go.Proofs.Ytaaibhgbkdnlbaa
/- A frame, spelled out. -/
namespace Go.Proofs.Ytaaibhgbkdnlbaa
open Go.RowKit
def lit477 (c : Nat → Value) : Array Value := #[c 0, c 1, c 2, c 3, c 4, c 5, c 6, c 7, c 8, c 9, c 10, c 11, c 12, c 13, c 14, c 15, c 16, c 17, c 18, c 19, c 20, c 21, c 22, c 23, c 24, c 25, c 26, c 27, c 28, c 29, c 30, c 31, c 32, c 33, c 34, c 35, c 36, c 37, c 38, c 39, c 40, c 41, c 42, c 43, c 44, c 45, c 46, c 47, c 48, c 49, c 50, c 51, c 52, c 53, c 54, c 55, c 56, c 57, c 58, c 59, c 60, c 61, c 62, c 63, c 64, c 65, c 66, c 67, c 68, c 69, c 70, c 71, c 72, c 73, c 74, c 75, c 76, c 77, c 78, c 79, c 80, c 81, c 82, c 83, c 84, c 85, c 86, c 87, c 88, c 89, c 90, c 91, c 92, c 93, c 94, c 95, c 96, c 97, c 98, c 99, c 100, c 101, c 102, c 103, c 104, c 105, c 106, c 107, c 108, c 109, c 110, c 111, c 112, c 113, c 114, c 115, c 116, c 117, c 118, c 119, c 120, c 121, c 122, c 123, c 124, c 125, c 126, c 127, c 128, c 129, c 130, c 131, c 132, c 133, c 134, c 135, c 136, c 137, c 138, c 139, c 140, c 141, c 142, c 143, c 144, c 145, c 146, c 147, c 148, c 149, c 150, c 151, c 152, c 153, c 154, c 155, c 156, c 157, c 158, c 159, c 160, c 161, c 162, c 163, c 164, c 165, c 166, c 167, c 168, c 169, c 170, c 171, c 172, c 173, c 174, c 175, c 176, c 177, c 178, c 179, c 180, c 181, c 182, c 183, c 184, c 185, c 186, c 187, c 188, c 189, c 190, c 191, c 192, c 193, c 194, c 195, c 196, c 197, c 198, c 199, c 200, c 201, c 202, c 203, c 204, c 205, c 206, c 207, c 208, c 209, c 210, c 211, c 212, c 213, c 214, c 215, c 216, c 217, c 218, c 219, c 220, c 221, c 222, c 223, c 224, c 225, c 226, c 227, c 228, c 229, c 230, c 231, c 232, c 233, c 234, c 235, c 236, c 237, c 238, c 239, c 240, c 241, c 242, c 243, c 244, c 245, c 246, c 247, c 248, c 249, c 250, c 251, c 252, c 253, c 254, c 255, c 256, c 257, c 258, c 259, c 260, c 261, c 262, c 263, c 264, c 265, c 266, c 267, c 268, c 269, c 270, c 271, c 272, c 273, c 274, c 275, c 276, c 277, c 278, c 279, c 280, c 281, c 282, c 283, c 284, c 285, c 286, c 287, c 288, c 289, c 290, c 291, c 292, c 293, c 294, c 295, c 296, c 297, c 298, c 299, c 300, c 301, c 302, c 303, c 304, c 305, c 306, c 307, c 308, c 309, c 310, c 311, c 312, c 313, c 314, c 315, c 316, c 317, c 318, c 319, c 320, c 321, c 322, c 323, c 324, c 325, c 326, c 327, c 328, c 329, c 330, c 331, c 332, c 333, c 334, c 335, c 336, c 337, c 338, c 339, c 340, c 341, c 342, c 343, c 344, c 345, c 346, c 347, c 348, c 349, c 350, c 351, c 352, c 353, c 354, c 355, c 356, c 357, c 358, c 359, c 360, c 361, c 362, c 363, c 364, c 365, c 366, c 367, c 368, c 369, c 370, c 371, c 372, c 373, c 374, c 375, c 376, c 377, c 378, c 379, c 380, c 381, c 382, c 383, c 384, c 385, c 386, c 387, c 388, c 389, c 390, c 391, c 392, c 393, c 394, c 395, c 396, c 397, c 398, c 399, c 400, c 401, c 402, c 403, c 404, c 405, c 406, c 407, c 408, c 409, c 410, c 411, c 412, c 413, c 414, c 415, c 416, c 417, c 418, c 419, c 420, c 421, c 422, c 423, c 424, c 425, c 426, c 427, c 428, c 429, c 430, c 431, c 432, c 433, c 434, c 435, c 436, c 437, c 438, c 439, c 440, c 441, c 442, c 443, c 444, c 445, c 446, c 447, c 448, c 449, c 450, c 451, c 452, c 453, c 454, c 455, c 456, c 457, c 458, c 459, c 460, c 461, c 462, c 463, c 464, c 465, c 466, c 467, c 468, c 469, c 470, c 471, c 472, c 473, c 474, c 475, c 476]
set_option maxRecDepth 100000 in
theorem lit477_eq (c : Nat → Value) : lit477 c = ((List.range 477).map c).toArray := by rfl
theorem expand477 {a : Act} (hs : a.tmps.size = 477) (hd : a.defers = []) : ∃ c : Nat → Value, a = ⟨lit477 c, []⟩ ∧ ∀ s, c s = a.eval (.tmp s) := by
  refine ⟨fun s => a.tmps.getD s undef, ?_, fun s => rfl⟩
  obtain ⟨t, d⟩ := a
  simp only at hs hd
  subst hd
  congr 1
  rw [lit477_eq]
  refine Array.ext (by simp [hs]) fun i h1 h2 => ?_
  simp [Array.getD, h1]
theorem expand477d {a : Act} {ds : List Deferred} (hs : a.tmps.size = 477) (hd : a.defers = ds) : ∃ c : Nat → Value, a = ⟨lit477 c, ds⟩ ∧ ∀ s, c s = a.eval (.tmp s) := by
  refine ⟨fun s => a.tmps.getD s undef, ?_, fun s => rfl⟩
  obtain ⟨t, d⟩ := a
  simp only at hs hd
  subst hd
  congr 1
  rw [lit477_eq]
  refine Array.ext (by simp [hs]) fun i h1 h2 => ?_
  simp [Array.getD, h1]
end Go.Proofs.Ytaaibhgbkdnlbaa
/- A piece of code by its path; the ends of blocks. -/
namespace Go.Proofs.Ytaaibhgbkdnlbaa
open Go.RowKit
/-- A sub-code by its path: 0 left, 1 right. -/
def sub : List Nat → Code → Code
  | [], c => c
  | 0 :: p, .seq a _ => sub p a
  | _ :: p, .seq _ b => sub p b
  | 0 :: p, .cond _ a _ => sub p a
  | _ :: p, .cond _ _ b => sub p b
  | _ :: p, .block _ c => sub p c
  | _ :: p, .scope c => sub p c
  | _ :: p, .loop c => sub p c
  | _, _ => .skip
def atc (b : Option Code) (p : List Nat) : Code := sub p (b.getD .skip)
/-- The last piece of a block. -/
theorem wp_lastB {P : Program} {c : Code} {M : Act → World → Prop} {Q : Exit → Act → World → Prop} {id : Nat} {a : Act} {x : World} (h : c.wp P (Exit.then M (fun _ _ _ => False)) a x) : c.wp P (Exit.inBlock id (Exit.then M Q)) a x :=
  wp_mono h fun e _ _ h => by cases e <;> first | exact h | exact h.elim
/-- A piece that goes on, or leaves. -/
theorem wp_endB {P : Program} {c : Code} {Q : Exit → Act → World → Prop} {a : Act} {x : World} (h : c.wp P (Exit.then (Q .normal) Q) a x) : c.wp P Q a x :=
  wp_mono h (fun e a w h => by cases e <;> exact h)
end Go.Proofs.Ytaaibhgbkdnlbaa

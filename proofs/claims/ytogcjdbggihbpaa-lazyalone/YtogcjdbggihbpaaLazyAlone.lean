/-
  LazyAlone answers true at every input: Gets and Dones alone, of Onces, Retries and a table of makers that make, fail or panic (with nil too), are what the document says. Conditions: the row's own (calm).
-/
import Derived.Test.YtogcjdbggihbpaaRows
import Derived.Test.YtogcjdbggihbpaaOpen
namespace Go.Proofs.Ytogcjdbggihbpaa
open Go.ChangeShapes Go.WideShapes Go.ChangeAt Go.RowKit Go.Deep Go.Conc
set_option maxRecDepth 100000 in
theorem cAlone (W : World) (oa : Option Addr) (n oc : Nat) (F : Nat → Int) (L : Nat → Bool) (V : Nat → Int) (la : Option Addr) (m lc : Nat) (Kd A : Nat → Int)
    (hM : 0 < n → ∃ mb mo, oa = some ⟨mb, mo, none⟩ ∧ ∀ k, k < n → W.cell? ⟨mb, mo + k * 3, none⟩ = some (.int .i64 (F k)) ∧ W.cell? ⟨mb, mo + k * 3 + 1, none⟩ = some (.bool (L k)) ∧ W.cell? ⟨mb, mo + k * 3 + 2, none⟩ = some (.int .i64 (V k)))
    (hL : 0 < m → ∃ lb lo, la = some ⟨lb, lo, none⟩ ∧ ∀ q, q < m → W.cell? ⟨lb, lo + q * 5, none⟩ = some (.int .i64 (Kd q)) ∧ W.cell? ⟨lb, lo + q * 5 + 1, none⟩ = some (.int .i64 (A q))) :
    Calls Try.prog 3 #[.slice oa n oc, .slice la m lc] W fun e w' => e = .returned (.bool true) ∧ Below W.heap.size W w' := by
  go_enter Try.func3, Try.ntmps3
  by_cases h : 1 ≤ n ∧ n ≤ 30 ∧ m ≤ 500
  · obtain ⟨h1, h2, h3⟩ := h
    obtain ⟨mb, mo, rfl, hc⟩ := hM (by omega)
    exact wAlone W mb mo n oc F L V h1 h2 la m lc h3 Kd A hL hc rfl rfl rfl rfl
  · exact wShort W oa n oc la m lc (by omega) rfl rfl rfl rfl
set_option maxHeartbeats 1600000 in
set_option maxRecDepth 100000 in
theorem lazyAlone_lifted (os : Os) (started : os.Started) (H : Type) (enc : TypeId × Value → H) (F : Stop.Interp) :
    ReturnsInLeavingWide { calm := true } Try.checked os 3 .any (Rows.lazyAloneSpec.pre6 enc Try.prog Try.f3 Rows.lazyAloneRow.domain false) ((OpenSpec.ofChange Rows.lazyAloneSpec).postWith enc Try.prog Try.f3 F (outsideKept [.timePasses]) false true false) := by
  refine leaving_sized (C := Try.checked) Try.own started (by kernel_rfl) Try.func3
    (ChangeSpec.witness6c (enc := enc) (C := Try.checked) ⟨#[], #[.slice none 0 0, .slice none 0 0], []⟩ 8 (by kernel_rfl) (by kernel_rfl) (by kernel_rfl) (by kernel_rfl)) ?_
  intro W base args ds gs before hval0 hW
  have hval : ∀ (j : Nat) t v, Try.f3.params[j]? = some t → args[j]? = some v → Value.okWide Try.prog W .any base t v := hval0
  have hW' := hW
  obtain ⟨p, q, hA0, hV, rfl, hfz, _⟩ := hW
  have hA : DataW.TrodAll enc Try.prog W 0 (fun _ => true) true Try.f3.params.toList args.toList ds p := hA0
  rw [Try.params3] at hA hval
  obtain ⟨v0, v1, d0, d1, p0, p1, rfl, rfl, rfl, h0, h1⟩ := trodAll_two hA
  obtain ⟨rfl, rfl⟩ := trodVars_none hV
  clear hA0 hval0 hA
  simp only [List.append_nil] at hW' hfz
  have hlt : ∀ x ∈ p0 ++ p1, x.block < W.heap.size := fun x hx => hW'.lt x (by simpa using hx)
  obtain ⟨oa, n, oc, Fk, L, V, rfl, hM⟩ := view_makers (hval 0 22 v0 rfl rfl) h0
  obtain ⟨la, m, lc, Kd, A, rfl, hL⟩ := view_calls (hval 1 23 v1 rfl rfl) h1
  refine (cAlone W oa n oc Fk L V la m lc Kd A hM hL).mono fun e W' ⟨he, hb⟩ => ?_
  subst he
  refine ⟨_, rfl, ⟨_, _, _, [], p0 ++ p1, [], hW', ?_, ?_, rfl, hb.frame _, fun h => by cases h⟩, hb.os⟩
  · exact trodAll_mk1 (shut_bool Try.underlying4 _)
  · exact trodAll_mk2 (Below.trod Try.laidOut (by kernel_rfl) (of_decide_eq_true (by kernel_rfl)) h0 hb (fun x hx => hlt x (by simp [hx]))) (Below.trod Try.laidOut (by kernel_rfl) (of_decide_eq_true (by kernel_rfl)) h1 hb (fun x hx => hlt x (by simp [hx])))
theorem lazyAlone_holds : Rows.LazyAloneSaid :=
  OpenClaim.holds_of_wide_leaving_time 3 Try.f3 rfl rfl rfl rfl rfl rfl rfl ⟨rfl, rfl, rfl, rfl, rfl⟩ rfl rfl rfl rfl rfl (by kernel_rfl) Try.func3 (by kernel_rfl)
    (of_decide_eq_true (by kernel_rfl)) (by unfold Func.isWrapper; rw [if_neg (of_decide_eq_false (by kernel_rfl))]; exact ⟨rfl, rfl⟩)
    (fun os started H enc _ F => lazyAlone_lifted os started H enc F)
#print axioms lazyAlone_holds
end Go.Proofs.Ytogcjdbggihbpaa

/-
  ChainAlone answers true at every input: calls done alone on a chain answer as a plain list of versions says, two chains over one pool don't meddle; the script reads behind the call as it read before. Conditions: none.
-/
import Derived.Test.YtaaibhgbkdnlbaaRows
import Derived.Test.YtaaibhgbkdnlbaaJ27
import Derived.ProofKit
import Derived.SizedLaws
import Derived.Deep.Slices
namespace Go.Proofs.Ytaaibhgbkdnlbaa
open Go.ChangeShapes Go.WideShapes Go.ChangeAt Go.RowKit Go.Deep
theorem Try.own : ownKnob Try.prog.godebug = none := by kernel_rfl
theorem Try.laidOut : laidOutB Try.prog = true := by kernel_rfl
theorem Try.cellsI : Try.prog.cellsOf 3 = 1 := by kernel_rfl
theorem Try.cellsS : Try.prog.cellsOf 40 = 1 := by kernel_rfl
theorem Try.cellsO : Try.prog.cellsOf 45 = 4 := by kernel_rfl
set_option maxRecDepth 100000 in
set_option maxHeartbeats 1600000 in
theorem ch_long (W : World) (n : Int) (ta : Option Addr) (Lc tc : Nat) (h1 : 2 ≤ n) (h2 : n ≤ 200) (hL : 200 < Lc) :
    Calls Try.prog 3 #[.int .i64 n, .slice ta Lc tc] W fun e w' => e = .returned (.bool true) ∧ Turned [] W w' := by
  have hl : (200 : Int) < (Lc : Int) := by omega
  have d1 : ¬ n < 2 := by omega
  have d2 : ¬ 200 < n := by omega
  go_enter Try.func3, Try.ntmps3
  go_wp2_with (go_at_call 4; refine (cKnown _).mono ?_; rintro e w1 ⟨rfl, ht1⟩; have HT : Hid _ := ht1; clear ht1)
  go_ret
  exact ⟨rfl, HT.out⟩
set_option maxRecDepth 100000 in
set_option maxHeartbeats 1600000 in
theorem ch_bad (W : World) (n : Int) (ta : Option Addr) (Lc tc : Nat) (hn : n < 2 ∨ 200 < n) :
    Calls Try.prog 3 #[.int .i64 n, .slice ta Lc tc] W fun e w' => e = .returned (.bool true) ∧ Turned [] W w' := by
  rcases (by omega : n < 2 ∨ (¬ n < 2 ∧ 200 < n)) with h | ⟨h1, h⟩
  · go_enter Try.func3, Try.ntmps3
    go_wp2_with (go_at_call 4; refine (cKnown _).mono ?_; rintro e w1 ⟨rfl, ht1⟩; have HT : Hid _ := ht1; clear ht1)
    go_ret
    exact ⟨rfl, HT.out⟩
  · go_enter Try.func3, Try.ntmps3
    go_wp2_with (go_at_call 4; refine (cKnown _).mono ?_; rintro e w1 ⟨rfl, ht1⟩; have HT : Hid _ := ht1; clear ht1)
    go_ret
    exact ⟨rfl, HT.out⟩
set_option maxRecDepth 100000 in
set_option maxHeartbeats 3200000 in
theorem ch_good (W : World) (n : Nat) (ta : Option Addr) (Lc tc : Nat) (hL : Lc ≤ 200) (h1 : 2 ≤ n) (h2 : n ≤ 200) (hS : Ops W ta Lc) :
    Calls Try.prog 3 #[.int .i64 n, .slice ta Lc tc] W fun e w' => e = .returned (.bool true) ∧ Turned [] W w' := by
  have hl : ¬ (200 : Int) < (Lc : Int) := by omega
  have d1 : ¬ (n : Int) < 2 := by omega
  have d2 : ¬ 200 < (n : Int) := by omega
  have HS : Hid (Ops W ta Lc) := hS
  have HB : Hid (2 ≤ n ∧ n ≤ 200) := ⟨h1, h2⟩
  clear hS h1 h2
  go_enter Try.func3, Try.ntmps3
  go_wp2_with (first
    | (go_at_call 4; refine (cKnown _).mono ?_; rintro e w0 ⟨rfl, ht0⟩; have H0 : Hid (Turned [] W w0) := ht0; clear ht0)
    | (go_at_call 5; refine (poolLaws.new w0 n (by have := HB.out; omega) (by have := HB.out; omega)).mono ?_; rintro e w1 ⟨p, F, rfl, t1, a1, f1⟩; have H1 : Hid (Turned [] W w1 ∧ PoolAt w1 p F (PSt.new n) ∧ ∀ z, z ∈ F → W.heap.size ≤ z) := ⟨H0.out.trans t1, a1, fun z hz => Nat.le_trans H0.out.size (f1 z hz)⟩; clear t1 a1 f1 H0)
    | (go_at_call 6; refine (cNewClk w1 1 (by omega) (by omega)).mono ?_; rintro e w2 ⟨rfl, lb, cp, E, k2, t2, l2, e2⟩; have H2 : Hid _ := And.intro k2 (And.intro t2 (And.intro l2 e2)); clear k2 t2 l2 e2)
    | (go_at_call 7; refine (cChainNew (H1.out.2.1.still H2.out.2.1) (okNew (by have := HB.out; omega) (by have := HB.out; omega)) w1.heap.size).mono ?_; rintro e w3 ⟨c, sb, rfl, t3, a3, hc, hs, lc, ls⟩; have H3 : Hid _ := And.intro t3 (And.intro a3 (And.intro hc (And.intro hs (And.intro lc ls)))); clear t3 a3 hc hs lc ls)
    | (go_at_call 7; refine (cChainNew H3.out.2.1 (okNew (by have := HB.out; omega) (by have := HB.out; omega)) w1.heap.size).mono ?_; rintro e w4 ⟨c2, sb2, rfl, t4, a4, hc4, hs4, lc4, ls4⟩; have Y0 : Hid (LY W w4 1 n p w1.heap.size c c2 0 0 1 (fun _ => []) [] []) := LY.made (by have := HB.out; omega) (by have := HB.out; omega) (by omega) H1.out.1 H1.out.2.1 H1.out.2.2 H2.out.1 H2.out.2.1 H2.out.2.2.1 H2.out.2.2.2 H3.out.1 H3.out.2.2.1 H3.out.2.2.2.1 H3.out.2.2.2.2.1 H3.out.2.2.2.2.2 t4 a4 (fun _ => ⟨hc4, hs4, lc4, ls4⟩); clear t4 a4 hc4 hs4 lc4 ls4 H1 H2 H3)
    | (go_at_call 8; refine (yTopNone Y0.out).mono ?_; rintro e w' ⟨rfl, hw⟩; obtain rfl := hw.symm)
    | (go_at_call 9; refine (yAtNone Y0.out 5).mono ?_; rintro e w' ⟨rfl, hw⟩; obtain rfl := hw.symm)
    | (go_at_call 10; refine (yFirst Y0.out (by have := HB.out; omega) (by omega) (-1) 0 0 0).mono ?_; rintro e w5 ⟨h', hz, rfl, k5, y5⟩; have Y1 : Hid _ := y5; clear hz k5 y5 Y0))
  rename_i K0 hK0
  refine (show (Code.loop (atc Try.f3.body [1, 1, 1, 1, 1, 1, 1, 1, 1, 1, 1, 1, 1, 1, 0, 1, 0, 0])).wp _ _ _ _ from ?_)
  refine wp_loop (CL W n p w1.heap.size c c2 ta Lc tc) (fun a _ => Lc - (intOf (a.eval (.tmp 19))).toNat) ?_ (fun a x hx => ch_round HB.out.2 hL HS.out hx ?_)
  · have T0 : Turned [] w5 (w5.alloc (.cells #[.int .i64 h', .int .i64 (-1), .int .i64 1, .slice none 0 0] 42 (0, 0))) := (Turned.refl [] _).alloc _
    refine ⟨0, Nat.zero_le _, 1, 0 + 1, 0, 0 + 1, fun _ => [], [⟨⟨h', -1, 1⟩, .slice none 0 0⟩], w5.heap.size, 1, ⟨rfl, rfl, rfl, rfl, rfl, rfl, rfl, rfl, rfl, rfl, rfl, rfl, rfl⟩, ⟨Y1.out.still T0, ⟨⟨rfl, .inr ⟨_, 1, _, rfl, Y1.out.turned.size, blk_new _ _, by simp, by decide, rfl, rfl⟩⟩, fun r hr => by simp at hr; subst hr; rfl⟩, by simp, fun r hr => ?_⟩, by omega, by omega, by omega⟩
    simp at hr
    subst hr
    exact ⟨⟨none, 0, rfl, fun _ => rfl, fun h => absurd rfl h⟩, by simp⟩
  · intro a' y hC
    obtain ⟨i, -, hST⟩ := hC.ex
    obtain ⟨now, used, ct, it, G, R, g, rc, f, h, -⟩ := hST.ex
    show K0 a' y
    refine hK0 _ _ ?_
    refine wp_endB (ch_88 f.hs f.hd f.x0 f.x1 f.x5 f.x7 f.x9 f.x10 f.x15 f.x16 f.x17 f.x18 f.x19 (yFaults h.y) ?_)
    intro a2 y2 hs hd x4 ht
    exact bodyPost_ret (results_tmp rfl _ _ _) hd ⟨congrArg Ending.returned x4, ht⟩
theorem ch_walk (W : World) (n : Int) (ta : Option Addr) (Lc tc : Nat) (hS : Ops W ta Lc) :
    Calls Try.prog 3 #[.int .i64 n, .slice ta Lc tc] W fun e w' => e = .returned (.bool true) ∧ Turned [] W w' := by
  by_cases hn : n < 2 ∨ 200 < n
  · exact ch_bad W n ta Lc tc hn
  by_cases hL : 200 < Lc
  · exact ch_long W n ta Lc tc (by omega) (by omega) hL
  obtain ⟨m, rfl⟩ : ∃ m : Nat, n = m := ⟨n.toNat, by omega⟩
  exact ch_good W m ta Lc tc (by omega) (by omega) (by omega) hS
theorem Turned.toBelow {W w : World} (h : Turned [] W w) : Below W.heap.size W w := h.below (Below.refl _ _) (by simp) (Nat.le_refl _)
section
variable {H : Type} {enc : TypeId × Value → H} {W : World} {base : Nat} {v : Value} {d : DataW H} {p : List MemPlace}
theorem view_set {fuel : Nat} {cs : List Value} {x : DataW H × List MemPlace} (h : DataW.trod enc Try.prog W 0 (fun _ => true) true fuel 40 cs = some x) : ∃ sa sl sc l, cs = [.slice sa sl sc] ∧ IV W (.slice sa sl sc) l := by
  rcases open_ints Try.underlying40 Try.underlying3 Try.cellsI h with ⟨hcs, hx⟩ | ⟨a, len, cap, zs, hcs, _, hl, hm, hz, hx, hcell, hwz⟩
  · exact ⟨none, 0, 0, [], hcs, none, 0, rfl, fun _ => rfl, fun h => absurd rfl h⟩
  · simp only [if_true] at hz
    refine ⟨some a, len, cap, zs.take len, hcs, some a, cap, by rw [List.length_take, Nat.min_eq_left (by omega)], (fun h => by cases h), fun hne => ?_⟩
    have hpos : 0 < len := by
      rcases Nat.eq_zero_or_pos len with e | e
      · subst e; simp at hne
      · exact e
    obtain ⟨b, off, spot⟩ := a
    have hspot : spot = none := by simpa [Addr.add] using World.cell?_spot (hcell 0 (by omega))
    subst hspot
    refine ⟨b, off, rfl, fun j hj => ?_⟩
    have hj' : j < zs.length := by rw [List.length_take] at hj; omega
    have := hcell j hj'
    rw [show (⟨b, off, none⟩ : Addr).add j = ⟨b, off + j, none⟩ by unfold Addr.add; split <;> simp_all] at this
    rw [this, List.getElem_take]
    simp [hj']
set_option maxRecDepth 100000 in
theorem view_ops (hok : Value.okWide Try.prog W .any base 22 v) (h : DataW.Trod enc Try.prog W 0 (fun _ => true) true 22 v d p) : ∃ ta Lc tc, v = .slice ta Lc tc ∧ Ops W ta Lc := by
  obtain ⟨a0, len, cap, rfl⟩ := okWide_slice Try.underlying22 hok
  obtain ⟨fuel, hf⟩ := h
  rcases open_slice Try.underlying22 hf with ⟨hcs, _⟩ | ⟨a, len', cap', m, n, D, Pl, hcs, _, hl, _, hm, _, hel⟩
  · simp [Value.cells] at hcs
    obtain ⟨rfl, rfl, rfl⟩ := hcs
    exact ⟨none, 0, 0, rfl, ⟨fun j hj => absurd hj (Nat.not_lt_zero _)⟩⟩
  · simp [Value.cells] at hcs
    obtain ⟨rfl, rfl, rfl⟩ := hcs
    simp only [if_true] at hm
    refine ⟨some a, len, cap, rfl, ⟨fun i hi => ?_⟩⟩
    obtain ⟨cs0, h10, -⟩ := hel 0 (by omega)
    rw [Try.cellsO] at h10
    obtain ⟨-, hl0, hc0⟩ := World.cells?_some h10
    have t00 := hc0 0 (by omega)
    rw [add_add] at t00
    obtain ⟨cs', h1, h2⟩ := hel i (by omega)
    rw [Try.cellsO] at h1
    obtain ⟨_, hlen, hcell⟩ := World.cells?_some h1
    obtain ⟨xs, k, _, _, _, hxl, hfs⟩ := DataW.trod_struct Try.underlying45 h2
    match xs, hxl, cs', hlen with
    | [y0, y1, y2, y3], _, [v0, v1, v2, v3], _ =>
      have g0 := hfs 0 _ rfl
      have g1 := hfs 1 _ rfl
      have g2 := hfs 2 _ rfl
      have g3 := hfs 3 _ rfl
      simp [Try.cellsI, Try.cellsS] at g0 g1 g2 g3
      obtain ⟨z0, e0, _⟩ := DataW.trod_int Try.underlying3 g0
      obtain ⟨z1, e1, _⟩ := DataW.trod_int Try.underlying3 g1
      obtain ⟨z2, e2, _⟩ := DataW.trod_int Try.underlying3 g2
      obtain ⟨sa, sl, sc, l, e3, hiv⟩ := view_set g3
      simp at e0 e1 e2 e3
      subst e0 e1 e2 e3
      obtain ⟨b, off, spot⟩ := a
      have q : ∀ j, j < 4 → W.cell? ((⟨b, off, spot⟩ : Addr).add (i * 4 + j)) = [.int .i64 z0, .int .i64 z1, .int .i64 z2, .slice sa sl sc][j]? := fun j hj => by
        have t0 := hcell j (by simpa using hj)
        rw [add_add] at t0
        exact t0.trans (by simp)
      have hspot : spot = none := by simpa [Addr.add] using World.cell?_spot (t00.trans (List.getElem?_eq_getElem (show 0 < cs0.length by omega)))
      subst hspot
      have q' : ∀ j, j < 4 → W.cell? ⟨b, off + i * 4 + j, none⟩ = [.int .i64 z0, .int .i64 z1, .int .i64 z2, .slice sa sl sc][j]? := fun j hj => by
        have := q j hj
        simpa [add_plain, Nat.add_assoc] using this
      exact ⟨b, off, z0, z1, z2, sa, sl, sc, l, rfl, q' 0 (by omega), q' 1 (by omega), q' 2 (by omega), q' 3 (by omega), hiv⟩
end
set_option maxHeartbeats 1600000 in
set_option maxRecDepth 100000 in
theorem chainAlone_lifted (os : Os) (started : os.Started) (H : Type) (enc : TypeId × Value → H) :
    ReturnsInHanded {} Try.checked os 3 .any (Rows.chainAloneSpec.pre6 enc Try.prog Try.f3 Rows.chainAloneRow.domain false) (Rows.chainAloneSpec.post enc Try.prog Try.f3 false true false false) := by
  refine returnsInHanded_of_change_sized (C := Try.checked) Try.own started (by kernel_rfl) Try.func3
    (ChangeSpec.witness6 (enc := enc) (C := Try.checked) false ⟨#[], #[.int .i64 0, .slice none 0 0], []⟩ 8 (by kernel_rfl) (by kernel_rfl) (by kernel_rfl) (by kernel_rfl)) ?_
  intro W base args ds gs before hval0 hW _ _ _
  have hval : ∀ (j : Nat) t v, Try.f3.params[j]? = some t → args[j]? = some v → Value.okWide Try.prog W .any base t v := hval0
  have hW' := hW
  obtain ⟨p, q, hA0, hV, rfl, hfz, _⟩ := hW
  have hA : DataW.TrodAll enc Try.prog W 0 (fun _ => true) true Try.f3.params.toList args.toList ds p := hA0
  rw [Try.params3] at hA hval
  obtain ⟨v0, v1, d0, d1, p0, p1, rfl, rfl, rfl, h0, h1⟩ := trodAll_two hA
  obtain ⟨rfl, rfl⟩ := trodVars_none hV
  clear hA0 hval0 hA
  simp only [List.append_nil] at hW' hfz
  have hlt : ∀ x, x ∈ p1 → x.block < W.heap.size := fun x hx => hW'.lt x (by simp [hx])
  obtain ⟨x0, rfl, rfl, rfl, wx0⟩ := open_int Try.underlying3 (hval 0 3 v0 rfl rfl) h0
  obtain ⟨ta, Lc, tc, rfl, hS⟩ := view_ops (hval 1 22 v1 rfl rfl) h1
  refine (ch_walk W x0 ta Lc tc hS).mono fun e W' ⟨he, ht⟩ => ?_
  have hb := ht.toBelow
  subst he
  exact ⟨_, rfl, _, _, _, [], _, [], hW', trodAll_mk1 (shut_bool Try.underlying4 _), trodAll_mk2 (shut_int Try.underlying3 wx0) (Below.trod Try.laidOut (by kernel_rfl) (of_decide_eq_true (by kernel_rfl)) h1 hb hlt), rfl, hb.frame _, fun h => by cases h⟩
theorem chainAlone_holds : Rows.ChainAloneSaid :=
  OpenClaim.holds_of_wide 3 Try.f3 rfl rfl rfl rfl rfl rfl rfl ⟨rfl, rfl, rfl, rfl, rfl⟩ rfl rfl rfl rfl rfl (by kernel_rfl) Try.func3 (by kernel_rfl)
    (of_decide_eq_true (by kernel_rfl)) (by unfold Func.isWrapper; rw [if_neg (of_decide_eq_false (by kernel_rfl))]; exact ⟨rfl, rfl⟩)
    (fun os started H enc _ => chainAlone_lifted os started H enc)
end Go.Proofs.Ytaaibhgbkdnlbaa

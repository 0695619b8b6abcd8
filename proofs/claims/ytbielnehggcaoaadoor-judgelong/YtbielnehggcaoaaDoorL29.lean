/-
  Is a part's Write open? The document's own way, by contract. (By the verifier; no statement.)
-/
import Derived.Test.YtbielnehggcaoaaDoorL28
import Derived.Test.YtbielnehggcaoaaDoorL22
namespace Go.Proofs.YtbielnehggcaoaaDoor
open Go.RowKit
set_option maxRecDepth 100000 in
set_option maxHeartbeats 6400000 in
theorem cBusy {w : World} {hb m : Nat} {lv tv ov : Value} {D : List Ev} {part : Int} (hH : w.heap[hb]? = some (.cells #[.int .i64 m, lv, tv, ov] 90 (0, 0))) (hm : 1 ≤ m) (hE : EsAt w lv D) (hl2 : ∀ i, (eAt D i).ns.length ≤ 1000000000) : Calls Tryd.prog 58 #[.pointer (some ⟨hb, 0, none⟩), .int .i64 part] w fun r w' => r = .returned (.bool (busyB m D D.length part)) ∧ Turned [] w w' := by
  obtain ⟨la, lc, rfl, -⟩ := id hE.ex
  have hl := hE.len
  have HB : Hid (∀ k, k < D.length → busyB m D k part = false → busyB m D (k + 1) part = ((eAt D k).good m && (decide ((eAt D k).e = 0) && ((eAt D k).pub && decide ((eAt D k).p = part)))) ∧ (((eAt D k).good m && (decide ((eAt D k).e = 0) && ((eAt D k).pub && decide ((eAt D k).p = part)))) = true → busyB m D D.length part = true)) := fun k hk h0 => by
    refine ⟨by rw [busyB_succ, h0, Bool.false_or, Bool.and_assoc, Bool.and_assoc], fun h1 => ?_⟩
    unfold busyB
    exact List.any_eq_true.2 ⟨k, List.mem_range.2 hk, by rw [Bool.and_assoc, Bool.and_assoc]; exact h1⟩
  have HF : Hid (∀ k, k < D.length → ∀ x, Turned [] w x → ∃ b o na nc pa pc, la = some ⟨b, o, none⟩ ∧ EvAt x b (o + k * 13) (eAt D k) ∧ x.cell? ⟨b, o + k * 13 + 11, none⟩ = some (.slice na (eAt D k).ns.length nc) ∧ x.cell? ⟨b, o + k * 13 + 12, none⟩ = some (.slice pa (eAt D k).ps.length pc) ∧ (∀ y, Turned [] x y → Calls Tryd.prog 38 #[.pointer (some ⟨hb, 0, none⟩), .agg (evA (eAt D k) (.slice na (eAt D k).ns.length nc) (.slice pa (eAt D k).ps.length pc))] y fun r w' => r = .returned (.bool ((eAt D k).good m)) ∧ Turned [] y w') ∧ (∀ y, Calls Tryd.prog 55 #[.agg (evA (eAt D k) (.slice na (eAt D k).ns.length nc) (.slice pa (eAt D k).ps.length pc))] y fun r w' => r = .returned (.bool (eAt D k).pub) ∧ Turned [] y w')) := fun k hk x hx => by
    obtain ⟨b, o, c, e1, he⟩ := (hE.still hx).get hk
    simp only [Value.slice.injEq] at e1
    obtain ⟨nv, n1, n2⟩ := he.c11
    obtain ⟨pv, q1, q2⟩ := he.c12
    obtain ⟨na, nc, rfl, -, -⟩ := id n2.ex
    obtain ⟨pa, pc, rfl, -⟩ := id q2.ex
    exact ⟨b, o, na, nc, pa, pc, e1.1, he, n1, q1, fun y hy => cIs ((hx.trans hy).heap hH (by simp)) hm (n2.still hy) (hl2 k), fun y => cWrites y⟩
  have HP : Hid (∀ y, Turned [] w y → hb < y.heap.size ∧ y.cell? ⟨hb, 1, none⟩ = some (.slice la D.length lc)) := fun y hy => by
    have h1 := hy.heap hH (by simp)
    exact ⟨lt_of_heap h1, by rw [cell_at h1]; rfl⟩
  clear hE hH hl2
  go_enter Tryd.func58, Tryd.ntmps58
  go_wp2
  go_loopw [5] (fun i wx => ∃ j : Nat, j ≤ D.length ∧ i = .int .i64 j ∧ Hid (busyB m D j part = false) ∧ Hid (Turned [] w wx)) (fun i _ => D.length - (intOf i).toNat)
  case atStart => exact ⟨0, Nat.zero_le _, rfl, rfl, Turned.refl _ _⟩
  case round =>
    obtain ⟨j, hj, rfl, HA, HX⟩ := hrel
    obtain ⟨s1, s2⟩ := HP.out wr HX.out
    by_cases hlt : j < D.length
    · obtain ⟨b, o, na, nc, pa, pc, rfl, he, f11, f12, pi, pw⟩ := HF.out j hlt wr HX.out
      obtain ⟨hn, hr⟩ := HB.out j hlt HA.out
      have HNs : Hid _ := hn
      have HRs : Hid _ := hr
      clear hn hr
      have PI : Hid _ := pi
      have PW : Hid _ := pw
      clear pi pw
      have f0 := he.c0
      have f1 := he.c1
      have f2 := he.c2
      have f3 := he.c3
      have f4 := he.c4
      have f5 := he.c5
      have f6 := he.c6
      have f7 := he.c7
      have f8 := he.c8
      have f9 := he.c9
      have f10 := he.c10
      have b3 := he.lt
      clear he
      generalize (eAt D j).good m = gd at *
      generalize (eAt D j).pub = pu at *
      generalize eAt D j = e at *
      obtain ⟨wk, eb, en, k, p, key, num, had, val, has, new, ns, ps⟩ := e
      dsimp only at *
      cases gd
      · have HN : Hid (busyB m D (j + 1) part = false) := by rw [Hid, HNs.out]; rfl
        clear HNs HRs
        go_wp2_with (go_at_call 38; refine (PI.out _ ((Turned.refl [] wr).alloc _)).mono ?_; rintro r z ⟨rfl, tz⟩; have hzz : z.heap[wr.heap.size]? = some (.cells (evA ⟨wk, eb, en, k, p, key, num, had, val, has, new, ns, ps⟩ (.slice na ns.length nc) (.slice pa ps.length pc)) 52 (0, 0)) := tz.heap (blk_new _ _) (by simp); have zl := lt_of_heap hzz; have z0 : z.cell? ⟨wr.heap.size, 0, none⟩ = some (.int .i64 wk) := by { rw [cell_at hzz]; rfl }; have z1 : z.cell? ⟨wr.heap.size, 1, none⟩ = some (.int .i64 eb) := by { rw [cell_at hzz]; rfl }; have z2 : z.cell? ⟨wr.heap.size, 2, none⟩ = some (.int .i64 en) := by { rw [cell_at hzz]; rfl }; have z3 : z.cell? ⟨wr.heap.size, 3, none⟩ = some (.int .i64 k) := by { rw [cell_at hzz]; rfl }; have z4 : z.cell? ⟨wr.heap.size, 4, none⟩ = some (.int .i64 p) := by { rw [cell_at hzz]; rfl }; have z5 : z.cell? ⟨wr.heap.size, 5, none⟩ = some (.int .i64 key) := by { rw [cell_at hzz]; rfl }; have z6 : z.cell? ⟨wr.heap.size, 6, none⟩ = some (.int .i64 num) := by { rw [cell_at hzz]; rfl }; have z7 : z.cell? ⟨wr.heap.size, 7, none⟩ = some (.bool had) := by { rw [cell_at hzz]; rfl }; have z8 : z.cell? ⟨wr.heap.size, 8, none⟩ = some (.int .i64 val) := by { rw [cell_at hzz]; rfl }; have z9 : z.cell? ⟨wr.heap.size, 9, none⟩ = some (.bool has) := by { rw [cell_at hzz]; rfl }; have z10 : z.cell? ⟨wr.heap.size, 10, none⟩ = some (.int .i64 new) := by { rw [cell_at hzz]; rfl }; have z11 : z.cell? ⟨wr.heap.size, 11, none⟩ = some (.slice na ns.length nc) := by { rw [cell_at hzz]; rfl }; have z12 : z.cell? ⟨wr.heap.size, 12, none⟩ = some (.slice pa ps.length pc) := by { rw [cell_at hzz]; rfl }; have HZ : Hid (Turned [] wr z) := ((Turned.refl [] wr).alloc _).trans tz; have HZZ : Hid _ := hzz; clear hzz tz)
        go_roundw
        case rel => exact ⟨j + 1, by omega, by go_num, HN.out, HX.out.trans HZ.out⟩
        case measure => simp [intOf]; omega
      · by_cases e0 : en = 0
        · have x0 : (en == 0) = true := by simpa using e0
          cases pu
          · have HN : Hid (busyB m D (j + 1) part = false) := by rw [Hid, HNs.out]; simp
            clear HNs HRs e0
            go_wp2_with (first | (go_at_call 38; refine (PI.out _ ((Turned.refl [] wr).alloc _)).mono ?_; rintro r z ⟨rfl, tz⟩; have hzz : z.heap[wr.heap.size]? = some (.cells (evA ⟨wk, eb, en, k, p, key, num, had, val, has, new, ns, ps⟩ (.slice na ns.length nc) (.slice pa ps.length pc)) 52 (0, 0)) := tz.heap (blk_new _ _) (by simp); have zl := lt_of_heap hzz; have z0 : z.cell? ⟨wr.heap.size, 0, none⟩ = some (.int .i64 wk) := by { rw [cell_at hzz]; rfl }; have z1 : z.cell? ⟨wr.heap.size, 1, none⟩ = some (.int .i64 eb) := by { rw [cell_at hzz]; rfl }; have z2 : z.cell? ⟨wr.heap.size, 2, none⟩ = some (.int .i64 en) := by { rw [cell_at hzz]; rfl }; have z3 : z.cell? ⟨wr.heap.size, 3, none⟩ = some (.int .i64 k) := by { rw [cell_at hzz]; rfl }; have z4 : z.cell? ⟨wr.heap.size, 4, none⟩ = some (.int .i64 p) := by { rw [cell_at hzz]; rfl }; have z5 : z.cell? ⟨wr.heap.size, 5, none⟩ = some (.int .i64 key) := by { rw [cell_at hzz]; rfl }; have z6 : z.cell? ⟨wr.heap.size, 6, none⟩ = some (.int .i64 num) := by { rw [cell_at hzz]; rfl }; have z7 : z.cell? ⟨wr.heap.size, 7, none⟩ = some (.bool had) := by { rw [cell_at hzz]; rfl }; have z8 : z.cell? ⟨wr.heap.size, 8, none⟩ = some (.int .i64 val) := by { rw [cell_at hzz]; rfl }; have z9 : z.cell? ⟨wr.heap.size, 9, none⟩ = some (.bool has) := by { rw [cell_at hzz]; rfl }; have z10 : z.cell? ⟨wr.heap.size, 10, none⟩ = some (.int .i64 new) := by { rw [cell_at hzz]; rfl }; have z11 : z.cell? ⟨wr.heap.size, 11, none⟩ = some (.slice na ns.length nc) := by { rw [cell_at hzz]; rfl }; have z12 : z.cell? ⟨wr.heap.size, 12, none⟩ = some (.slice pa ps.length pc) := by { rw [cell_at hzz]; rfl }; have HZ : Hid (Turned [] wr z) := ((Turned.refl [] wr).alloc _).trans tz; have HZZ : Hid _ := hzz; clear hzz tz) | (go_at_call 55; refine (PW.out _).mono ?_; rintro r y ⟨rfl, ty⟩; have hzy : y.heap[wr.heap.size]? = some (.cells (evA ⟨wk, eb, en, k, p, key, num, had, val, has, new, ns, ps⟩ (.slice na ns.length nc) (.slice pa ps.length pc)) 52 (0, 0)) := ty.heap HZZ.out (by simp); have yl := lt_of_heap hzy; have y4 : y.cell? ⟨wr.heap.size, 4, none⟩ = some (.int .i64 p) := by { rw [cell_at hzy]; rfl }; have HY : Hid (Turned [] wr y) := HZ.out.trans ty; clear hzy ty))
            go_roundw
            case rel => exact ⟨j + 1, by omega, by go_num, HN.out, HX.out.trans HY.out⟩
            case measure => simp [intOf]; omega
          · by_cases pp : p = part
            · have x1 : (p == part) = true := by simpa using pp
              have HR : Hid (busyB m D D.length part = true) := HRs.out (by simp [e0, pp])
              clear HNs HRs e0 pp
              go_wp2_with (first | (go_at_call 38; refine (PI.out _ ((Turned.refl [] wr).alloc _)).mono ?_; rintro r z ⟨rfl, tz⟩; have hzz : z.heap[wr.heap.size]? = some (.cells (evA ⟨wk, eb, en, k, p, key, num, had, val, has, new, ns, ps⟩ (.slice na ns.length nc) (.slice pa ps.length pc)) 52 (0, 0)) := tz.heap (blk_new _ _) (by simp); have zl := lt_of_heap hzz; have z0 : z.cell? ⟨wr.heap.size, 0, none⟩ = some (.int .i64 wk) := by { rw [cell_at hzz]; rfl }; have z1 : z.cell? ⟨wr.heap.size, 1, none⟩ = some (.int .i64 eb) := by { rw [cell_at hzz]; rfl }; have z2 : z.cell? ⟨wr.heap.size, 2, none⟩ = some (.int .i64 en) := by { rw [cell_at hzz]; rfl }; have z3 : z.cell? ⟨wr.heap.size, 3, none⟩ = some (.int .i64 k) := by { rw [cell_at hzz]; rfl }; have z4 : z.cell? ⟨wr.heap.size, 4, none⟩ = some (.int .i64 p) := by { rw [cell_at hzz]; rfl }; have z5 : z.cell? ⟨wr.heap.size, 5, none⟩ = some (.int .i64 key) := by { rw [cell_at hzz]; rfl }; have z6 : z.cell? ⟨wr.heap.size, 6, none⟩ = some (.int .i64 num) := by { rw [cell_at hzz]; rfl }; have z7 : z.cell? ⟨wr.heap.size, 7, none⟩ = some (.bool had) := by { rw [cell_at hzz]; rfl }; have z8 : z.cell? ⟨wr.heap.size, 8, none⟩ = some (.int .i64 val) := by { rw [cell_at hzz]; rfl }; have z9 : z.cell? ⟨wr.heap.size, 9, none⟩ = some (.bool has) := by { rw [cell_at hzz]; rfl }; have z10 : z.cell? ⟨wr.heap.size, 10, none⟩ = some (.int .i64 new) := by { rw [cell_at hzz]; rfl }; have z11 : z.cell? ⟨wr.heap.size, 11, none⟩ = some (.slice na ns.length nc) := by { rw [cell_at hzz]; rfl }; have z12 : z.cell? ⟨wr.heap.size, 12, none⟩ = some (.slice pa ps.length pc) := by { rw [cell_at hzz]; rfl }; have HZ : Hid (Turned [] wr z) := ((Turned.refl [] wr).alloc _).trans tz; have HZZ : Hid _ := hzz; clear hzz tz) | (go_at_call 55; refine (PW.out _).mono ?_; rintro r y ⟨rfl, ty⟩; have hzy : y.heap[wr.heap.size]? = some (.cells (evA ⟨wk, eb, en, k, p, key, num, had, val, has, new, ns, ps⟩ (.slice na ns.length nc) (.slice pa ps.length pc)) 52 (0, 0)) := ty.heap HZZ.out (by simp); have yl := lt_of_heap hzy; have y4 : y.cell? ⟨wr.heap.size, 4, none⟩ = some (.int .i64 p) := by { rw [cell_at hzy]; rfl }; have HY : Hid (Turned [] wr y) := HZ.out.trans ty; clear hzy ty))
              go_ret
              exact ⟨by rw [HR.out] <;> rfl, HX.out.trans HY.out⟩
            · have x1 : (p == part) = false := by simpa using pp
              have HN : Hid (busyB m D (j + 1) part = false) := by rw [Hid, HNs.out]; simp [pp]
              clear HNs HRs e0 pp
              go_wp2_with (first | (go_at_call 38; refine (PI.out _ ((Turned.refl [] wr).alloc _)).mono ?_; rintro r z ⟨rfl, tz⟩; have hzz : z.heap[wr.heap.size]? = some (.cells (evA ⟨wk, eb, en, k, p, key, num, had, val, has, new, ns, ps⟩ (.slice na ns.length nc) (.slice pa ps.length pc)) 52 (0, 0)) := tz.heap (blk_new _ _) (by simp); have zl := lt_of_heap hzz; have z0 : z.cell? ⟨wr.heap.size, 0, none⟩ = some (.int .i64 wk) := by { rw [cell_at hzz]; rfl }; have z1 : z.cell? ⟨wr.heap.size, 1, none⟩ = some (.int .i64 eb) := by { rw [cell_at hzz]; rfl }; have z2 : z.cell? ⟨wr.heap.size, 2, none⟩ = some (.int .i64 en) := by { rw [cell_at hzz]; rfl }; have z3 : z.cell? ⟨wr.heap.size, 3, none⟩ = some (.int .i64 k) := by { rw [cell_at hzz]; rfl }; have z4 : z.cell? ⟨wr.heap.size, 4, none⟩ = some (.int .i64 p) := by { rw [cell_at hzz]; rfl }; have z5 : z.cell? ⟨wr.heap.size, 5, none⟩ = some (.int .i64 key) := by { rw [cell_at hzz]; rfl }; have z6 : z.cell? ⟨wr.heap.size, 6, none⟩ = some (.int .i64 num) := by { rw [cell_at hzz]; rfl }; have z7 : z.cell? ⟨wr.heap.size, 7, none⟩ = some (.bool had) := by { rw [cell_at hzz]; rfl }; have z8 : z.cell? ⟨wr.heap.size, 8, none⟩ = some (.int .i64 val) := by { rw [cell_at hzz]; rfl }; have z9 : z.cell? ⟨wr.heap.size, 9, none⟩ = some (.bool has) := by { rw [cell_at hzz]; rfl }; have z10 : z.cell? ⟨wr.heap.size, 10, none⟩ = some (.int .i64 new) := by { rw [cell_at hzz]; rfl }; have z11 : z.cell? ⟨wr.heap.size, 11, none⟩ = some (.slice na ns.length nc) := by { rw [cell_at hzz]; rfl }; have z12 : z.cell? ⟨wr.heap.size, 12, none⟩ = some (.slice pa ps.length pc) := by { rw [cell_at hzz]; rfl }; have HZ : Hid (Turned [] wr z) := ((Turned.refl [] wr).alloc _).trans tz; have HZZ : Hid _ := hzz; clear hzz tz) | (go_at_call 55; refine (PW.out _).mono ?_; rintro r y ⟨rfl, ty⟩; have hzy : y.heap[wr.heap.size]? = some (.cells (evA ⟨wk, eb, en, k, p, key, num, had, val, has, new, ns, ps⟩ (.slice na ns.length nc) (.slice pa ps.length pc)) 52 (0, 0)) := ty.heap HZZ.out (by simp); have yl := lt_of_heap hzy; have y4 : y.cell? ⟨wr.heap.size, 4, none⟩ = some (.int .i64 p) := by { rw [cell_at hzy]; rfl }; have HY : Hid (Turned [] wr y) := HZ.out.trans ty; clear hzy ty))
              go_roundw
              case rel => exact ⟨j + 1, by omega, by go_num, HN.out, HX.out.trans HY.out⟩
              case measure => simp [intOf]; omega
        · have x0 : (en == 0) = false := by simpa using e0
          have HN : Hid (busyB m D (j + 1) part = false) := by rw [Hid, HNs.out]; simp [e0]
          clear HNs HRs e0
          go_wp2_with (go_at_call 38; refine (PI.out _ ((Turned.refl [] wr).alloc _)).mono ?_; rintro r z ⟨rfl, tz⟩; have hzz : z.heap[wr.heap.size]? = some (.cells (evA ⟨wk, eb, en, k, p, key, num, had, val, has, new, ns, ps⟩ (.slice na ns.length nc) (.slice pa ps.length pc)) 52 (0, 0)) := tz.heap (blk_new _ _) (by simp); have zl := lt_of_heap hzz; have z0 : z.cell? ⟨wr.heap.size, 0, none⟩ = some (.int .i64 wk) := by { rw [cell_at hzz]; rfl }; have z1 : z.cell? ⟨wr.heap.size, 1, none⟩ = some (.int .i64 eb) := by { rw [cell_at hzz]; rfl }; have z2 : z.cell? ⟨wr.heap.size, 2, none⟩ = some (.int .i64 en) := by { rw [cell_at hzz]; rfl }; have z3 : z.cell? ⟨wr.heap.size, 3, none⟩ = some (.int .i64 k) := by { rw [cell_at hzz]; rfl }; have z4 : z.cell? ⟨wr.heap.size, 4, none⟩ = some (.int .i64 p) := by { rw [cell_at hzz]; rfl }; have z5 : z.cell? ⟨wr.heap.size, 5, none⟩ = some (.int .i64 key) := by { rw [cell_at hzz]; rfl }; have z6 : z.cell? ⟨wr.heap.size, 6, none⟩ = some (.int .i64 num) := by { rw [cell_at hzz]; rfl }; have z7 : z.cell? ⟨wr.heap.size, 7, none⟩ = some (.bool had) := by { rw [cell_at hzz]; rfl }; have z8 : z.cell? ⟨wr.heap.size, 8, none⟩ = some (.int .i64 val) := by { rw [cell_at hzz]; rfl }; have z9 : z.cell? ⟨wr.heap.size, 9, none⟩ = some (.bool has) := by { rw [cell_at hzz]; rfl }; have z10 : z.cell? ⟨wr.heap.size, 10, none⟩ = some (.int .i64 new) := by { rw [cell_at hzz]; rfl }; have z11 : z.cell? ⟨wr.heap.size, 11, none⟩ = some (.slice na ns.length nc) := by { rw [cell_at hzz]; rfl }; have z12 : z.cell? ⟨wr.heap.size, 12, none⟩ = some (.slice pa ps.length pc) := by { rw [cell_at hzz]; rfl }; have HZ : Hid (Turned [] wr z) := ((Turned.refl [] wr).alloc _).trans tz; have HZZ : Hid _ := hzz; clear hzz tz)
          go_roundw
          case rel => exact ⟨j + 1, by omega, by go_num, HN.out, HX.out.trans HZ.out⟩
          case measure => simp [intOf]; omega
    · obtain rfl : j = D.length := by omega
      go_wp2
      go_ret
      exact ⟨by rw [HA.out] <;> rfl, HX.out⟩
end Go.Proofs.YtbielnehggcaoaaDoor
/-
  What stands while events are judged: the history's parts in memory. (By the verifier; no statement.)
-/
namespace Go.Proofs.YtbielnehggcaoaaDoor
open Go.RowKit
theorem EsAt.kept {w w' : World} {ev : Value} {D : List Ev} (h : EsAt w ev D) (hb : Below w.heap.size w w') : EsAt w' ev D := by
  obtain ⟨a, c, e, hc⟩ := h.ex
  refine ⟨h.len, a, c, e, fun i d hd => ?_⟩
  obtain ⟨b, o, ea, hE⟩ := hc i d hd
  exact ⟨b, o, ea, hE.below hb rfl⟩
theorem OW.far {α : Type} {T : TypeId} {k B : Nat} {enc : α → List Value} {w w' : World} {v : Value} {R : List α} {F : List Nat} (h : OW T k enc B w v R) (ht : Turned F w w') (hF : ∀ g, g ∈ F → g < B) : OW T k enc B w' v R := h.keep ht fun g hg hm => by
  have h1 := (h.fresh hg).1
  have h2 := hF g hm
  omega
theorem TB.far {B n : Nat} {w w' : World} {v : Value} {f : Hold} {F : List Nat} (h : TB B w v f n) (ht : Turned F w w') (hF : ∀ g, g ∈ F → g < B) : TB B w' v f n := by
  obtain ⟨l, h1, h2, h3⟩ := h.ex
  exact ⟨l, h1.far ht hF, h2, h3⟩
theorem RowT.far {B : Nat} {w w' : World} {v : Value} {H : List Hold} {F : List Nat} (h : RowT B w v H) (ht : Turned F w w') (hF : ∀ g, g ∈ F → g < B) : RowT B w' v H := by
  obtain ⟨L, h1, h2, h3⟩ := h.ex
  exact ⟨L, h1.far ht hF, h2, fun j hj => (h3 j hj).far ht hF⟩
/-- All parts' versions, in memory of their own. -/
structure TdAt (B : Nat) (w : World) (v : Value) (n : Nat) (V : Nat → List Hold) : Prop where
  ex : ∃ L : List SV, OW 91 1 encT B w v L ∧ L.length = n ∧ ∀ (p : Nat) (hp : p < L.length), RowT B w (slV L[p]) (V p)
section
variable {B n : Nat} {w w' x y z : World} {v : Value} {V : Nat → List Hold}
theorem TdAt.far {F : List Nat} (h : TdAt B w v n V) (ht : Turned F w w') (hF : ∀ g, g ∈ F → g < B) : TdAt B w' v n V := by
  obtain ⟨L, h1, h2, h3⟩ := h.ex
  exact ⟨L, h1.far ht hF, h2, fun j hj => (h3 j hj).far ht hF⟩
theorem TdAt.nil (B : Nat) (w : World) (V : Nat → List Hold) : TdAt B w (.slice none 0 0) 0 V := ⟨[], OW.nil _ _ _ _ _, rfl, fun p hp => absurd hp (Nat.not_lt_zero p)⟩
theorem TdAt.slice (h : TdAt B w v n V) : ∃ a c, v = .slice a n c := by
  obtain ⟨L, h1, h2, _⟩ := h.ex
  obtain ⟨a, c, e⟩ := h1.slice
  exact ⟨a, c, by rw [← h2, e]⟩
theorem TdAt.get (h : TdAt B w v n V) {p : Nat} (hp : p < n) : ∃ (b o c : Nat) (a : Option Addr) (k : Nat), v = .slice (some ⟨b, o, none⟩) n c ∧ (∀ y, Turned [] w y → b < y.heap.size ∧ y.cell? ⟨b, o + p, none⟩ = some (.slice a (V p).length k)) ∧ RowT B w (.slice a (V p).length k) (V p) := by
  obtain ⟨L, h1, h2, h3⟩ := h.ex
  have hp' : p < L.length := by omega
  obtain ⟨b, o, c, e, _, hc⟩ := h1.view.get enT (by decide) hp'
  obtain ⟨a, k, e2⟩ := (h3 p hp').slice
  refine ⟨b, o, c, a, k, by rw [← h2]; exact e, fun y hy => ?_, by rw [← e2]; exact h3 p hp'⟩
  have c0 := hy.cell (hc 0 _ rfl) (by simp)
  rw [Nat.mul_one, Nat.add_zero, e2] at c0
  exact ⟨World.block_lt_of_cell? _ _ c0, c0⟩
/-- One more part's. -/
theorem TdAt.push {L : List SV} {q : SV} {v2 : Value} (h1 : OW 91 1 encT B w v L) (h2 : L.length = n) (h3 : ∀ (p : Nat) (hp : p < L.length), RowT B w (slV L[p]) (V p)) (hxy : Turned [] w y) (hq : RowT B y (slV q) (V n)) (ht : Turned v.ownBlock.toList y z) (ho : OW 91 1 encT B z v2 (L ++ [q])) : TdAt B z v2 (n + 1) V := by
  have hty : ∀ g cs T, g ∈ v.ownBlock.toList → y.heap[g]? = some (.cells cs T (0, 0)) → T ≠ 67 ∧ T ≠ 118 := fun g cs T hg hc => by
    simp only [Option.mem_toList] at hg
    obtain ⟨cs', h4⟩ := h1.type hg
    have h5 := hxy.heap h4 (by simp)
    rw [h5] at hc
    simp only [Option.some.injEq, Obj.cells.injEq] at hc
    exact ⟨by rw [← hc.2.1]; decide, by rw [← hc.2.1]; decide⟩
  refine ⟨L ++ [q], ho, by simp [h2], fun j hj => ?_⟩
  by_cases e : j < L.length
  · have e1 : (L ++ [q])[j] = L[j] := List.getElem_append_left e
    rw [e1]
    exact ((h3 j e).still hxy).keep ht hty
  · have hj2 : j = L.length := by simp at hj; omega
    subst hj2
    rw [List.getElem_append_right (by omega)]
    simp only [Nat.sub_self, List.getElem_cons_zero]
    rw [h2]
    exact hq.keep ht hty
end
/-- What stands. -/
structure VS (w0 w1 : World) (hb : Nat) (lv tv : Value) (S : List (List (Int × Int))) (D : List Ev) : Prop where
  t01 : Turned [] w0 w1
  hb0 : w0.heap.size ≤ hb ∧ hb < w1.heap.size
  es : EsAt w0 lv D
  td : TdAt (hb + 1) w1 tv S.length (vsOf S D)
  dim : 1 ≤ S.length ∧ S.length ≤ 64 ∧ D.length ≤ 1024
  ns : ∀ i, (eAt D i).ns.length ≤ 1000000
  nm : ∀ i, (eAt D i).num < 9223372036854775808
section
variable {w0 w1 x : World} {hb : Nat} {lv tv : Value} {S : List (List (Int × Int))} {D : List Ev} {O : List Bm}
theorem VS.turn (h : VS w0 w1 hb lv tv S D) (hv : VX w1 hb S.length lv tv O x) : Turned [] w0 x := h.t01.inner hv.tu fun g hg => .inr (by rw [List.mem_singleton.1 hg]; exact h.hb0.1)
theorem VS.evs (h : VS w0 w1 hb lv tv S D) (hv : VX w1 hb S.length lv tv O x) : EsAt x lv D := by
  have h1 : Below w0.heap.size w0 w1 := h.t01.below (Below.refl _ _) (by simp) (Nat.le_refl _)
  refine h.es.kept (hv.tu.below h1 (fun y hy => ?_) h.t01.size)
  rw [List.mem_singleton.1 hy]
  exact h.hb0.1
theorem VS.told (h : VS w0 w1 hb lv tv S D) (hv : VX w1 hb S.length lv tv O x) : TdAt (hb + 1) x tv S.length (vsOf S D) := h.td.far hv.tu fun g hg => by
  rw [List.mem_singleton.1 hg]
  omega
/-- A part's versions, wherever events are judged. -/
theorem VS.row (h : VS w0 w1 hb lv tv S D) {p : Nat} (hp : p < S.length) : ∃ (b o c : Nat) (a : Option Addr) (k : Nat), tv = .slice (some ⟨b, o, none⟩) S.length c ∧ ∀ O y, VX w1 hb S.length lv tv O y → (b < y.heap.size ∧ y.cell? ⟨b, o + p, none⟩ = some (.slice a (vsOf S D p).length k)) ∧ RowT (hb + 1) y (.slice a (vsOf S D p).length k) (vsOf S D p) := by
  obtain ⟨L, h1, h2, h3⟩ := h.td.ex
  have hp' : p < L.length := by omega
  obtain ⟨b, o, c, e, -, -⟩ := h1.view.get enT (by decide) hp'
  obtain ⟨a, k, e2⟩ := (h3 p hp').slice
  refine ⟨b, o, c, a, k, by rw [← h2]; exact e, fun O y hv => ?_⟩
  have hF : ∀ g, g ∈ [hb] → g < hb + 1 := fun g hg => by rw [List.mem_singleton.1 hg]; omega
  obtain ⟨b', o', c', e', _, hc⟩ := (h1.far hv.tu hF).view.get enT (by decide) hp'
  rw [e] at e'
  simp only [Value.slice.injEq, Option.some.injEq, Addr.mk.injEq] at e'
  obtain ⟨⟨rfl, rfl, -⟩, -, -⟩ := e'
  have c0 := hc 0 _ rfl
  rw [Nat.mul_one, Nat.add_zero, e2] at c0
  exact ⟨⟨World.block_lt_of_cell? _ _ c0, c0⟩, by rw [← e2]; exact (h3 p hp').far hv.tu hF⟩
theorem tbl_len (m : Int) (D : List Ev) (p : Int) : ∀ (g u : Nat) (f : Hold), (tblL m D p g u f).length ≤ g + 1
  | 0, _, _ => Nat.le_refl _
  | g + 1, u, f => by
    unfold tblL
    rw [List.length_cons]
    split
    · have := tbl_len m D p g (u + 1) (f.chg (eAt D (placeN m D D.length p (u + 1))))
      omega
    · simp
theorem vs_len (S : List (List (Int × Int))) (D : List Ev) (p : Nat) : (vsOf S D p).length ≤ D.length + 1 := tbl_len _ _ _ _ _ _
end
end Go.Proofs.YtbielnehggcaoaaDoor

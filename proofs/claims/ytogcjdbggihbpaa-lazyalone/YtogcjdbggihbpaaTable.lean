/- A table: what NewTable makes; Get; which are made. -/
import Derived.Test.YtogcjdbggihbpaaRetry
import Derived.Deep.RegionWith
import Derived.Deep.RegionLaw
import Derived.Deep.CutRange
import Derived.BigQuiet
import Derived.Deep.QuietTactic
namespace Go.Proofs.Ytogcjdbggihbpaa
open Go.RowKit Go.Conc Go.MuLone

theorem Try.info34 : (Try.prog.info? 34).map (fun i => (i.zero, i.size, i.bytes)) = some (some (.pointer none), 1, 8) := by kernel_rfl
abbrev onceT (N i : Nat) : Obj := onceObj 0 0 (.func (.func 34) #[] #[.pointer (some ⟨N, 0, none⟩), .pointer (some ⟨N + 3 + 2 * i, 0, none⟩)]) 0 0 0
/-- A table that is half made: k of its n Onces stand. -/
structure Tbl (N n : Nat) (fv : Value) (w wx : World) (k : Nat) : Prop where
  below : Below N w wx
  size : wx.heap.size = N + 3 + 2 * k
  fbox : wx.heap[N]? = some (.cells #[fv] 48 (0, 0))
  tab : wx.heap[N + 2]? = some (.cells #[.slice (some ⟨N + 1, 0, none⟩) n n] 95 (0, 0))
  row : wx.rowIs (N + 1) 34 n (fun i => if i < k then .pointer (some ⟨N + 4 + 2 * i, 0, none⟩) else .pointer none)
  ibox : ∀ i : Nat, i < k → wx.heap[N + 3 + 2 * i]? = some (.cells #[.int .i64 i] 3 (0, 0))
  once : ∀ i, i < k → wx.heap[N + 4 + 2 * i]? = some (onceT N i)
theorem Tbl.drew {N n : Nat} {fv : Value} {w wx : World} {k : Nat} (h : Tbl N n fv w wx k) : Tbl N n fv w wx.drew k := ⟨h.below.drew, h.size, h.fbox, h.tab, h.row, h.ibox, h.once⟩
theorem Tbl.next {N n : Nat} {fv : Value} {w wx : World} {k : Nat} (h : Tbl N n fv w wx k) :
    Tbl N n fv w (((wx.setCell ⟨N + 1, k, none⟩ (.pointer (some ⟨wx.heap.size + 1, 0, none⟩))).alloc (.cells #[.int .i64 k] 3)).alloc (onceObj 0 0 (.func (.func 34) #[] #[.pointer (some ⟨N, 0, none⟩), .pointer (some ⟨wx.heap.size, 0, none⟩)]) 0 0 0)) (k + 1) := by
  have hs := h.size
  have hz : (wx.setCell ⟨N + 1, k, none⟩ (.pointer (some ⟨wx.heap.size + 1, 0, none⟩))).heap.size = wx.heap.size := by simp [World.setCell]
  have hb2 : ∀ {b : Nat} {o : Obj}, wx.heap[b]? = some o → b ≠ N + 1 → (((wx.setCell ⟨N + 1, k, none⟩ (.pointer (some ⟨wx.heap.size + 1, 0, none⟩))).alloc (.cells #[.int .i64 k] 3)).alloc (onceObj 0 0 (.func (.func 34) #[] #[.pointer (some ⟨N, 0, none⟩), .pointer (some ⟨wx.heap.size, 0, none⟩)]) 0 0 0)).heap[b]? = some o := fun {b} {o} hb hne => blk_old (blk_old ((blk_other hne _ _).trans hb) _) _
  refine ⟨((h.below.setCell (by simp) _).alloc (by simp; omega) _).alloc (by simp; omega) _, by simp [World.setCell, hs]; try omega, hb2 h.fbox (by omega), hb2 h.tab (by omega), ?_, fun i hi => ?_, fun i hi => ?_⟩
  · refine ((((h.row.set k _).alloc _).alloc _).congr fun i hi => ?_)
    by_cases e : i = k
    · subst e; simp [hs]; try omega
    · by_cases e2 : i < k
      · simp [e, e2, (by omega : i < k + 1)]
      · simp [e, e2]; omega
  · by_cases e : i = k
    · subst e
      have hn := blk_old (blk_new (wx.setCell ⟨N + 1, i, none⟩ (.pointer (some ⟨wx.heap.size + 1, 0, none⟩))) (.cells #[.int .i64 (i : Int)] 3)) (onceObj 0 0 (.func (.func 34) #[] #[.pointer (some ⟨N, 0, none⟩), .pointer (some ⟨wx.heap.size, 0, none⟩)]) 0 0 0)
      rw [hz] at hn
      rw [← (by omega : wx.heap.size = N + 3 + 2 * i)]
      exact hn
    · exact hb2 (h.ibox i (by omega)) (by omega)
  · by_cases e : i = k
    · subst e
      have hn := blk_new ((wx.setCell ⟨N + 1, i, none⟩ (.pointer (some ⟨wx.heap.size + 1, 0, none⟩))).alloc (.cells #[.int .i64 (i : Int)] 3)) (onceObj 0 0 (.func (.func 34) #[] #[.pointer (some ⟨N, 0, none⟩), .pointer (some ⟨wx.heap.size, 0, none⟩)]) 0 0 0)
      have hs2 : ((wx.setCell ⟨N + 1, i, none⟩ (.pointer (some ⟨wx.heap.size + 1, 0, none⟩))).alloc (.cells #[.int .i64 (i : Int)] 3)).heap.size = N + 4 + 2 * i := by simp [World.setCell, hs]; try omega
      rw [hs2, hs] at hn
      rw [hs]
      exact hn
    · exact hb2 (h.once i (by omega)) (by omega)
theorem tbl_start (n : Nat) (fv : Value) (w : World) :
    Tbl w.heap.size n fv w (((w.alloc (.cells #[fv] 48)).alloc (.cells (madeCells #[.pointer none] n) 34)).alloc (.cells #[.slice (some ⟨w.heap.size + 1, 0, none⟩) n n] 95)) 0 := by
  refine ⟨(((Below.refl _ _).alloc (Nat.le_refl _) _).alloc (by simp) _).alloc (by simp; omega) _, by simp, ?_, ?_, ?_, fun i hi => absurd hi (Nat.not_lt_zero _), fun i hi => absurd hi (Nat.not_lt_zero _)⟩
  · exact blk_old (blk_old (blk_new w _) _) _
  · have := blk_new ((w.alloc (.cells #[fv] 48)).alloc (.cells (madeCells #[.pointer none] n) 34)) (.cells #[.slice (some ⟨w.heap.size + 1, 0, none⟩) n n] 95)
    simpa using this
  · have := ((w.alloc (.cells #[fv] 48)).rowIs_made (.pointer none) n 34).alloc (.cells #[.slice (some ⟨w.heap.size + 1, 0, none⟩) n n] 95)
    simpa using this
set_option maxRecDepth 100000 in
set_option maxHeartbeats 1600000 in
theorem cNewTable (w : World) (n : Nat) (fn : Fn) (fi cap : Array Value) (h1 : 1 ≤ n) (h2 : n ≤ 256) :
    Calls Try.prog 9 #[.int .i64 n, .func fn fi cap] w fun e w' => e = .returned (.tuple #[.pointer (some ⟨w.heap.size + 2, 0, none⟩), .int .i64 0]) ∧ Tbl w.heap.size n (.func fn fi cap) w w' n := by
  have hmf : ∀ (fn : Fn) (first cap : Array Value) (w : World), (Instr.makeFunc fn first cap).run Try.prog w = .ok (.func fn first cap) w := fun _ _ _ _ => rfl
  have hmk := run_make_row' (P := Try.prog) 25 34 (.pointer none) 8 Try.underlying25 Try.info34 rfl .i64 .i64 n (by omega) (by omega)
  have H0 : Hid _ := tbl_start n (.func fn fi cap) w
  go_enter Try.func9, Try.ntmps9
  go_wp2
  go_loopw [7, 23] (fun p i wx => ∃ k : Nat, k ≤ n ∧ i = .int .i64 k ∧ Hid (Tbl w.heap.size n (.func fn fi cap) w wx k)) (fun _ i _ => n - (intOf i).toNat)
  case atStart => exact ⟨0, Nat.zero_le _, rfl, H0⟩
  case round =>
    obtain ⟨k, hk, rfl, HT⟩ := hrel
    clear H0
    by_cases hkn : k < n
    · have hb := HT.out.row.lt
      have ct : wr.cell? ⟨w.heap.size + 1 + 1, 0, none⟩ = some (.slice (some ⟨w.heap.size + 1, 0, none⟩) n n) := cell_at HT.out.tab 0
      have hb2 := lt_of_heap HT.out.tab
      have hn1 : ¬ w.heap.size + 1 = wr.heap.size := by omega
      have hn2 : ¬ w.heap.size + 1 + 1 = wr.heap.size := by omega
      have hn3 : ¬ w.heap.size + 1 = wr.heap.size + 1 := by omega
      have hn5 : ¬ w.heap.size = wr.heap.size := by omega
      have hn4 : ¬ w.heap.size + 1 + 1 = wr.heap.size + 1 := by omega
      have cr := HT.out.row.cell hkn
      have zr := HT.out.row.frozen k
      simp at cr
      have hb0 : w.heap.size < wr.heap.size := by omega
      go_wp2
      go_region_with (go_at_call 6; refine (cNewOnce _ 34 _).mono ?_; rintro e w' ⟨rfl, rfl⟩)
      all_goals
        go_wp2
        exact ⟨⟨k + 1, by omega, by go_num, HT.out.next.drew⟩, by simp [intOf]; omega⟩
    · have : k = n := by omega
      subst this
      go_wp2
      go_ret2
      exact ⟨rfl, HT.out⟩
end Go.Proofs.Ytogcjdbggihbpaa

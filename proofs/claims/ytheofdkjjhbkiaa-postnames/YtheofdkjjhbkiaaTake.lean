/- What Step answers of a nil worker, and take, Take, Len of a box that stands open. -/
import Derived.Test.YtheofdkjjhbkiaaBox
namespace Go.Proofs.Ytheofdkjjhbkiaa
open Go.RowKit Go.Conc Go.MuLone

theorem cStep (w : World) : Calls Try.prog 19 #[.pointer none] w fun e w' => e = .returned (.tuple #[]) ∧ w' = w := by
  go_enter Try.func19, Try.ntmps19
  go_wp2
  refine bodyPost_ret (results_none rfl _ _ _) rfl ?_
  exact ⟨rfl, rfl⟩

/-- What a Take answers, and how the channel stands behind it. -/
theorem cTakeEmpty {w : World} {lk : Int} {b c cap : Nat} {s r : Nat} {n : Int} (h : Box w lk b c cap #[] false s r n) :
    Calls Try.prog 22 #[.pointer (some ⟨b, 0, none⟩)] w fun e w' => e = .returned (.tuple #[.int .i64 0, .int .i64 63]) ∧ w' = w := by
  have h2 := h.h2
  have hh : Hid (w.heap[c]? = some (.chan cap #[] false s r false)) := h.hc
  clear h
  go_enter Try.func22, Try.ntmps22
  refine wp_seq_k fun K hK => ?_
  have HK : Hid _ := hK
  clear hK
  go_wp2
  refine HK.out _ _ ?_
  clear HK K
  refine wp_seq_k fun K hK => ?_
  have HK : Hid _ := hK
  clear hK
  go_wp2
  refine HK.out _ _ ?_
  clear HK K
  refine wp_seq_k fun K hK => ?_
  refine wp_region_select (v := .tuple #[goInt (-1), .bool false, .int .i64 0]) (w'' := w) (cases := #[rcase c (.int .i64 0)]) ?_ ?_ ?_
  · simp [go_sem, execOp, rcase, Act.eval]
  · exact fun fr cs es he => step_lone_select_default he hh.out
  go_wp2
  go_ret2
  exact ⟨rfl, rfl⟩

theorem cTakeOne {w : World} {lk : Int} {b c cap : Nat} {x : Int} {s r : Nat} {n : Int} (h : Box w lk b c cap #[.int .i64 x] false s r n) :
    Calls Try.prog 22 #[.pointer (some ⟨b, 0, none⟩)] w fun e w' => e = .returned (.tuple #[.int .i64 x, .int .i64 0]) ∧ w' = w.setChan c cap #[] false s (r + 1) false := by
  have h2 := h.h2
  have hh : Hid (w.heap[c]? = some (.chan cap #[.int .i64 x] false s r false)) := h.hc
  clear h
  go_enter Try.func22, Try.ntmps22
  refine wp_seq_k fun K hK => ?_
  have HK : Hid _ := hK
  clear hK
  go_wp2
  refine HK.out _ _ ?_
  clear HK K
  refine wp_seq_k fun K hK => ?_
  have HK : Hid _ := hK
  clear hK
  go_wp2
  refine HK.out _ _ ?_
  clear HK K
  refine wp_seq_k fun K hK => ?_
  refine wp_region_select (v := .tuple #[goInt 0, .bool true, .int .i64 x]) (w'' := w.setChan c cap #[] false s (r + 1) false) (cases := #[rcase c (.int .i64 0)]) ?_ ?_ ?_
  · simp [go_sem, execOp, rcase, Act.eval]
  · exact fun fr cs es he => by simpa using step_lone_select_recv_buf he hh.out (by simp)
  go_wp2
  go_ret2
  exact ⟨rfl, rfl⟩

/-- Whatever lies below both blocks stays. -/
def Kept (b c : Nat) (w w' : World) : Prop := ∀ (B : Nat) (a : World), B ≤ b → B ≤ c → Below B a w → Below B a w'
theorem Kept.lock {b c : Nat} {w w' : World} (h : Kept b c w w') (i : Nat) (v : Value) : Kept b c w (w'.setCell ⟨b, i, none⟩ v) :=
  fun B a hb hc hl => (h B a hb hc hl).setCell hb _
theorem Kept.chan {b c : Nat} {w w' : World} (h : Kept b c w w') (cap : Nat) (buf : Array Value) (cl : Bool) (s r : Nat) (tm : Bool) : Kept b c w (w'.setChan c cap buf cl s r tm) :=
  fun B a hb hc hl => below_setChan (h B a hb hc hl) hc _ _ _ _ _ _
theorem Kept.refl (b c : Nat) (w : World) : Kept b c w w := fun _ _ _ _ h => h

set_option maxHeartbeats 400000 in
theorem cTakeNone {w : World} {b c cap : Nat} {s r : Nat} {n : Int} (h : Box w 0 b c cap #[] false s r n) :
    Calls Try.prog 6 #[.pointer (some ⟨b, 0, none⟩), .pointer none] w fun e w' => e = .returned (.tuple #[.int .i64 0, .int .i64 63]) ∧ Box w' 0 b c cap #[] false s r n ∧ Kept b c w w' := by
  have h1 := h.lock 1
  go_enter_defers Try.func6, Try.ntmps6
  go_wp2_with (first
    | (go_at_call 19; refine (cStep _).mono ?_; rintro e w' ⟨rfl, rfl⟩)
    | (go_at_call 20; refine (lock_free Try.muLib ⟨b, 0, none⟩ _ h.h0 h.z0).mono ?_; rintro e w' ⟨rfl, rfl⟩)
    | (go_at_call 22; refine (cTakeEmpty h1).mono ?_; rintro e w' ⟨rfl, rfl⟩))
  refine leaves_cons (f := 21) (args := #[.pointer (some ⟨b, 0, none⟩)]) (by simp) (by simp [go_sem]) ?_
  refine (unlock_deferred Try.muLib ⟨b, 0, none⟩ .returning _ h1.h0 h1.z0).mono ?_
  rintro e u' w'' ⟨rfl, rfl, rfl⟩
  exact ⟨_, results_tmp2 rfl _ _ _, rfl, h1.lock 0, ((Kept.refl b c _).lock 0 _).lock 0 _⟩

set_option maxHeartbeats 400000 in
theorem cTakeSome {w : World} {b c cap : Nat} {x : Int} {s r : Nat} {n : Int} (h : Box w 0 b c cap #[.int .i64 x] false s r n) :
    Calls Try.prog 6 #[.pointer (some ⟨b, 0, none⟩), .pointer none] w fun e w' => e = .returned (.tuple #[.int .i64 x, .int .i64 0]) ∧ Box w' 0 b c cap #[] false s (r + 1) n ∧ Kept b c w w' := by
  have h1 := h.lock 1
  have h5 := h1.chan #[] s (r + 1)
  go_enter_defers Try.func6, Try.ntmps6
  go_wp2_with (first
    | (go_at_call 19; refine (cStep _).mono ?_; rintro e w' ⟨rfl, rfl⟩)
    | (go_at_call 20; refine (lock_free Try.muLib ⟨b, 0, none⟩ _ h.h0 h.z0).mono ?_; rintro e w' ⟨rfl, rfl⟩)
    | (go_at_call 22; refine (cTakeOne h1).mono ?_; rintro e w' ⟨rfl, rfl⟩))
  refine leaves_cons (f := 21) (args := #[.pointer (some ⟨b, 0, none⟩)]) (by simp) (by simp [go_sem]) ?_
  refine (unlock_deferred Try.muLib ⟨b, 0, none⟩ .returning _ h5.h0 h5.z0).mono ?_
  rintro e u' w'' ⟨rfl, rfl, rfl⟩
  exact ⟨_, results_tmp2 rfl _ _ _, rfl, h5.lock 0, (((Kept.refl b c _).lock 0 _).chan _ _ _ _ _ _).lock 0 _⟩

set_option maxHeartbeats 400000 in
theorem cLen {w : World} {b c cap : Nat} {buf : Array Value} {s r : Nat} {n : Int} (h : Box w 0 b c cap buf false s r n) :
    Calls Try.prog 8 #[.pointer (some ⟨b, 0, none⟩), .pointer none] w fun e w' => e = .returned (goInt buf.size) ∧ Box w' 0 b c cap buf false s r n ∧ Kept b c w w' := by
  have h1 := h.lock 1
  have h2 := h1.h2
  have hl := run_len_chan (P := Try.prog) 55 3 Try.underlying55 h1.hc
  go_enter_defers Try.func8, Try.ntmps8
  go_wp2_with (first
    | (go_at_call 19; refine (cStep _).mono ?_; rintro e w' ⟨rfl, rfl⟩)
    | (go_at_call 20; refine (lock_free Try.muLib ⟨b, 0, none⟩ _ h.h0 h.z0).mono ?_; rintro e w' ⟨rfl, rfl⟩))
  refine leaves_cons (f := 21) (args := #[.pointer (some ⟨b, 0, none⟩)]) (by simp) (by simp [go_sem]) ?_
  refine (unlock_deferred Try.muLib ⟨b, 0, none⟩ .returning _ h1.h0 h1.z0).mono ?_
  rintro e u' w'' ⟨rfl, rfl, rfl⟩
  exact ⟨_, results_tmp rfl _ _ _, rfl, h1.lock 0, ((Kept.refl b c _).lock 0 _).lock 0 _⟩

theorem run_add64 {a : Addr} {x : Int} {w : World} (hc : w.cell? a = some (.int .i64 x)) (hz : w.frozen? a = false) :
    (callFunc 37 #[.pointer (some a), .int .i64 1]).run Try.prog w = .ok (.value (.int .i64 (IntKind.i64.wrap (x + 1)))) (w.setCell a (.int .i64 (IntKind.i64.wrap (x + 1)))) :=
  run_call_add Try.func37 (by kernel_rfl) (by kernel_rfl) (by kernel_rfl) .i64 (by kernel_rfl) hc hz (by simp [go_sem])

theorem cAdd {w : World} {a : Addr} {x : Int} (hc : w.cell? a = some (.int .i64 x)) (hz : w.frozen? a = false) :
    Calls Try.prog 13 #[.pointer (some a), .int .i64 1] w fun e w' => e = .returned (.int .i64 (wrap64 (x + 1))) ∧ w' = w.setCell a (.int .i64 (wrap64 (x + 1))) := by
  have hr := run_add64 hc hz
  obtain ⟨B, o, sp⟩ := a
  go_enter Try.func13, Try.ntmps13
  go_wp2
  go_ret
  exact ⟨rfl, rfl⟩

set_option maxHeartbeats 800000 in
theorem cSend {w : World} {b c cap : Nat} {buf : Array Value} {x : Int} {s r : Nat} {n : Int} (h : Box w 0 b c cap buf false s r n) (hroom : buf.size < cap) :
    Calls Try.prog 7 #[.pointer (some ⟨b, 0, none⟩), .pointer none, .int .i64 x] w fun e w' => e = .returned (.int .i64 0) ∧ Box w' 0 b c cap (buf.push (.int .i64 x)) false (s + 1) r (wrap64 (n + 1)) ∧ Kept b c w w' := by
  have h1 := h.lock 1
  have h2 := h1.h2
  have h3 := h1.h3
  have hh : Hid _ := h1.hc
  have h5 := h1.chan (buf.push (.int .i64 x)) (s + 1) r
  have h6 := h5.count (wrap64 (n + 1))
  go_enter_defers Try.func7, Try.ntmps7
  refine wp_seq_k fun K hK => ?_
  have HK : Hid _ := hK
  clear hK
  go_wp2
  refine HK.out _ _ ?_
  clear HK K
  refine wp_seq_k fun K hK => ?_
  have HK : Hid _ := hK
  clear hK
  go_wp2_with (go_at_call 19; refine (cStep _).mono ?_; rintro e w' ⟨rfl, rfl⟩)
  refine HK.out _ _ ?_
  clear HK K
  refine wp_seq_k fun K hK => ?_
  have HK : Hid _ := hK
  clear hK
  go_wp2_with (go_at_call 20; refine (lock_free Try.muLib ⟨b, 0, none⟩ _ h.h0 h.z0).mono ?_; rintro e w' ⟨rfl, rfl⟩)
  refine HK.out _ _ ?_
  clear HK K
  refine wp_seq_k fun K hK => ?_
  have HK : Hid _ := hK
  clear hK
  go_wp2
  refine HK.out _ _ ?_
  clear HK K
  refine wp_seq_k fun K hK => ?_
  have HK : Hid _ := hK
  clear hK
  go_wp2
  refine HK.out _ _ ?_
  clear HK K
  refine wp_seq_k fun K hK => ?_
  have HK : Hid _ := hK
  clear hK
  go_wp2
  refine HK.out _ _ ?_
  clear HK K
  refine wp_seq_k fun K hK => ?_
  refine wp_region_select (cases := #[scase c (.int .i64 x) (.int .i64 0)]) ?_ (fun fr cs es he => step_lone_select_send_room he hh.out hroom) ?_
  · simp [go_sem, execOp, scase, Act.eval]
  go_wp2_with (go_at_call 13; refine (cAdd h5.h4 h5.z4).mono ?_; rintro e w' ⟨rfl, rfl⟩)
  refine leaves_cons (f := 21) (args := #[.pointer (some ⟨b, 0, none⟩)]) (by simp) (by simp [go_sem]) ?_
  refine (unlock_deferred Try.muLib ⟨b, 0, none⟩ .returning _ h6.h0 h6.z0).mono ?_
  rintro e u' w'' ⟨rfl, rfl, rfl⟩
  exact ⟨_, results_tmp rfl _ _ _, rfl, h6.lock 0, ((((Kept.refl b c _).lock 0 _).chan _ _ _ _ _ _).lock 4 _).lock 0 _⟩
end Go.Proofs.Ytheofdkjjhbkiaa

/- The law's 'does': its regions. -/
import Derived.Test.YtjbhnpofdafmbaaGreatDoorJ35
import Derived.Test.YtjbhnpofdafmbaaGreatDoorJ36
import Derived.Test.YtjbhnpofdafmbaaGreatDoorJ37
namespace Go.Proofs.YtjbhnpofdafmbaaGreatDoor
open Go.RowKit
/-- A sub-code by its path: 0 left, 1 right. -/
def sub : List Nat → Code → Code
  | [], c => c
  | 0 :: p, .seq a _ => sub p a
  | _ :: p, .seq _ b => sub p b
  | 0 :: p, .cond _ a _ => sub p a
  | _ :: p, .cond _ _ b => sub p b
  | _ :: p, .block _ c => sub p c
  | _ :: p, .scope c => sub p c
  | _ :: p, .loop c => sub p c
  | _, _ => .skip
def atc (b : Option Code) (p : List Nat) : Code := sub p (b.getD .skip)
set_option maxRecDepth 100000 in
set_option maxHeartbeats 1600000 in
theorem does_r7 {K : Act → World → Prop} {Q : Exit → Act → World → Prop} {a : Act} {w : World} {w0 : World} {b : PairB} {hs_ : List Int} {sP sR s2 : PSt} {ob tb c : Nat} {o_ : OpV} {T : List Nat} {za zz : Int} (hs : a.tmps.size = 316) (x0 : a.eval (.tmp 0) = pv b.x 0) (x3 : a.eval (.tmp 3) = pv ob 0) (hn : s2.n = sP.n) (hD : DS w0 b hs_ sP sR ob tb o_ T c w) (HB : ∀ {x : World} {L : Nat → Nat}, PA x b.p b.sb b.pb b.nb L sP → Calls Tryz.prog 12 #[.pointer (some ⟨b.p, 0, none⟩), .pointer none, .agg #[.int .i64 o_.x0, .int .i64 o_.x1, .int .i64 o_.x2, .int .i64 o_.x3], .int .i64 o_.v] x fun e w' => e = .returned (.tuple #[.int .i64 za, .int .i64 zz]) ∧ PDone x b.p b.sb b.pb b.nb L sP s2 w')
    (hEnd : ∀ a1 w1, a1.tmps.size = a.tmps.size → a1.defers = a.defers → (∀ s : Nat, s < 7 → a1.eval (.tmp s) = a.eval (.tmp s)) → a1.eval (.tmp 7) = vi za → a1.eval (.tmp 8) = vi zz → (DS w0 b hs_ s2 sR ob tb o_ T c w1) → K a1 w1) :
    (Code.region 7 (opsOf 7 Tryz.f6.body) true).wp Tryz.prog (Exit.then K Q) a w := by
  refine wp_region_chainP (by kernel_rfl) [some 64, some 65, some 66, some 67, some 68, some 69, some 70, some 71, some 72, some 63, some 73, some 74, some 7, some 8] (fun kk => match kk with
      | 0 => pv b.x 0
      | 1 => pv b.x 0
      | 2 => pv b.x 0
      | 3 => pv b.p 0
      | 4 => pv ob 4
      | 5 => nodeV4 o_.x0 o_.x1 o_.x2 o_.x3
      | 6 => pv ob 3
      | 7 => vi o_.v
      | 8 => Value.tuple #[.int .i64 za, .int .i64 zz]
      | 9 => Value.tuple #[.int .i64 za, .int .i64 zz]
      | 10 => vi za
      | 11 => vi zz
      | 12 => vi za
      | 13 => vi zz
      | _ => undef) (by rw [hs]; kernel_rfl) [8] (fun jj => match jj with
      | 0 => fun x => DS w0 b hs_ sP sR ob tb o_ T c x
      | _ => fun x => DS w0 b hs_ s2 sR ob tb o_ T c x) hD.drew (by decide) (by decide +kernel) ?_ ?_ ?_
  · intro kk gg bq h
    exact (no_guard (by kernel_rfl) h).elim
  · intro kk hk hgd o ac wa M K ho hd _ hoff hv hpre hL hK
    rcases (by simp at hk; omega : kk = 0 ∨ kk = 1 ∨ kk = 2 ∨ kk = 3 ∨ kk = 4 ∨ kk = 5 ∨ kk = 6 ∨ kk = 7 ∨ kk = 8 ∨ kk = 9 ∨ kk = 10 ∨ kk = 11 ∨ kk = 12 ∨ kk = 13) with rfl | rfl | rfl | rfl | rfl | rfl | rfl | rfl | rfl | rfl | rfl | rfl | rfl | rfl
    · obtain ⟨hM, jw, hjw, hW, hjR⟩ := hL.off (by decide)
      replace hK := hK _ hM
      exact l_val hd ((x_move (op_is rfl ho)).trans (by rw [(hoff 0 (by decide)).trans x0]; rfl)) hK
    · obtain ⟨hM, jw, hjw, hW, hjR⟩ := hL.off (by decide)
      replace hK := hK _ hM
      exact l_val hd (x_nil (op_is rfl ho) (hv 0 64 rfl (by kernel_rfl))) hK
    · obtain ⟨hM, jw, hjw, hW, hjR⟩ := hL.off (by decide)
      replace hK := hK _ hM
      exact l_val hd (x_field (op_is rfl ho) (by rw [hv 1 65 rfl (by kernel_rfl)]; unfold pv; go_simp)) hK
    · obtain ⟨hM, jw, hjw, hW, hjR⟩ := hL.off (by decide)
      replace hK := hK _ hM
      have hj := hjR 0 8 rfl (by decide +kernel)
      obtain rfl : jw = 0 := by omega
      exact l_val hd (x_load (op_is rfl ho) (by rw [hv 2 66 rfl (by kernel_rfl)]; refine ld_pool ?_; exact hW.c0)) hK
    · obtain ⟨hM, jw, hjw, hW, hjR⟩ := hL.off (by decide)
      replace hK := hK _ hM
      exact l_val hd (x_field (op_is rfl ho) (by rw [(hoff 3 (by decide)).trans x3]; unfold pv; go_simp)) hK
    · obtain ⟨hM, jw, hjw, hW, hjR⟩ := hL.off (by decide)
      replace hK := hK _ hM
      have hj := hjR 0 8 rfl (by decide +kernel)
      obtain rfl : jw = 0 := by omega
      exact l_val hd (x_load (op_is rfl ho) (by rw [hv 4 68 rfl (by kernel_rfl)]; exact DS.oX hW)) hK
    · obtain ⟨hM, jw, hjw, hW, hjR⟩ := hL.off (by decide)
      replace hK := hK _ hM
      exact l_val hd (x_field (op_is rfl ho) (by rw [(hoff 3 (by decide)).trans x3]; unfold pv; go_simp)) hK
    · obtain ⟨hM, jw, hjw, hW, hjR⟩ := hL.off (by decide)
      replace hK := hK _ hM
      have hj := hjR 0 8 rfl (by decide +kernel)
      obtain rfl : jw = 0 := by omega
      exact l_val hd (x_load (op_is rfl ho) (by rw [hv 6 70 rfl (by kernel_rfl)]; refine ld_int ?_; exact hW.oV)) hK
    · obtain ⟨hW, rfl⟩ := hL.at_ (by decide) (j := 0) rfl
      exact l_callP hd (op_is rfl ho) (by simp only [List.map_toArray, List.map_cons, List.map_nil, hv 3 67 rfl (by kernel_rfl), hv 5 69 rfl (by kernel_rfl), hv 7 71 rfl (by kernel_rfl)] <;> rfl) Tryz.func12 (by kernel_rfl) (by rfl) (hW.callP hn HB) hK
    · obtain ⟨hM, jw, hjw, hW, hjR⟩ := hL.off (by decide)
      replace hK := hK _ hM
      exact l_val hd ((x_move (op_is rfl ho)).trans (by rw [hv 8 72 rfl (by kernel_rfl)]; rfl)) hK
    · obtain ⟨hM, jw, hjw, hW, hjR⟩ := hL.off (by decide)
      replace hK := hK _ hM
      exact l_val (v := vi za) hd (x_extract (op_is rfl ho) (hv 9 63 rfl (by kernel_rfl)) rfl) hK
    · obtain ⟨hM, jw, hjw, hW, hjR⟩ := hL.off (by decide)
      replace hK := hK _ hM
      exact l_val (v := vi zz) hd (x_extract (op_is rfl ho) (hv 9 63 rfl (by kernel_rfl)) rfl) hK
    · obtain ⟨hM, jw, hjw, hW, hjR⟩ := hL.off (by decide)
      replace hK := hK _ hM
      exact l_val hd ((x_assign (op_is rfl ho)).trans (by rw [hv 10 73 rfl (by kernel_rfl)]; rfl)) hK
    · obtain ⟨hM, jw, hjw, hW, hjR⟩ := hL.off (by decide)
      replace hK := hK _ hM
      exact l_val hd ((x_assign (op_is rfl ho)).trans (by rw [hv 11 74 rfl (by kernel_rfl)]; rfl)) hK
  · intro a1 g1 g2 g3 g4 w1 hW
    exact hEnd a1 w1 g1 g2 (fun s hs'  => ev_same (g3 s (fun hm => by simp at hm; omega))) (g4 12 7 rfl) (g4 13 8 rfl) hW
set_option maxRecDepth 100000 in
set_option maxHeartbeats 1600000 in
theorem does_r8 {K : Act → World → Prop} {Q : Exit → Act → World → Prop} {a : Act} {w : World} {w0 : World} {b : PairB} {hs_ : List Int} {sP sR s2 : PSt} {ob tb c : Nat} {o_ : OpV} {T : List Nat} {za zz : Int} (hs : a.tmps.size = 316) (x0 : a.eval (.tmp 0) = pv b.x 0) (x3 : a.eval (.tmp 3) = pv ob 0) (x5 : a.eval (.tmp 5) = pv tb 0) (hc : c ≤ 1000) (hD : DS w0 b hs_ sP sR ob tb o_ T c w) (HB : ∀ {x : World} {T : List Nat} {c : Nat}, Th T x tb b.r.m c → RP x b.r sR → b.r.g ∉ T → c ≤ 1000 → Calls Tryz.prog 20 #[.pointer (some ⟨b.r.q, 0, none⟩), .pointer (some ⟨tb, 0, none⟩), .agg #[.int .i64 o_.x0, .int .i64 o_.x1, .int .i64 o_.x2, .int .i64 o_.x3], .int .i64 o_.v] x fun e w' => e = .returned (.tuple #[.int .i64 za, .int .i64 zz]) ∧ ∃ T', RGo b.r T x tb (c + 20) s2 T' w')
    (hEnd : ∀ a1 w1, a1.tmps.size = a.tmps.size → a1.defers = a.defers → (∀ s : Nat, s < 9 → a1.eval (.tmp s) = a.eval (.tmp s)) → a1.eval (.tmp 9) = vi za → a1.eval (.tmp 10) = vi zz → (∃ T1, DS w0 b hs_ sP s2 ob tb o_ T1 (c + 20) w1) → K a1 w1) :
    (Code.region 8 (opsOf 8 Tryz.f6.body) true).wp Tryz.prog (Exit.then K Q) a w := by
  refine wp_region_chainP (by kernel_rfl) [some 76, some 77, some 78, some 79, some 80, some 81, some 82, some 83, some 84, some 85, some 75, some 86, some 87, some 9, some 10] (fun kk => match kk with
      | 0 => pv b.x 0
      | 1 => pv b.x 0
      | 2 => pv b.x 1
      | 3 => pv b.r.q 0
      | 4 => pv tb 0
      | 5 => pv ob 4
      | 6 => nodeV4 o_.x0 o_.x1 o_.x2 o_.x3
      | 7 => pv ob 3
      | 8 => vi o_.v
      | 9 => Value.tuple #[.int .i64 za, .int .i64 zz]
      | 10 => Value.tuple #[.int .i64 za, .int .i64 zz]
      | 11 => vi za
      | 12 => vi zz
      | 13 => vi za
      | 14 => vi zz
      | _ => undef) (by rw [hs]; kernel_rfl) [9] (fun jj => match jj with
      | 0 => fun x => DS w0 b hs_ sP sR ob tb o_ T c x
      | _ => fun x => ∃ T1, DS w0 b hs_ sP s2 ob tb o_ T1 (c + 20) x) hD.drew (by decide) (by decide +kernel) ?_ ?_ ?_
  · intro kk gg bq h
    exact (no_guard (by kernel_rfl) h).elim
  · intro kk hk hgd o ac wa M K ho hd _ hoff hv hpre hL hK
    rcases (by simp at hk; omega : kk = 0 ∨ kk = 1 ∨ kk = 2 ∨ kk = 3 ∨ kk = 4 ∨ kk = 5 ∨ kk = 6 ∨ kk = 7 ∨ kk = 8 ∨ kk = 9 ∨ kk = 10 ∨ kk = 11 ∨ kk = 12 ∨ kk = 13 ∨ kk = 14) with rfl | rfl | rfl | rfl | rfl | rfl | rfl | rfl | rfl | rfl | rfl | rfl | rfl | rfl | rfl
    · obtain ⟨hM, jw, hjw, hW, hjR⟩ := hL.off (by decide)
      replace hK := hK _ hM
      exact l_val hd ((x_move (op_is rfl ho)).trans (by rw [(hoff 0 (by decide)).trans x0]; rfl)) hK
    · obtain ⟨hM, jw, hjw, hW, hjR⟩ := hL.off (by decide)
      replace hK := hK _ hM
      exact l_val hd (x_nil (op_is rfl ho) (hv 0 76 rfl (by kernel_rfl))) hK
    · obtain ⟨hM, jw, hjw, hW, hjR⟩ := hL.off (by decide)
      replace hK := hK _ hM
      exact l_val hd (x_field (op_is rfl ho) (by rw [hv 1 77 rfl (by kernel_rfl)]; unfold pv; go_simp)) hK
    · obtain ⟨hM, jw, hjw, hW, hjR⟩ := hL.off (by decide)
      replace hK := hK _ hM
      have hj := hjR 0 9 rfl (by decide +kernel)
      obtain rfl : jw = 0 := by omega
      exact l_val hd (x_load (op_is rfl ho) (by rw [hv 2 78 rfl (by kernel_rfl)]; refine ld_rpool ?_; exact hW.c1)) hK
    · obtain ⟨hM, jw, hjw, hW, hjR⟩ := hL.off (by decide)
      replace hK := hK _ hM
      exact l_val hd ((x_move (op_is rfl ho)).trans (by rw [(hoff 5 (by decide)).trans x5]; rfl)) hK
    · obtain ⟨hM, jw, hjw, hW, hjR⟩ := hL.off (by decide)
      replace hK := hK _ hM
      exact l_val hd (x_field (op_is rfl ho) (by rw [(hoff 3 (by decide)).trans x3]; unfold pv; go_simp)) hK
    · obtain ⟨hM, jw, hjw, hW, hjR⟩ := hL.off (by decide)
      replace hK := hK _ hM
      have hj := hjR 0 9 rfl (by decide +kernel)
      obtain rfl : jw = 0 := by omega
      exact l_val hd (x_load (op_is rfl ho) (by rw [hv 5 81 rfl (by kernel_rfl)]; exact DS.oX hW)) hK
    · obtain ⟨hM, jw, hjw, hW, hjR⟩ := hL.off (by decide)
      replace hK := hK _ hM
      exact l_val hd (x_field (op_is rfl ho) (by rw [(hoff 3 (by decide)).trans x3]; unfold pv; go_simp)) hK
    · obtain ⟨hM, jw, hjw, hW, hjR⟩ := hL.off (by decide)
      replace hK := hK _ hM
      have hj := hjR 0 9 rfl (by decide +kernel)
      obtain rfl : jw = 0 := by omega
      exact l_val hd (x_load (op_is rfl ho) (by rw [hv 7 83 rfl (by kernel_rfl)]; refine ld_int ?_; exact hW.oV)) hK
    · obtain ⟨hW, rfl⟩ := hL.at_ (by decide) (j := 0) rfl
      exact l_callP hd (op_is rfl ho) (by simp only [List.map_toArray, List.map_cons, List.map_nil, hv 3 79 rfl (by kernel_rfl), hv 4 80 rfl (by kernel_rfl), hv 6 82 rfl (by kernel_rfl), hv 8 84 rfl (by kernel_rfl)] <;> rfl) Tryz.func20 (by kernel_rfl) (by rfl) (hW.callR (HB hW.th hW.rp hW.out hc)) hK
    · obtain ⟨hM, jw, hjw, hW, hjR⟩ := hL.off (by decide)
      replace hK := hK _ hM
      exact l_val hd ((x_move (op_is rfl ho)).trans (by rw [hv 9 85 rfl (by kernel_rfl)]; rfl)) hK
    · obtain ⟨hM, jw, hjw, hW, hjR⟩ := hL.off (by decide)
      replace hK := hK _ hM
      exact l_val (v := vi za) hd (x_extract (op_is rfl ho) (hv 10 75 rfl (by kernel_rfl)) rfl) hK
    · obtain ⟨hM, jw, hjw, hW, hjR⟩ := hL.off (by decide)
      replace hK := hK _ hM
      exact l_val (v := vi zz) hd (x_extract (op_is rfl ho) (hv 10 75 rfl (by kernel_rfl)) rfl) hK
    · obtain ⟨hM, jw, hjw, hW, hjR⟩ := hL.off (by decide)
      replace hK := hK _ hM
      exact l_val hd ((x_assign (op_is rfl ho)).trans (by rw [hv 11 86 rfl (by kernel_rfl)]; rfl)) hK
    · obtain ⟨hM, jw, hjw, hW, hjR⟩ := hL.off (by decide)
      replace hK := hK _ hM
      exact l_val hd ((x_assign (op_is rfl ho)).trans (by rw [hv 12 87 rfl (by kernel_rfl)]; rfl)) hK
  · intro a1 g1 g2 g3 g4 w1 hW
    exact hEnd a1 w1 g1 g2 (fun s hs'  => ev_same (g3 s (fun hm => by simp at hm; omega))) (g4 13 9 rfl) (g4 14 10 rfl) hW
set_option maxRecDepth 100000 in
set_option maxHeartbeats 1600000 in
theorem does_r23 {K : Act → World → Prop} {Q : Exit → Act → World → Prop} {a : Act} {w : World} {w0 : World} {b : PairB} {hs_ : List Int} {sP sR s2 : PSt} {ob tb c : Nat} {o_ : OpV} {T : List Nat} {hh : Int} {zz : Int} {zb : Bool} (hs : a.tmps.size = 316) (x0 : a.eval (.tmp 0) = pv b.x 0) (x3 : a.eval (.tmp 3) = pv ob 0) (x6 : a.eval (.tmp 6) = vi hh) (hn : s2.n = sP.n) (hD : DS w0 b hs_ sP sR ob tb o_ T c w) (HB : ∀ {x : World} {L : Nat → Nat}, PA x b.p b.sb b.pb b.nb L sP → Calls Tryz.prog 25 #[.pointer (some ⟨b.p, 0, none⟩), .pointer none, .int .i64 hh, .int .i64 o_.a, .int .i64 o_.v] x fun e w' => e = .returned (.tuple #[.bool zb, .int .i64 zz]) ∧ PDone x b.p b.sb b.pb b.nb L sP s2 w')
    (hEnd : ∀ a1 w1, a1.tmps.size = a.tmps.size → a1.defers = a.defers → (∀ s : Nat, s < 7 → a1.eval (.tmp s) = a.eval (.tmp s)) → a1.eval (.tmp 19) = Value.bool zb → a1.eval (.tmp 20) = vi zz → (DS w0 b hs_ s2 sR ob tb o_ T c w1) → K a1 w1) :
    (Code.region 23 (opsOf 23 Tryz.f6.body) true).wp Tryz.prog (Exit.then K Q) a w := by
  refine wp_region_chainP (by kernel_rfl) [some 189, some 190, some 191, some 192, some 193, some 194, some 195, some 196, some 197, some 198, some 188, some 199, some 200, some 19, some 20] (fun kk => match kk with
      | 0 => pv b.x 0
      | 1 => pv b.x 0
      | 2 => pv b.x 0
      | 3 => pv b.p 0
      | 4 => vi hh
      | 5 => pv ob 2
      | 6 => vi o_.a
      | 7 => pv ob 3
      | 8 => vi o_.v
      | 9 => Value.tuple #[.bool zb, .int .i64 zz]
      | 10 => Value.tuple #[.bool zb, .int .i64 zz]
      | 11 => Value.bool zb
      | 12 => vi zz
      | 13 => Value.bool zb
      | 14 => vi zz
      | _ => undef) (by rw [hs]; kernel_rfl) [9] (fun jj => match jj with
      | 0 => fun x => DS w0 b hs_ sP sR ob tb o_ T c x
      | _ => fun x => DS w0 b hs_ s2 sR ob tb o_ T c x) hD.drew (by decide) (by decide +kernel) ?_ ?_ ?_
  · intro kk gg bq h
    exact (no_guard (by kernel_rfl) h).elim
  · intro kk hk hgd o ac wa M K ho hd _ hoff hv hpre hL hK
    rcases (by simp at hk; omega : kk = 0 ∨ kk = 1 ∨ kk = 2 ∨ kk = 3 ∨ kk = 4 ∨ kk = 5 ∨ kk = 6 ∨ kk = 7 ∨ kk = 8 ∨ kk = 9 ∨ kk = 10 ∨ kk = 11 ∨ kk = 12 ∨ kk = 13 ∨ kk = 14) with rfl | rfl | rfl | rfl | rfl | rfl | rfl | rfl | rfl | rfl | rfl | rfl | rfl | rfl | rfl
    · obtain ⟨hM, jw, hjw, hW, hjR⟩ := hL.off (by decide)
      replace hK := hK _ hM
      exact l_val hd ((x_move (op_is rfl ho)).trans (by rw [(hoff 0 (by decide)).trans x0]; rfl)) hK
    · obtain ⟨hM, jw, hjw, hW, hjR⟩ := hL.off (by decide)
      replace hK := hK _ hM
      exact l_val hd (x_nil (op_is rfl ho) (hv 0 189 rfl (by kernel_rfl))) hK
    · obtain ⟨hM, jw, hjw, hW, hjR⟩ := hL.off (by decide)
      replace hK := hK _ hM
      exact l_val hd (x_field (op_is rfl ho) (by rw [hv 1 190 rfl (by kernel_rfl)]; unfold pv; go_simp)) hK
    · obtain ⟨hM, jw, hjw, hW, hjR⟩ := hL.off (by decide)
      replace hK := hK _ hM
      have hj := hjR 0 9 rfl (by decide +kernel)
      obtain rfl : jw = 0 := by omega
      exact l_val hd (x_load (op_is rfl ho) (by rw [hv 2 191 rfl (by kernel_rfl)]; refine ld_pool ?_; exact hW.c0)) hK
    · obtain ⟨hM, jw, hjw, hW, hjR⟩ := hL.off (by decide)
      replace hK := hK _ hM
      exact l_val hd ((x_move (op_is rfl ho)).trans (by rw [(hoff 6 (by decide)).trans x6]; rfl)) hK
    · obtain ⟨hM, jw, hjw, hW, hjR⟩ := hL.off (by decide)
      replace hK := hK _ hM
      exact l_val hd (x_field (op_is rfl ho) (by rw [(hoff 3 (by decide)).trans x3]; unfold pv; go_simp)) hK
    · obtain ⟨hM, jw, hjw, hW, hjR⟩ := hL.off (by decide)
      replace hK := hK _ hM
      have hj := hjR 0 9 rfl (by decide +kernel)
      obtain rfl : jw = 0 := by omega
      exact l_val hd (x_load (op_is rfl ho) (by rw [hv 5 194 rfl (by kernel_rfl)]; refine ld_int ?_; exact hW.oA)) hK
    · obtain ⟨hM, jw, hjw, hW, hjR⟩ := hL.off (by decide)
      replace hK := hK _ hM
      exact l_val hd (x_field (op_is rfl ho) (by rw [(hoff 3 (by decide)).trans x3]; unfold pv; go_simp)) hK
    · obtain ⟨hM, jw, hjw, hW, hjR⟩ := hL.off (by decide)
      replace hK := hK _ hM
      have hj := hjR 0 9 rfl (by decide +kernel)
      obtain rfl : jw = 0 := by omega
      exact l_val hd (x_load (op_is rfl ho) (by rw [hv 7 196 rfl (by kernel_rfl)]; refine ld_int ?_; exact hW.oV)) hK
    · obtain ⟨hW, rfl⟩ := hL.at_ (by decide) (j := 0) rfl
      exact l_callP hd (op_is rfl ho) (by simp only [List.map_toArray, List.map_cons, List.map_nil, hv 3 192 rfl (by kernel_rfl), hv 4 193 rfl (by kernel_rfl), hv 6 195 rfl (by kernel_rfl), hv 8 197 rfl (by kernel_rfl)] <;> rfl) Tryz.func25 (by kernel_rfl) (by rfl) (hW.callP hn HB) hK
    · obtain ⟨hM, jw, hjw, hW, hjR⟩ := hL.off (by decide)
      replace hK := hK _ hM
      exact l_val hd ((x_move (op_is rfl ho)).trans (by rw [hv 9 198 rfl (by kernel_rfl)]; rfl)) hK
    · obtain ⟨hM, jw, hjw, hW, hjR⟩ := hL.off (by decide)
      replace hK := hK _ hM
      exact l_val (v := Value.bool zb) hd (x_extract (op_is rfl ho) (hv 10 188 rfl (by kernel_rfl)) rfl) hK
    · obtain ⟨hM, jw, hjw, hW, hjR⟩ := hL.off (by decide)
      replace hK := hK _ hM
      exact l_val (v := vi zz) hd (x_extract (op_is rfl ho) (hv 10 188 rfl (by kernel_rfl)) rfl) hK
    · obtain ⟨hM, jw, hjw, hW, hjR⟩ := hL.off (by decide)
      replace hK := hK _ hM
      exact l_val hd ((x_assign (op_is rfl ho)).trans (by rw [hv 11 199 rfl (by kernel_rfl)]; rfl)) hK
    · obtain ⟨hM, jw, hjw, hW, hjR⟩ := hL.off (by decide)
      replace hK := hK _ hM
      exact l_val hd ((x_assign (op_is rfl ho)).trans (by rw [hv 12 200 rfl (by kernel_rfl)]; rfl)) hK
  · intro a1 g1 g2 g3 g4 w1 hW
    exact hEnd a1 w1 g1 g2 (fun s hs'  => ev_same (g3 s (fun hm => by simp at hm; omega))) (g4 13 19 rfl) (g4 14 20 rfl) hW
set_option maxRecDepth 100000 in
set_option maxHeartbeats 1600000 in
theorem does_r24 {K : Act → World → Prop} {Q : Exit → Act → World → Prop} {a : Act} {w : World} {w0 : World} {b : PairB} {hs_ : List Int} {sP sR s2 : PSt} {ob tb c : Nat} {o_ : OpV} {T : List Nat} {hh : Int} {zz : Int} {zb : Bool} (hs : a.tmps.size = 316) (x0 : a.eval (.tmp 0) = pv b.x 0) (x3 : a.eval (.tmp 3) = pv ob 0) (x5 : a.eval (.tmp 5) = pv tb 0) (x6 : a.eval (.tmp 6) = vi hh) (hc : c ≤ 1000) (hD : DS w0 b hs_ sP sR ob tb o_ T c w) (HB : ∀ {x : World} {T : List Nat} {c : Nat}, Th T x tb b.r.m c → RP x b.r sR → b.r.g ∉ T → c ≤ 1000 → Calls Tryz.prog 26 #[.pointer (some ⟨b.r.q, 0, none⟩), .pointer (some ⟨tb, 0, none⟩), .int .i64 hh, .int .i64 o_.a, .int .i64 o_.v] x fun e w' => e = .returned (.tuple #[.bool zb, .int .i64 zz]) ∧ ∃ T', RGo b.r T x tb (c + 20) s2 T' w')
    (hEnd : ∀ a1 w1, a1.tmps.size = a.tmps.size → a1.defers = a.defers → (∀ s : Nat, s < 21 → a1.eval (.tmp s) = a.eval (.tmp s)) → a1.eval (.tmp 21) = Value.bool zb → a1.eval (.tmp 22) = vi zz → (∃ T1, DS w0 b hs_ sP s2 ob tb o_ T1 (c + 20) w1) → K a1 w1) :
    (Code.region 24 (opsOf 24 Tryz.f6.body) true).wp Tryz.prog (Exit.then K Q) a w := by
  refine wp_region_chainP (by kernel_rfl) [some 202, some 203, some 204, some 205, some 206, some 207, some 208, some 209, some 210, some 211, some 212, some 201, some 213, some 214, some 21, some 22] (fun kk => match kk with
      | 0 => pv b.x 0
      | 1 => pv b.x 0
      | 2 => pv b.x 1
      | 3 => pv b.r.q 0
      | 4 => pv tb 0
      | 5 => vi hh
      | 6 => pv ob 2
      | 7 => vi o_.a
      | 8 => pv ob 3
      | 9 => vi o_.v
      | 10 => Value.tuple #[.bool zb, .int .i64 zz]
      | 11 => Value.tuple #[.bool zb, .int .i64 zz]
      | 12 => Value.bool zb
      | 13 => vi zz
      | 14 => Value.bool zb
      | 15 => vi zz
      | _ => undef) (by rw [hs]; kernel_rfl) [10] (fun jj => match jj with
      | 0 => fun x => DS w0 b hs_ sP sR ob tb o_ T c x
      | _ => fun x => ∃ T1, DS w0 b hs_ sP s2 ob tb o_ T1 (c + 20) x) hD.drew (by decide) (by decide +kernel) ?_ ?_ ?_
  · intro kk gg bq h
    exact (no_guard (by kernel_rfl) h).elim
  · intro kk hk hgd o ac wa M K ho hd _ hoff hv hpre hL hK
    rcases (by simp at hk; omega : kk = 0 ∨ kk = 1 ∨ kk = 2 ∨ kk = 3 ∨ kk = 4 ∨ kk = 5 ∨ kk = 6 ∨ kk = 7 ∨ kk = 8 ∨ kk = 9 ∨ kk = 10 ∨ kk = 11 ∨ kk = 12 ∨ kk = 13 ∨ kk = 14 ∨ kk = 15) with rfl | rfl | rfl | rfl | rfl | rfl | rfl | rfl | rfl | rfl | rfl | rfl | rfl | rfl | rfl | rfl
    · obtain ⟨hM, jw, hjw, hW, hjR⟩ := hL.off (by decide)
      replace hK := hK _ hM
      exact l_val hd ((x_move (op_is rfl ho)).trans (by rw [(hoff 0 (by decide)).trans x0]; rfl)) hK
    · obtain ⟨hM, jw, hjw, hW, hjR⟩ := hL.off (by decide)
      replace hK := hK _ hM
      exact l_val hd (x_nil (op_is rfl ho) (hv 0 202 rfl (by kernel_rfl))) hK
    · obtain ⟨hM, jw, hjw, hW, hjR⟩ := hL.off (by decide)
      replace hK := hK _ hM
      exact l_val hd (x_field (op_is rfl ho) (by rw [hv 1 203 rfl (by kernel_rfl)]; unfold pv; go_simp)) hK
    · obtain ⟨hM, jw, hjw, hW, hjR⟩ := hL.off (by decide)
      replace hK := hK _ hM
      have hj := hjR 0 10 rfl (by decide +kernel)
      obtain rfl : jw = 0 := by omega
      exact l_val hd (x_load (op_is rfl ho) (by rw [hv 2 204 rfl (by kernel_rfl)]; refine ld_rpool ?_; exact hW.c1)) hK
    · obtain ⟨hM, jw, hjw, hW, hjR⟩ := hL.off (by decide)
      replace hK := hK _ hM
      exact l_val hd ((x_move (op_is rfl ho)).trans (by rw [(hoff 5 (by decide)).trans x5]; rfl)) hK
    · obtain ⟨hM, jw, hjw, hW, hjR⟩ := hL.off (by decide)
      replace hK := hK _ hM
      exact l_val hd ((x_move (op_is rfl ho)).trans (by rw [(hoff 6 (by decide)).trans x6]; rfl)) hK
    · obtain ⟨hM, jw, hjw, hW, hjR⟩ := hL.off (by decide)
      replace hK := hK _ hM
      exact l_val hd (x_field (op_is rfl ho) (by rw [(hoff 3 (by decide)).trans x3]; unfold pv; go_simp)) hK
    · obtain ⟨hM, jw, hjw, hW, hjR⟩ := hL.off (by decide)
      replace hK := hK _ hM
      have hj := hjR 0 10 rfl (by decide +kernel)
      obtain rfl : jw = 0 := by omega
      exact l_val hd (x_load (op_is rfl ho) (by rw [hv 6 208 rfl (by kernel_rfl)]; refine ld_int ?_; exact hW.oA)) hK
    · obtain ⟨hM, jw, hjw, hW, hjR⟩ := hL.off (by decide)
      replace hK := hK _ hM
      exact l_val hd (x_field (op_is rfl ho) (by rw [(hoff 3 (by decide)).trans x3]; unfold pv; go_simp)) hK
    · obtain ⟨hM, jw, hjw, hW, hjR⟩ := hL.off (by decide)
      replace hK := hK _ hM
      have hj := hjR 0 10 rfl (by decide +kernel)
      obtain rfl : jw = 0 := by omega
      exact l_val hd (x_load (op_is rfl ho) (by rw [hv 8 210 rfl (by kernel_rfl)]; refine ld_int ?_; exact hW.oV)) hK
    · obtain ⟨hW, rfl⟩ := hL.at_ (by decide) (j := 0) rfl
      exact l_callP hd (op_is rfl ho) (by simp only [List.map_toArray, List.map_cons, List.map_nil, hv 3 205 rfl (by kernel_rfl), hv 4 206 rfl (by kernel_rfl), hv 5 207 rfl (by kernel_rfl), hv 7 209 rfl (by kernel_rfl), hv 9 211 rfl (by kernel_rfl)] <;> rfl) Tryz.func26 (by kernel_rfl) (by rfl) (hW.callR (HB hW.th hW.rp hW.out hc)) hK
    · obtain ⟨hM, jw, hjw, hW, hjR⟩ := hL.off (by decide)
      replace hK := hK _ hM
      exact l_val hd ((x_move (op_is rfl ho)).trans (by rw [hv 10 212 rfl (by kernel_rfl)]; rfl)) hK
    · obtain ⟨hM, jw, hjw, hW, hjR⟩ := hL.off (by decide)
      replace hK := hK _ hM
      exact l_val (v := Value.bool zb) hd (x_extract (op_is rfl ho) (hv 11 201 rfl (by kernel_rfl)) rfl) hK
    · obtain ⟨hM, jw, hjw, hW, hjR⟩ := hL.off (by decide)
      replace hK := hK _ hM
      exact l_val (v := vi zz) hd (x_extract (op_is rfl ho) (hv 11 201 rfl (by kernel_rfl)) rfl) hK
    · obtain ⟨hM, jw, hjw, hW, hjR⟩ := hL.off (by decide)
      replace hK := hK _ hM
      exact l_val hd ((x_assign (op_is rfl ho)).trans (by rw [hv 12 213 rfl (by kernel_rfl)]; rfl)) hK
    · obtain ⟨hM, jw, hjw, hW, hjR⟩ := hL.off (by decide)
      replace hK := hK _ hM
      exact l_val hd ((x_assign (op_is rfl ho)).trans (by rw [hv 13 214 rfl (by kernel_rfl)]; rfl)) hK
  · intro a1 g1 g2 g3 g4 w1 hW
    exact hEnd a1 w1 g1 g2 (fun s hs'  => ev_same (g3 s (fun hm => by simp at hm; omega))) (g4 14 21 rfl) (g4 15 22 rfl) hW
set_option maxRecDepth 100000 in
set_option maxHeartbeats 1600000 in
theorem does_r31 {K : Act → World → Prop} {Q : Exit → Act → World → Prop} {a : Act} {w : World} {w0 : World} {b : PairB} {hs_ : List Int} {sP sR s2 : PSt} {ob tb c : Nat} {o_ : OpV} {T : List Nat} {hh : Int} {za zz : Int} (hs : a.tmps.size = 316) (x0 : a.eval (.tmp 0) = pv b.x 0) (x3 : a.eval (.tmp 3) = pv ob 0) (x6 : a.eval (.tmp 6) = vi hh) (hn : s2.n = sP.n) (hD : DS w0 b hs_ sP sR ob tb o_ T c w) (HB : ∀ {x : World} {L : Nat → Nat}, PA x b.p b.sb b.pb b.nb L sP → Calls Tryz.prog 29 #[.pointer (some ⟨b.p, 0, none⟩), .pointer none, .int .i64 hh, .int .i64 o_.v] x fun e w' => e = .returned (.tuple #[.int .i64 za, .int .i64 zz]) ∧ PDone x b.p b.sb b.pb b.nb L sP s2 w')
    (hEnd : ∀ a1 w1, a1.tmps.size = a.tmps.size → a1.defers = a.defers → (∀ s : Nat, s < 7 → a1.eval (.tmp s) = a.eval (.tmp s)) → a1.eval (.tmp 27) = vi za → a1.eval (.tmp 28) = vi zz → (DS w0 b hs_ s2 sR ob tb o_ T c w1) → K a1 w1) :
    (Code.region 31 (opsOf 31 Tryz.f6.body) true).wp Tryz.prog (Exit.then K Q) a w := by
  refine wp_region_chainP (by kernel_rfl) [some 257, some 258, some 259, some 260, some 261, some 262, some 263, some 264, some 256, some 265, some 266, some 27, some 28] (fun kk => match kk with
      | 0 => pv b.x 0
      | 1 => pv b.x 0
      | 2 => pv b.x 0
      | 3 => pv b.p 0
      | 4 => vi hh
      | 5 => pv ob 3
      | 6 => vi o_.v
      | 7 => Value.tuple #[.int .i64 za, .int .i64 zz]
      | 8 => Value.tuple #[.int .i64 za, .int .i64 zz]
      | 9 => vi za
      | 10 => vi zz
      | 11 => vi za
      | 12 => vi zz
      | _ => undef) (by rw [hs]; kernel_rfl) [7] (fun jj => match jj with
      | 0 => fun x => DS w0 b hs_ sP sR ob tb o_ T c x
      | _ => fun x => DS w0 b hs_ s2 sR ob tb o_ T c x) hD.drew (by decide) (by decide +kernel) ?_ ?_ ?_
  · intro kk gg bq h
    exact (no_guard (by kernel_rfl) h).elim
  · intro kk hk hgd o ac wa M K ho hd _ hoff hv hpre hL hK
    rcases (by simp at hk; omega : kk = 0 ∨ kk = 1 ∨ kk = 2 ∨ kk = 3 ∨ kk = 4 ∨ kk = 5 ∨ kk = 6 ∨ kk = 7 ∨ kk = 8 ∨ kk = 9 ∨ kk = 10 ∨ kk = 11 ∨ kk = 12) with rfl | rfl | rfl | rfl | rfl | rfl | rfl | rfl | rfl | rfl | rfl | rfl | rfl
    · obtain ⟨hM, jw, hjw, hW, hjR⟩ := hL.off (by decide)
      replace hK := hK _ hM
      exact l_val hd ((x_move (op_is rfl ho)).trans (by rw [(hoff 0 (by decide)).trans x0]; rfl)) hK
    · obtain ⟨hM, jw, hjw, hW, hjR⟩ := hL.off (by decide)
      replace hK := hK _ hM
      exact l_val hd (x_nil (op_is rfl ho) (hv 0 257 rfl (by kernel_rfl))) hK
    · obtain ⟨hM, jw, hjw, hW, hjR⟩ := hL.off (by decide)
      replace hK := hK _ hM
      exact l_val hd (x_field (op_is rfl ho) (by rw [hv 1 258 rfl (by kernel_rfl)]; unfold pv; go_simp)) hK
    · obtain ⟨hM, jw, hjw, hW, hjR⟩ := hL.off (by decide)
      replace hK := hK _ hM
      have hj := hjR 0 7 rfl (by decide +kernel)
      obtain rfl : jw = 0 := by omega
      exact l_val hd (x_load (op_is rfl ho) (by rw [hv 2 259 rfl (by kernel_rfl)]; refine ld_pool ?_; exact hW.c0)) hK
    · obtain ⟨hM, jw, hjw, hW, hjR⟩ := hL.off (by decide)
      replace hK := hK _ hM
      exact l_val hd ((x_move (op_is rfl ho)).trans (by rw [(hoff 6 (by decide)).trans x6]; rfl)) hK
    · obtain ⟨hM, jw, hjw, hW, hjR⟩ := hL.off (by decide)
      replace hK := hK _ hM
      exact l_val hd (x_field (op_is rfl ho) (by rw [(hoff 3 (by decide)).trans x3]; unfold pv; go_simp)) hK
    · obtain ⟨hM, jw, hjw, hW, hjR⟩ := hL.off (by decide)
      replace hK := hK _ hM
      have hj := hjR 0 7 rfl (by decide +kernel)
      obtain rfl : jw = 0 := by omega
      exact l_val hd (x_load (op_is rfl ho) (by rw [hv 5 262 rfl (by kernel_rfl)]; refine ld_int ?_; exact hW.oV)) hK
    · obtain ⟨hW, rfl⟩ := hL.at_ (by decide) (j := 0) rfl
      exact l_callP hd (op_is rfl ho) (by simp only [List.map_toArray, List.map_cons, List.map_nil, hv 3 260 rfl (by kernel_rfl), hv 4 261 rfl (by kernel_rfl), hv 6 263 rfl (by kernel_rfl)] <;> rfl) Tryz.func29 (by kernel_rfl) (by rfl) (hW.callP hn HB) hK
    · obtain ⟨hM, jw, hjw, hW, hjR⟩ := hL.off (by decide)
      replace hK := hK _ hM
      exact l_val hd ((x_move (op_is rfl ho)).trans (by rw [hv 7 264 rfl (by kernel_rfl)]; rfl)) hK
    · obtain ⟨hM, jw, hjw, hW, hjR⟩ := hL.off (by decide)
      replace hK := hK _ hM
      exact l_val (v := vi za) hd (x_extract (op_is rfl ho) (hv 8 256 rfl (by kernel_rfl)) rfl) hK
    · obtain ⟨hM, jw, hjw, hW, hjR⟩ := hL.off (by decide)
      replace hK := hK _ hM
      exact l_val (v := vi zz) hd (x_extract (op_is rfl ho) (hv 8 256 rfl (by kernel_rfl)) rfl) hK
    · obtain ⟨hM, jw, hjw, hW, hjR⟩ := hL.off (by decide)
      replace hK := hK _ hM
      exact l_val hd ((x_assign (op_is rfl ho)).trans (by rw [hv 9 265 rfl (by kernel_rfl)]; rfl)) hK
    · obtain ⟨hM, jw, hjw, hW, hjR⟩ := hL.off (by decide)
      replace hK := hK _ hM
      exact l_val hd ((x_assign (op_is rfl ho)).trans (by rw [hv 10 266 rfl (by kernel_rfl)]; rfl)) hK
  · intro a1 g1 g2 g3 g4 w1 hW
    exact hEnd a1 w1 g1 g2 (fun s hs'  => ev_same (g3 s (fun hm => by simp at hm; omega))) (g4 11 27 rfl) (g4 12 28 rfl) hW
set_option maxRecDepth 100000 in
set_option maxHeartbeats 1600000 in
theorem does_r32 {K : Act → World → Prop} {Q : Exit → Act → World → Prop} {a : Act} {w : World} {w0 : World} {b : PairB} {hs_ : List Int} {sP sR s2 : PSt} {ob tb c : Nat} {o_ : OpV} {T : List Nat} {hh : Int} {za zz : Int} (hs : a.tmps.size = 316) (x0 : a.eval (.tmp 0) = pv b.x 0) (x3 : a.eval (.tmp 3) = pv ob 0) (x5 : a.eval (.tmp 5) = pv tb 0) (x6 : a.eval (.tmp 6) = vi hh) (hc : c ≤ 1000) (hD : DS w0 b hs_ sP sR ob tb o_ T c w) (HB : ∀ {x : World} {T : List Nat} {c : Nat}, Th T x tb b.r.m c → RP x b.r sR → b.r.g ∉ T → c ≤ 1000 → Calls Tryz.prog 30 #[.pointer (some ⟨b.r.q, 0, none⟩), .pointer (some ⟨tb, 0, none⟩), .int .i64 hh, .int .i64 o_.v] x fun e w' => e = .returned (.tuple #[.int .i64 za, .int .i64 zz]) ∧ ∃ T', RGo b.r T x tb (c + 20) s2 T' w')
    (hEnd : ∀ a1 w1, a1.tmps.size = a.tmps.size → a1.defers = a.defers → (∀ s : Nat, s < 29 → a1.eval (.tmp s) = a.eval (.tmp s)) → a1.eval (.tmp 29) = vi za → a1.eval (.tmp 30) = vi zz → (∃ T1, DS w0 b hs_ sP s2 ob tb o_ T1 (c + 20) w1) → K a1 w1) :
    (Code.region 32 (opsOf 32 Tryz.f6.body) true).wp Tryz.prog (Exit.then K Q) a w := by
  refine wp_region_chainP (by kernel_rfl) [some 268, some 269, some 270, some 271, some 272, some 273, some 274, some 275, some 276, some 267, some 277, some 278, some 29, some 30] (fun kk => match kk with
      | 0 => pv b.x 0
      | 1 => pv b.x 0
      | 2 => pv b.x 1
      | 3 => pv b.r.q 0
      | 4 => pv tb 0
      | 5 => vi hh
      | 6 => pv ob 3
      | 7 => vi o_.v
      | 8 => Value.tuple #[.int .i64 za, .int .i64 zz]
      | 9 => Value.tuple #[.int .i64 za, .int .i64 zz]
      | 10 => vi za
      | 11 => vi zz
      | 12 => vi za
      | 13 => vi zz
      | _ => undef) (by rw [hs]; kernel_rfl) [8] (fun jj => match jj with
      | 0 => fun x => DS w0 b hs_ sP sR ob tb o_ T c x
      | _ => fun x => ∃ T1, DS w0 b hs_ sP s2 ob tb o_ T1 (c + 20) x) hD.drew (by decide) (by decide +kernel) ?_ ?_ ?_
  · intro kk gg bq h
    exact (no_guard (by kernel_rfl) h).elim
  · intro kk hk hgd o ac wa M K ho hd _ hoff hv hpre hL hK
    rcases (by simp at hk; omega : kk = 0 ∨ kk = 1 ∨ kk = 2 ∨ kk = 3 ∨ kk = 4 ∨ kk = 5 ∨ kk = 6 ∨ kk = 7 ∨ kk = 8 ∨ kk = 9 ∨ kk = 10 ∨ kk = 11 ∨ kk = 12 ∨ kk = 13) with rfl | rfl | rfl | rfl | rfl | rfl | rfl | rfl | rfl | rfl | rfl | rfl | rfl | rfl
    · obtain ⟨hM, jw, hjw, hW, hjR⟩ := hL.off (by decide)
      replace hK := hK _ hM
      exact l_val hd ((x_move (op_is rfl ho)).trans (by rw [(hoff 0 (by decide)).trans x0]; rfl)) hK
    · obtain ⟨hM, jw, hjw, hW, hjR⟩ := hL.off (by decide)
      replace hK := hK _ hM
      exact l_val hd (x_nil (op_is rfl ho) (hv 0 268 rfl (by kernel_rfl))) hK
    · obtain ⟨hM, jw, hjw, hW, hjR⟩ := hL.off (by decide)
      replace hK := hK _ hM
      exact l_val hd (x_field (op_is rfl ho) (by rw [hv 1 269 rfl (by kernel_rfl)]; unfold pv; go_simp)) hK
    · obtain ⟨hM, jw, hjw, hW, hjR⟩ := hL.off (by decide)
      replace hK := hK _ hM
      have hj := hjR 0 8 rfl (by decide +kernel)
      obtain rfl : jw = 0 := by omega
      exact l_val hd (x_load (op_is rfl ho) (by rw [hv 2 270 rfl (by kernel_rfl)]; refine ld_rpool ?_; exact hW.c1)) hK
    · obtain ⟨hM, jw, hjw, hW, hjR⟩ := hL.off (by decide)
      replace hK := hK _ hM
      exact l_val hd ((x_move (op_is rfl ho)).trans (by rw [(hoff 5 (by decide)).trans x5]; rfl)) hK
    · obtain ⟨hM, jw, hjw, hW, hjR⟩ := hL.off (by decide)
      replace hK := hK _ hM
      exact l_val hd ((x_move (op_is rfl ho)).trans (by rw [(hoff 6 (by decide)).trans x6]; rfl)) hK
    · obtain ⟨hM, jw, hjw, hW, hjR⟩ := hL.off (by decide)
      replace hK := hK _ hM
      exact l_val hd (x_field (op_is rfl ho) (by rw [(hoff 3 (by decide)).trans x3]; unfold pv; go_simp)) hK
    · obtain ⟨hM, jw, hjw, hW, hjR⟩ := hL.off (by decide)
      replace hK := hK _ hM
      have hj := hjR 0 8 rfl (by decide +kernel)
      obtain rfl : jw = 0 := by omega
      exact l_val hd (x_load (op_is rfl ho) (by rw [hv 6 274 rfl (by kernel_rfl)]; refine ld_int ?_; exact hW.oV)) hK
    · obtain ⟨hW, rfl⟩ := hL.at_ (by decide) (j := 0) rfl
      exact l_callP hd (op_is rfl ho) (by simp only [List.map_toArray, List.map_cons, List.map_nil, hv 3 271 rfl (by kernel_rfl), hv 4 272 rfl (by kernel_rfl), hv 5 273 rfl (by kernel_rfl), hv 7 275 rfl (by kernel_rfl)] <;> rfl) Tryz.func30 (by kernel_rfl) (by rfl) (hW.callR (HB hW.th hW.rp hW.out hc)) hK
    · obtain ⟨hM, jw, hjw, hW, hjR⟩ := hL.off (by decide)
      replace hK := hK _ hM
      exact l_val hd ((x_move (op_is rfl ho)).trans (by rw [hv 8 276 rfl (by kernel_rfl)]; rfl)) hK
    · obtain ⟨hM, jw, hjw, hW, hjR⟩ := hL.off (by decide)
      replace hK := hK _ hM
      exact l_val (v := vi za) hd (x_extract (op_is rfl ho) (hv 9 267 rfl (by kernel_rfl)) rfl) hK
    · obtain ⟨hM, jw, hjw, hW, hjR⟩ := hL.off (by decide)
      replace hK := hK _ hM
      exact l_val (v := vi zz) hd (x_extract (op_is rfl ho) (hv 9 267 rfl (by kernel_rfl)) rfl) hK
    · obtain ⟨hM, jw, hjw, hW, hjR⟩ := hL.off (by decide)
      replace hK := hK _ hM
      exact l_val hd ((x_assign (op_is rfl ho)).trans (by rw [hv 10 277 rfl (by kernel_rfl)]; rfl)) hK
    · obtain ⟨hM, jw, hjw, hW, hjR⟩ := hL.off (by decide)
      replace hK := hK _ hM
      exact l_val hd ((x_assign (op_is rfl ho)).trans (by rw [hv 11 278 rfl (by kernel_rfl)]; rfl)) hK
  · intro a1 g1 g2 g3 g4 w1 hW
    exact hEnd a1 w1 g1 g2 (fun s hs'  => ev_same (g3 s (fun hm => by simp at hm; omega))) (g4 12 29 rfl) (g4 13 30 rfl) hW
theorem x_eqlInt {ρ : Operand → Value} {o : Oper} {w : World} {x y : Operand} {t : TypeId} {a b : Int} (h : o.op = .binOp .eql 3 x y t) (hx : ρ x = .int .i64 a) (hy : ρ y = .int .i64 b) : (execOp ρ o).run Tryz.prog w = .ok (.value (.bool (a == b))) w := by
  simp [execOp, h, hx, hy, eqGuard, binOp, Op.intCmp]
set_option maxRecDepth 100000 in
set_option maxHeartbeats 1600000 in
theorem does_r13 {K : Act → World → Prop} {Q : Exit → Act → World → Prop} {a : Act} {w : World} {w0 : World} {b : PairB} {hs_ : List Int} {sP s2 : PSt} {ob tb c : Nat} {o_ : OpV} {T : List Nat} {hh : Int} {zz : Int} (hs : a.tmps.size = 316) (x0 : a.eval (.tmp 0) = pv b.x 0) (x5 : a.eval (.tmp 5) = pv tb 0) (x6 : a.eval (.tmp 6) = vi hh) (hn : s2.n = sP.n) (hc : c ≤ 1000) (hD : DS w0 b hs_ sP sP ob tb o_ T c w) (HB : ∀ {x : World} {L : Nat → Nat}, PA x b.p b.sb b.pb b.nb L sP → Calls Tryz.prog 13 #[.pointer (some ⟨b.p, 0, none⟩), .pointer none, .int .i64 hh] x fun e w' => e = .returned (.int .i64 zz) ∧ PDone x b.p b.sb b.pb b.nb L sP s2 w') (HC : ∀ {x : World} {T : List Nat} {c : Nat}, Th T x tb b.r.m c → RP x b.r sP → b.r.g ∉ T → c ≤ 1000 → Calls Tryz.prog 21 #[.pointer (some ⟨b.r.q, 0, none⟩), .pointer (some ⟨tb, 0, none⟩), .int .i64 hh] x fun e w' => e = .returned (.int .i64 zz) ∧ ∃ T', RGo b.r T x tb (c + 20) s2 T' w')
    (hEnd : ∀ a1 w1, a1.tmps.size = a.tmps.size → a1.defers = a.defers → (∀ s : Nat, s < 4 → a1.eval (.tmp s) = a.eval (.tmp s)) → a1.eval (.tmp 4) = Value.bool true → (∃ T1, DS w0 b hs_ s2 s2 ob tb o_ T1 (c + 20) w1) → K a1 w1) :
    (Code.region 13 (opsOf 13 Tryz.f6.body) true).wp Tryz.prog (Exit.then K Q) a w := by
  refine wp_region_chainP (by kernel_rfl) [some 111, some 112, some 113, some 114, some 115, some 116, some 117, some 118, some 119, some 120, some 121, some 122, some 123, some 124, some 125, some 4] (fun kk => match kk with
      | 0 => pv b.x 0
      | 1 => pv b.x 0
      | 2 => pv b.x 0
      | 3 => pv b.p 0
      | 4 => vi hh
      | 5 => vi zz
      | 6 => vi zz
      | 7 => pv b.x 0
      | 8 => pv b.x 0
      | 9 => pv b.x 1
      | 10 => pv b.r.q 0
      | 11 => pv tb 0
      | 12 => vi hh
      | 13 => vi zz
      | 14 => Value.bool true
      | 15 => Value.bool true
      | _ => undef) (by rw [hs]; kernel_rfl) [5, 13] (fun jj => match jj with
      | 0 => fun x => DS w0 b hs_ sP sP ob tb o_ T c x
      | 1 => fun x => DS w0 b hs_ s2 sP ob tb o_ T c x
      | _ => fun x => ∃ T1, DS w0 b hs_ s2 s2 ob tb o_ T1 (c + 20) x) hD.drew (by decide) (by decide +kernel) ?_ ?_ ?_
  · intro kk gg bq h
    exact (no_guard (by kernel_rfl) h).elim
  · intro kk hk hgd o ac wa M K ho hd _ hoff hv hpre hL hK
    rcases (by simp at hk; omega : kk = 0 ∨ kk = 1 ∨ kk = 2 ∨ kk = 3 ∨ kk = 4 ∨ kk = 5 ∨ kk = 6 ∨ kk = 7 ∨ kk = 8 ∨ kk = 9 ∨ kk = 10 ∨ kk = 11 ∨ kk = 12 ∨ kk = 13 ∨ kk = 14 ∨ kk = 15) with rfl | rfl | rfl | rfl | rfl | rfl | rfl | rfl | rfl | rfl | rfl | rfl | rfl | rfl | rfl | rfl
    · obtain ⟨hM, jw, hjw, hW, hjR⟩ := hL.off (by decide)
      replace hK := hK _ hM
      exact l_val hd ((x_move (op_is rfl ho)).trans (by rw [(hoff 0 (by decide)).trans x0]; rfl)) hK
    · obtain ⟨hM, jw, hjw, hW, hjR⟩ := hL.off (by decide)
      replace hK := hK _ hM
      exact l_val hd (x_nil (op_is rfl ho) (hv 0 111 rfl (by kernel_rfl))) hK
    · obtain ⟨hM, jw, hjw, hW, hjR⟩ := hL.off (by decide)
      replace hK := hK _ hM
      exact l_val hd (x_field (op_is rfl ho) (by rw [hv 1 112 rfl (by kernel_rfl)]; unfold pv; go_simp)) hK
    · obtain ⟨hM, jw, hjw, hW, hjR⟩ := hL.off (by decide)
      replace hK := hK _ hM
      have hj := hjR 0 5 rfl (by decide +kernel)
      obtain rfl : jw = 0 := by omega
      exact l_val hd (x_load (op_is rfl ho) (by rw [hv 2 113 rfl (by kernel_rfl)]; refine ld_pool ?_; exact hW.c0)) hK
    · obtain ⟨hM, jw, hjw, hW, hjR⟩ := hL.off (by decide)
      replace hK := hK _ hM
      exact l_val hd ((x_move (op_is rfl ho)).trans (by rw [(hoff 6 (by decide)).trans x6]; rfl)) hK
    · obtain ⟨hW, rfl⟩ := hL.at_ (by decide) (j := 0) rfl
      exact l_callP hd (op_is rfl ho) (by simp only [List.map_toArray, List.map_cons, List.map_nil, hv 3 114 rfl (by kernel_rfl), hv 4 115 rfl (by kernel_rfl)] <;> rfl) Tryz.func13 (by kernel_rfl) (by rfl) (hW.callP hn HB) hK
    · obtain ⟨hM, jw, hjw, hW, hjR⟩ := hL.off (by decide)
      replace hK := hK _ hM
      exact l_call hd (op_is rfl ho) (by simp only [List.map_toArray, List.map_cons, List.map_nil, hv 5 116 rfl (by kernel_rfl)] <;> rfl) Tryz.func10 (by kernel_rfl) (by rfl) (cNum zz _) hK
    · obtain ⟨hM, jw, hjw, hW, hjR⟩ := hL.off (by decide)
      replace hK := hK _ hM
      exact l_val hd ((x_move (op_is rfl ho)).trans (by rw [(hoff 0 (by decide)).trans x0]; rfl)) hK
    · obtain ⟨hM, jw, hjw, hW, hjR⟩ := hL.off (by decide)
      replace hK := hK _ hM
      exact l_val hd (x_nil (op_is rfl ho) (hv 7 118 rfl (by kernel_rfl))) hK
    · obtain ⟨hM, jw, hjw, hW, hjR⟩ := hL.off (by decide)
      replace hK := hK _ hM
      exact l_val hd (x_field (op_is rfl ho) (by rw [hv 8 119 rfl (by kernel_rfl)]; unfold pv; go_simp)) hK
    · obtain ⟨hM, jw, hjw, hW, hjR⟩ := hL.off (by decide)
      replace hK := hK _ hM
      have hj := hjR 1 13 rfl (by decide +kernel)
      rcases (by omega : jw = 0 ∨ jw = 1) with rfl | rfl
      · exact l_val hd (x_load (op_is rfl ho) (by rw [hv 9 120 rfl (by kernel_rfl)]; refine ld_rpool ?_; exact hW.c1)) hK
      · exact l_val hd (x_load (op_is rfl ho) (by rw [hv 9 120 rfl (by kernel_rfl)]; refine ld_rpool ?_; exact hW.c1)) hK
    · obtain ⟨hM, jw, hjw, hW, hjR⟩ := hL.off (by decide)
      replace hK := hK _ hM
      exact l_val hd ((x_move (op_is rfl ho)).trans (by rw [(hoff 5 (by decide)).trans x5]; rfl)) hK
    · obtain ⟨hM, jw, hjw, hW, hjR⟩ := hL.off (by decide)
      replace hK := hK _ hM
      exact l_val hd ((x_move (op_is rfl ho)).trans (by rw [(hoff 6 (by decide)).trans x6]; rfl)) hK
    · obtain ⟨hW, rfl⟩ := hL.at_ (by decide) (j := 1) rfl
      exact l_callP hd (op_is rfl ho) (by simp only [List.map_toArray, List.map_cons, List.map_nil, hv 10 121 rfl (by kernel_rfl), hv 11 122 rfl (by kernel_rfl), hv 12 123 rfl (by kernel_rfl)] <;> rfl) Tryz.func21 (by kernel_rfl) (by rfl) (hW.callR (HC hW.th hW.rp hW.out hc)) hK
    · obtain ⟨hM, jw, hjw, hW, hjR⟩ := hL.off (by decide)
      replace hK := hK _ hM
      exact l_val (v := .bool true) hd ((x_eqlInt (op_is rfl ho) (hv 6 117 rfl (by kernel_rfl)) (hv 13 124 rfl (by kernel_rfl))).trans (by simp)) hK
    · obtain ⟨hM, jw, hjw, hW, hjR⟩ := hL.off (by decide)
      replace hK := hK _ hM
      exact l_val hd ((x_assign (op_is rfl ho)).trans (by rw [hv 14 125 rfl (by kernel_rfl)]; rfl)) hK
  · intro a1 g1 g2 g3 g4 w1 hW
    exact hEnd a1 w1 g1 g2 (fun s hs'  => ev_same (g3 s (fun hm => by simp at hm; omega))) (g4 15 4 rfl) hW
set_option maxRecDepth 100000 in
set_option maxHeartbeats 1600000 in
theorem does_r37 {K : Act → World → Prop} {Q : Exit → Act → World → Prop} {a : Act} {w : World} {w0 : World} {b : PairB} {hs_ : List Int} {sP s2 : PSt} {ob tb c : Nat} {o_ : OpV} {T : List Nat} {zz : Int} (hs : a.tmps.size = 316) (x0 : a.eval (.tmp 0) = pv b.x 0) (x3 : a.eval (.tmp 3) = pv ob 0) (x5 : a.eval (.tmp 5) = pv tb 0) (hn : s2.n = sP.n) (hc : c ≤ 1000) (hD : DS w0 b hs_ sP sP ob tb o_ T c w) (HB : ∀ {x : World} {L : Nat → Nat}, PA x b.p b.sb b.pb b.nb L sP → Calls Tryz.prog 32 #[.pointer (some ⟨b.p, 0, none⟩), .pointer none, .int .i64 o_.a, .int .i64 o_.v] x fun e w' => e = .returned (.int .i64 zz) ∧ PDone x b.p b.sb b.pb b.nb L sP s2 w') (HC : ∀ {x : World} {T : List Nat} {c : Nat}, Th T x tb b.r.m c → RP x b.r sP → b.r.g ∉ T → c ≤ 1000 → Calls Tryz.prog 33 #[.pointer (some ⟨b.r.q, 0, none⟩), .pointer (some ⟨tb, 0, none⟩), .int .i64 o_.a, .int .i64 o_.v] x fun e w' => e = .returned (.int .i64 zz) ∧ ∃ T', RGo b.r T x tb (c + 20) s2 T' w')
    (hEnd : ∀ a1 w1, a1.tmps.size = a.tmps.size → a1.defers = a.defers → (∀ s : Nat, s < 4 → a1.eval (.tmp s) = a.eval (.tmp s)) → a1.eval (.tmp 4) = Value.bool true → (∃ T1, DS w0 b hs_ s2 s2 ob tb o_ T1 (c + 20) w1) → K a1 w1) :
    (Code.region 37 (opsOf 37 Tryz.f6.body) true).wp Tryz.prog (Exit.then K Q) a w := by
  refine wp_region_chainP (by kernel_rfl) [some 295, some 296, some 297, some 298, some 299, some 300, some 301, some 302, some 303, some 304, some 305, some 306, some 307, some 308, some 309, some 310, some 311, some 312, some 313, some 314, some 315, some 4] (fun kk => match kk with
      | 0 => pv b.x 0
      | 1 => pv b.x 0
      | 2 => pv b.x 0
      | 3 => pv b.p 0
      | 4 => pv ob 2
      | 5 => vi o_.a
      | 6 => pv ob 3
      | 7 => vi o_.v
      | 8 => vi zz
      | 9 => vi zz
      | 10 => pv b.x 0
      | 11 => pv b.x 0
      | 12 => pv b.x 1
      | 13 => pv b.r.q 0
      | 14 => pv tb 0
      | 15 => pv ob 2
      | 16 => vi o_.a
      | 17 => pv ob 3
      | 18 => vi o_.v
      | 19 => vi zz
      | 20 => Value.bool true
      | 21 => Value.bool true
      | _ => undef) (by rw [hs]; kernel_rfl) [8, 19] (fun jj => match jj with
      | 0 => fun x => DS w0 b hs_ sP sP ob tb o_ T c x
      | 1 => fun x => DS w0 b hs_ s2 sP ob tb o_ T c x
      | _ => fun x => ∃ T1, DS w0 b hs_ s2 s2 ob tb o_ T1 (c + 20) x) hD.drew (by decide) (by decide +kernel) ?_ ?_ ?_
  · intro kk gg bq h
    exact (no_guard (by kernel_rfl) h).elim
  · intro kk hk hgd o ac wa M K ho hd _ hoff hv hpre hL hK
    rcases (by simp at hk; omega : kk = 0 ∨ kk = 1 ∨ kk = 2 ∨ kk = 3 ∨ kk = 4 ∨ kk = 5 ∨ kk = 6 ∨ kk = 7 ∨ kk = 8 ∨ kk = 9 ∨ kk = 10 ∨ kk = 11 ∨ kk = 12 ∨ kk = 13 ∨ kk = 14 ∨ kk = 15 ∨ kk = 16 ∨ kk = 17 ∨ kk = 18 ∨ kk = 19 ∨ kk = 20 ∨ kk = 21) with rfl | rfl | rfl | rfl | rfl | rfl | rfl | rfl | rfl | rfl | rfl | rfl | rfl | rfl | rfl | rfl | rfl | rfl | rfl | rfl | rfl | rfl
    · obtain ⟨hM, jw, hjw, hW, hjR⟩ := hL.off (by decide)
      replace hK := hK _ hM
      exact l_val hd ((x_move (op_is rfl ho)).trans (by rw [(hoff 0 (by decide)).trans x0]; rfl)) hK
    · obtain ⟨hM, jw, hjw, hW, hjR⟩ := hL.off (by decide)
      replace hK := hK _ hM
      exact l_val hd (x_nil (op_is rfl ho) (hv 0 295 rfl (by kernel_rfl))) hK
    · obtain ⟨hM, jw, hjw, hW, hjR⟩ := hL.off (by decide)
      replace hK := hK _ hM
      exact l_val hd (x_field (op_is rfl ho) (by rw [hv 1 296 rfl (by kernel_rfl)]; unfold pv; go_simp)) hK
    · obtain ⟨hM, jw, hjw, hW, hjR⟩ := hL.off (by decide)
      replace hK := hK _ hM
      have hj := hjR 0 8 rfl (by decide +kernel)
      obtain rfl : jw = 0 := by omega
      exact l_val hd (x_load (op_is rfl ho) (by rw [hv 2 297 rfl (by kernel_rfl)]; refine ld_pool ?_; exact hW.c0)) hK
    · obtain ⟨hM, jw, hjw, hW, hjR⟩ := hL.off (by decide)
      replace hK := hK _ hM
      exact l_val hd (x_field (op_is rfl ho) (by rw [(hoff 3 (by decide)).trans x3]; unfold pv; go_simp)) hK
    · obtain ⟨hM, jw, hjw, hW, hjR⟩ := hL.off (by decide)
      replace hK := hK _ hM
      have hj := hjR 0 8 rfl (by decide +kernel)
      obtain rfl : jw = 0 := by omega
      exact l_val hd (x_load (op_is rfl ho) (by rw [hv 4 299 rfl (by kernel_rfl)]; refine ld_int ?_; exact hW.oA)) hK
    · obtain ⟨hM, jw, hjw, hW, hjR⟩ := hL.off (by decide)
      replace hK := hK _ hM
      exact l_val hd (x_field (op_is rfl ho) (by rw [(hoff 3 (by decide)).trans x3]; unfold pv; go_simp)) hK
    · obtain ⟨hM, jw, hjw, hW, hjR⟩ := hL.off (by decide)
      replace hK := hK _ hM
      have hj := hjR 0 8 rfl (by decide +kernel)
      obtain rfl : jw = 0 := by omega
      exact l_val hd (x_load (op_is rfl ho) (by rw [hv 6 301 rfl (by kernel_rfl)]; refine ld_int ?_; exact hW.oV)) hK
    · obtain ⟨hW, rfl⟩ := hL.at_ (by decide) (j := 0) rfl
      exact l_callP hd (op_is rfl ho) (by simp only [List.map_toArray, List.map_cons, List.map_nil, hv 3 298 rfl (by kernel_rfl), hv 5 300 rfl (by kernel_rfl), hv 7 302 rfl (by kernel_rfl)] <;> rfl) Tryz.func32 (by kernel_rfl) (by rfl) (hW.callP hn HB) hK
    · obtain ⟨hM, jw, hjw, hW, hjR⟩ := hL.off (by decide)
      replace hK := hK _ hM
      exact l_call hd (op_is rfl ho) (by simp only [List.map_toArray, List.map_cons, List.map_nil, hv 8 303 rfl (by kernel_rfl)] <;> rfl) Tryz.func10 (by kernel_rfl) (by rfl) (cNum zz _) hK
    · obtain ⟨hM, jw, hjw, hW, hjR⟩ := hL.off (by decide)
      replace hK := hK _ hM
      exact l_val hd ((x_move (op_is rfl ho)).trans (by rw [(hoff 0 (by decide)).trans x0]; rfl)) hK
    · obtain ⟨hM, jw, hjw, hW, hjR⟩ := hL.off (by decide)
      replace hK := hK _ hM
      exact l_val hd (x_nil (op_is rfl ho) (hv 10 305 rfl (by kernel_rfl))) hK
    · obtain ⟨hM, jw, hjw, hW, hjR⟩ := hL.off (by decide)
      replace hK := hK _ hM
      exact l_val hd (x_field (op_is rfl ho) (by rw [hv 11 306 rfl (by kernel_rfl)]; unfold pv; go_simp)) hK
    · obtain ⟨hM, jw, hjw, hW, hjR⟩ := hL.off (by decide)
      replace hK := hK _ hM
      have hj := hjR 1 19 rfl (by decide +kernel)
      rcases (by omega : jw = 0 ∨ jw = 1) with rfl | rfl
      · exact l_val hd (x_load (op_is rfl ho) (by rw [hv 12 307 rfl (by kernel_rfl)]; refine ld_rpool ?_; exact hW.c1)) hK
      · exact l_val hd (x_load (op_is rfl ho) (by rw [hv 12 307 rfl (by kernel_rfl)]; refine ld_rpool ?_; exact hW.c1)) hK
    · obtain ⟨hM, jw, hjw, hW, hjR⟩ := hL.off (by decide)
      replace hK := hK _ hM
      exact l_val hd ((x_move (op_is rfl ho)).trans (by rw [(hoff 5 (by decide)).trans x5]; rfl)) hK
    · obtain ⟨hM, jw, hjw, hW, hjR⟩ := hL.off (by decide)
      replace hK := hK _ hM
      exact l_val hd (x_field (op_is rfl ho) (by rw [(hoff 3 (by decide)).trans x3]; unfold pv; go_simp)) hK
    · obtain ⟨hM, jw, hjw, hW, hjR⟩ := hL.off (by decide)
      replace hK := hK _ hM
      have hj := hjR 1 19 rfl (by decide +kernel)
      rcases (by omega : jw = 0 ∨ jw = 1) with rfl | rfl
      · exact l_val hd (x_load (op_is rfl ho) (by rw [hv 15 310 rfl (by kernel_rfl)]; refine ld_int ?_; exact hW.oA)) hK
      · exact l_val hd (x_load (op_is rfl ho) (by rw [hv 15 310 rfl (by kernel_rfl)]; refine ld_int ?_; exact hW.oA)) hK
    · obtain ⟨hM, jw, hjw, hW, hjR⟩ := hL.off (by decide)
      replace hK := hK _ hM
      exact l_val hd (x_field (op_is rfl ho) (by rw [(hoff 3 (by decide)).trans x3]; unfold pv; go_simp)) hK
    · obtain ⟨hM, jw, hjw, hW, hjR⟩ := hL.off (by decide)
      replace hK := hK _ hM
      have hj := hjR 1 19 rfl (by decide +kernel)
      rcases (by omega : jw = 0 ∨ jw = 1) with rfl | rfl
      · exact l_val hd (x_load (op_is rfl ho) (by rw [hv 17 312 rfl (by kernel_rfl)]; refine ld_int ?_; exact hW.oV)) hK
      · exact l_val hd (x_load (op_is rfl ho) (by rw [hv 17 312 rfl (by kernel_rfl)]; refine ld_int ?_; exact hW.oV)) hK
    · obtain ⟨hW, rfl⟩ := hL.at_ (by decide) (j := 1) rfl
      exact l_callP hd (op_is rfl ho) (by simp only [List.map_toArray, List.map_cons, List.map_nil, hv 13 308 rfl (by kernel_rfl), hv 14 309 rfl (by kernel_rfl), hv 16 311 rfl (by kernel_rfl), hv 18 313 rfl (by kernel_rfl)] <;> rfl) Tryz.func33 (by kernel_rfl) (by rfl) (hW.callR (HC hW.th hW.rp hW.out hc)) hK
    · obtain ⟨hM, jw, hjw, hW, hjR⟩ := hL.off (by decide)
      replace hK := hK _ hM
      exact l_val (v := .bool true) hd ((x_eqlInt (op_is rfl ho) (hv 9 304 rfl (by kernel_rfl)) (hv 19 314 rfl (by kernel_rfl))).trans (by simp)) hK
    · obtain ⟨hM, jw, hjw, hW, hjR⟩ := hL.off (by decide)
      replace hK := hK _ hM
      exact l_val hd ((x_assign (op_is rfl ho)).trans (by rw [hv 20 315 rfl (by kernel_rfl)]; rfl)) hK
  · intro a1 g1 g2 g3 g4 w1 hW
    exact hEnd a1 w1 g1 g2 (fun s hs'  => ev_same (g3 s (fun hm => by simp at hm; omega))) (g4 21 4 rfl) hW
end Go.Proofs.YtjbhnpofdafmbaaGreatDoor

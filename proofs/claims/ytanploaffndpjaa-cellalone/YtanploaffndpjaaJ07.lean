/- Of the proof. -/
import Derived.Test.YtanploaffndpjaaJ06
import Derived.Laws.Bits64b
namespace Go.Blind
open Go.Conc Go.ConcR Go.RowKit Go.Conc.Lib Go.ConcR.Gen
variable {L:WgLink}
theorem nat_bit31 (p wt:Nat)(hw:wt≤1):(p * 4294967296+wt) &&& 2147483648=0:=by
 have h:(p * 4294967296+wt) &&& (2 ^ 31)=0:=by
  have h:(p * 4294967296+wt).testBit 31=false:=by
   rw [Nat.testBit_eq_decide_div_mod_eq]
   simp only [decide_eq_false_iff_not]
   omega
  apply Nat.eq_of_testBit_eq
  intro i
  simp only [Nat.testBit_and,Nat.testBit_two_pow,Nat.zero_testBit]
  by_cases e:31=i
  ·subst e;simp [h]
  ·simp [e]
 exact h
theorem KU (p wt:Nat)(hw:wt≤1):(p * 4294967296+wt) &&& 2147483647=wt:=by
 have h:(p * 4294967296+wt) &&& (2 ^ 31 - 1)=wt:=by
  rw [Nat.and_two_pow_sub_one_eq_mod]
  omega
 exact h
theorem zL (p wt:Nat)(hp:p≤100)(hw:wt≤1):bits .and .u64 ((p * 4294967296+wt:Nat):Int) 2147483648=0:=by
 have:=bits_and_u64_nat (p * 4294967296+wt) 2147483648 ag ag
 rw [nat_bit31 p wt hw] at this
 exact this
theorem xx (p wt:Nat)(hp:p≤100)(hw:wt≤1):bits .and .u64 ((p * 4294967296+wt:Nat):Int) 2147483647=wt:=by
 have:=bits_and_u64_nat (p * 4294967296+wt) 2147483647 ag ag
 rw [KU p wt hw] at this
 exact this
theorem Dn (p wt:Nat)(hp:0 < p):(some (Value.int .u64 ((p+1) * 4294967296+wt:Nat)):Option Value)≠some (.int .u64 4294967297):=by
 intro h
 simp only [Option.some.injEq,Value.int.injEq,true_and] at h
 omega
set_option maxRecDepth 100000 in
set_option maxHeartbeats 4000000 in
theorem KV {P:Program}(H:WgLib P L){ok:Nat→Goroutine→Prop}{Pre:Nat→World→Prop}{aI:Nat→World→Nat}{R q N:Nat}(KW:∀ w,Pre 0 w→∃ v,w.cell? ⟨R,q,none⟩=some v)
  (KX:∀ g g',(∀ w,stepG P false g w=.go g' w #[⟨.mark (.releaseMerge ⟨R,q,none⟩),false,true⟩])→ok 7 g)(KY:∀ w,aI 7 w=6)
  (KZ:∀ g g',(∀ w,stepG P false g w=.go g' w #[⟨.mark .disable,false,true⟩])→ok 6 g)(K3:∀ w,aI 6 w=5)
  (K4:∀ g,(∀ w x,w.cell? ⟨R,q,none⟩=some (.int .u64 x)→w.frozen? ⟨R,q,none⟩=false→∃ g',stepG P false g w=.go g' (w.setCell ⟨R,q,none⟩ (.int .u64 (IntKind.u64.wrap (x+18446744069414584320)))) #[⟨.cell ⟨R,q,none⟩,false,true⟩,⟨.cell ⟨R,q,none⟩,true,true⟩])→ok 5 g)
  (K5:∀ w,Pre 5 w→∃ p wt:Nat,p≤100∧wt≤1∧w.cell? ⟨R,q,none⟩=some (.int .u64 ((p+1) * 4294967296+wt:Nat))∧w.frozen? ⟨R,q,none⟩=false)
  (zM:∀ w,w.cell? ⟨R,q,none⟩≠some (.int .u64 4294967297)→aI 5 w=1)(K6:∀ w,w.cell? ⟨R,q,none⟩=some (.int .u64 4294967297)→aI 5 w=4)
  (K7:∀ g,(∀ w,w.cell? ⟨R,q,none⟩=some (.int .u64 1)→∃ g',stepG P false g w=.go g' w #[⟨.cell ⟨R,q,none⟩,false,true⟩])→ok 4 g)(K8:∀ w,Pre 4 w→w.cell? ⟨R,q,none⟩=some (.int .u64 1))(K9:∀ w,aI 4 w=3)
  (La:∀ g,(∀ w x,w.cell? ⟨R,q,none⟩=some x→w.frozen? ⟨R,q,none⟩=false→∃ g',stepG P false g w=.go g' (w.setCell ⟨R,q,none⟩ (.int .u64 0)) #[⟨.cell ⟨R,q,none⟩,true,true⟩])→ok 3 g)(Lb:∀ w,Pre 3 w→∃ x,w.cell? ⟨R,q,none⟩=some x∧w.frozen? ⟨R,q,none⟩=false)(Lc:∀ w,aI 3 w=2)
  (hok2:∀ g,mayWake P g=true→(∀ w x,w.cell? ⟨R,q+1,none⟩=some (.int .u32 x)→w.frozen? ⟨R,q+1,none⟩=false→∃ g',stepG P false g w=.go g' (w.setCell ⟨R,q+1,none⟩ (.int .u32 (IntKind.u32.wrap (x+1)))) (semEvents ⟨R,q+1,none⟩))→ok 2 g)(Ld:∀ w,Pre 2 w→∃ x,w.cell? ⟨R,q+1,none⟩=some (.int .u32 x)∧w.frozen? ⟨R,q+1,none⟩=false)(hn2:∀ w,aI 2 w=1)
  (hok1:∀ g g',(∀ w,stepG P false g w=.go g' w #[⟨.mark .enable,false,true⟩])→ok 1 g)(hn1:∀ w,aI 1 w=0)
  {b₀:Frame}{a₀:Act}{ops₀:Array Oper}{i₀:Nat}{rest₀:List Nat}{k₀:List Item}{cs:List Frame} 
  (hT:aH P ok Pre aI N 0 (G (b₀.at (a₀.put ((ops₀[i₀]?).bind (·.dst)) (.tuple #[])) (.inRegion ops₀ rest₀ :: k₀)) cs)) :
  aH P ok Pre aI (N+300) 7 (G ((base L.add).at ⟨#[.pointer (some ⟨R,q,none⟩),.int .i64 (-1)] ++ Array.replicate 115 undef,[]⟩ [.code ((addFn L).body.getD .skip)]) (b₀.at a₀ (.inRegion ops₀ (i₀ :: rest₀) :: k₀) :: cs)):=by
 lib_facts
 simp only [addFn,Option.getD_some]
 refine aF (a:=?XD) (fun hh=>?Le) ?XE
 case Le =>
  refine Tq (Tt rfl ?_)
  refine Tq (Tq (Tg ?_))
  refine Tv (.int .i64 (-1)) ?_
  refine Tv (.bool true) ?_
  refine Te ?_
  exact hh
 refine aF (a:=?XF) (fun hh=>?Lf) ?XG
 case Lf =>
  refine Tt rfl ?_
  refine Tg ?_
  refine Tv (.pointer (some ⟨R,q,none⟩)) ?_
  refine aH.conv (R:=R) (q:=q) rfl rfl (by k_ne) rfl rfl H.underlying_tWgP H.underlying_tUP H.room_tWg KW ae ?_
  walk_nrm
  exact hh
 refine aH.op rfl (KX _ _ fun w=>stepG_markAt .releaseMerge ah rfl rfl (by k_ne) rfl H.f_relMerge (x_relMerge_n L) (x_relMerge_b L) (x_relMerge_x L) (x_relMerge_f L) (by simp [Act.eval])) fun w g' w' es _ hst=>?_
 rw [stepG_markAt .releaseMerge ah rfl rfl (by k_ne) rfl H.f_relMerge (x_relMerge_n L) (x_relMerge_b L) (x_relMerge_x L) (x_relMerge_f L) (ad:=⟨R,q,none⟩) (by simp [Act.eval])] at hst
 obtain ⟨rfl,rfl,rfl⟩:=qw hst
 rw [KY]
 walk_nrm
 refine aF (a:=?XH) (fun hh=>?Lg) ?XI
 case Lg =>
  refine Te (Tq (Tg ?_))
  exact hh
 refine aH.op rfl (KZ _ _ fun w=>stepG_mark0 .disable ah rfl rfl (by k_ne) rfl H.f_disable (x_disable_n L) (x_disable_b L) (x_disable_x L) (x_disable_f L)) fun w g' w' es _ hst=>?_
 rw [stepG_mark0 .disable ah rfl rfl (by k_ne) rfl H.f_disable (x_disable_n L) (x_disable_b L) (x_disable_x L) (x_disable_f L)] at hst
 obtain ⟨rfl,rfl,rfl⟩:=qw hst
 rw [K3]
 walk_nrm
 refine aF (a:=?XJ) (fun hh=>?Lh) ?XK
 case Lh =>
  refine Te (Tg ?_)
  refine aH.slip rfl (fun _ _=>stepG_defer rfl rfl (by k_ne) rfl) ?_
  walk_nrm
  refine Te (Tq (Tg ?_))
  refine Tv (.bool false) ?_
  refine Te ?_
  exact hh
 refine aF (a:=?XL) (fun hh=>?Li) ?XM
 case Li =>
  refine Tq (Tq (Tg ?_))
  refine aH.slip rfl (fun _ _=>stepG_entry_pure (.bool false) rfl rfl (by k_ne) rfl H.f_inBubble (x_inBubble_n L) (x_inBubble_b L) (x_inBubble_x L) (x_inBubble_f L)) ?_
  walk_nrm
  refine Te (Tf rfl ?_)
  refine Tk (Tq ?_)
  exact hh
 refine aF (a:=?XN) (fun hh=>?Lj) ?XO
 case Lj =>
  refine Tg ?_
  refine Tv (.pointer (some ⟨R,q,none⟩)) ?_
  refine Tv (.pointer (some ⟨R,q,none⟩)) ?_
  refine Tv (.pointer (some ⟨R,q,none⟩)) ?_
  refine Tv (.int .i64 (-1)) ?_
  refine Tv (.int .u64 18446744073709551615) ?_
  refine Tv (.int .u64 18446744069414584320) ?_
  refine aH.call rfl rfl (by k_ne) rfl H.f_uAdd (nm_uAdd L) rfl ?_
  walk_nrmf uAddFn
  exact hh
 refine aF (a:=?XP) (fun hh=>?Ll) ?XQ
 case Ll =>
  refine Tq (Tg ?_)
  refine Tv (.int .u64 0) ?_
  refine Te (Tq (Tg ?_))
  refine Tv (.pointer (some ⟨R,q,none⟩)) ?_
  refine Tv (.pointer (some ⟨R,q,none⟩)) ?_
  exact hh
 refine aF (a:=?XR) (fun hh=>?Lm) ?XT
 case Lm =>
  refine Tv (.pointer (some ⟨R,q,none⟩)) ?_
  refine Tv (.int .u64 18446744069414584320) ?_
  exact hh
 refine aH.op rfl (K4 _ fun w x hc hz=>⟨_,stepG_add_atomic rfl rfl (by k_ne) rfl H.f_addU64 (x_addU64_n L) (x_addU64_b L) (x_addU64_x L) .u64 (x_addU64_f L) rfl rfl hc hz⟩) fun w g' w' es hpre hst=>?_
 obtain ⟨p,wt,hp,hwt,hc,hz⟩:=K5 w hpre
 rw [stepG_add_atomic rfl rfl (by k_ne) rfl H.f_addU64 (x_addU64_n L) (x_addU64_b L) (x_addU64_x L) .u64 (x_addU64_f L) rfl rfl hc hz] at hst
 obtain ⟨rfl,rfl,rfl⟩:=qw hst
 have hy:IntKind.u64.wrap (((p+1) * 4294967296+wt:Nat)+18446744069414584320)=((p * 4294967296+wt:Nat):Int):=by rw [IntKind.wrap_u64];omega
 rw [hy]
 clear hy hpre hz
 walk_nrm
 rcases Nat.eq_zero_or_pos p with hp0 | hp0
 ·subst hp0
  rcases Nat.eq_zero_or_pos wt with hw0 | hw0
  ·subst hw0
   rw [zM w (by rw [hc];simp)]
   clear hc
   simp only [Nat.zero_mul,Nat.zero_add,Int.natCast_zero]
   refine aF (a:=?A1) (fun hh=>?X1) ?Y1
   case X1 =>
    refine Tv (.int .u64 0) ?_
    refine Te (aH.slip rfl (fun _ _=>stepG_ret') ?_)
    refine aH.leave1 rfl rfl H.f_uAdd rfl ?_
    walk_nrm
    refine Tv (.int .u64 0) ?_
    refine Te (Tq (Tq ?_))
    exact hh
   refine aF (a:=?A2) (fun hh=>?X2) ?Y2
   case X2 =>
    refine Tg ?_
    refine Tv (.int .u64 0) ?_
    refine Tv (.int .u64 0) ?_
    refine Tv (.bool false) ?_
    refine Tv (.bool false) ?_
    refine Tu ?_
    refine Tu ?_
    refine Tv (.bool false) ?_
    exact hh
   refine aF (a:=?A3) (fun hh=>?X3) ?Y3
   case X3 =>
    refine Te (Tf rfl ?_)
    refine Tk (Tq (Tg ?_))
    refine Tv (.int .u64 0) ?_
    refine Tv (.int .u64 0) ?_
    refine Tv (.int .i32 0) ?_
    exact hh
   refine aF (a:=?A4) (fun hh=>?X4) ?Y4
   case X4 =>
    refine Tv (.int .i32 0) ?_
    refine Te (Tq (Tg ?_))
    refine Tv (.int .u64 0) ?_
    refine Tv (.int .u64 0) ?_
    refine Tv (.int .u32 0) ?_
    refine Tv (.int .u32 0) ?_
    exact hh
   refine aF (a:=?A5) (fun hh=>?X5) ?Y5
   case X5 =>
    refine Te (Tq (Tq (Tg ?_)))
    refine Tv (.bool true) ?_
    refine Tv (.int .i64 (-1)) ?_
    refine Tv (.bool false) ?_
    refine Tv (.bool false) ?_
    exact hh
   refine aF (a:=?A6) (fun hh=>?X6) ?Y6
   case X6 =>
    refine Tv (.bool false) ?_
    refine Tu ?_
    refine Tu ?_
    refine Tu ?_
    refine Tu ?_
    refine Tv (.bool false) ?_
    refine Te (Tf rfl ?_)
    exact hh
   refine aF (a:=?A7) (fun hh=>?X7) ?Y7
   case X7 =>
    refine Tk (Tq (Tq (Tg ?_)))
    refine Tv (.int .i32 0) ?_
    refine Tv (.bool false) ?_
    refine Te (Tf rfl ?_)
    exact hh
   refine aF (a:=?A8) (fun hh=>?X8) ?Y8
   case X8 =>
    refine Tk (Tq (Tq (Tg ?_)))
    refine Tv (.int .u32 0) ?_
    refine Tv (.bool false) ?_
    refine Tv (.bool false) ?_
    refine Tu ?_
    exact hh
   refine aF (a:=?A9) (fun hh=>?X9) ?Y9
   case X9 =>
    refine Tu ?_
    refine Tv (.bool false) ?_
    refine Tv (.bool false) ?_
    refine Tu ?_
    refine Tu ?_
    refine Tu ?_
    refine Tu ?_
    refine Tv (.bool false) ?_
    exact hh
   refine aF (a:=?Dp) (fun hh=>?uI) ?Dq
   case uI =>
    refine Te (Tf rfl ?_)
    refine Tk (Tq (Tq (Tg ?_)))
    refine Tv (.int .i32 0) ?_
    refine Tv (.bool false) ?_
    exact hh
   refine aF (a:=?Dr) (fun hh=>?uJ) ?Dt
   case uJ =>
    refine Tv (.bool false) ?_
    refine Tv (.int .u32 0) ?_
    refine Tv (.bool true) ?_
    refine Tv (.bool true) ?_
    refine Te (Tt rfl ?_)
    refine aH.slip rfl (fun _ _=>stepG_ret') ?_
    refine aH.enable rfl H.f_enable (x_enable_n L) (x_enable_b L) (x_enable_x L) (x_enable_f L) hok1 hn1 ?_
    walk_nrm
    exact hh
   refine aF (a:=?Du) (fun hh=>?uK) ?Dv
   case uK =>
    refine aH.leave0 rfl rfl H.f_add rfl ?_
    walk_nrm
    exact hh
   exact hT.mono ag
  ·have hw1:wt=1:=by omega
   subst hw1
   rw [K6 w (by rw [hc];rfl)]
   clear hc
   simp only [Nat.zero_mul,Nat.zero_add,Int.natCast_one]
   refine aF (a:=?Dw) (fun hh=>?uL) ?Dx
   case uL =>
    refine Tv (.int .u64 1) ?_
    refine Te (aH.slip rfl (fun _ _=>stepG_ret') ?_)
    refine aH.leave1 rfl rfl H.f_uAdd rfl ?_
    walk_nrm
    refine Tv (.int .u64 1) ?_
    refine Te (Tq (Tq ?_))
    exact hh
   refine aF (a:=?Dy) (fun hh=>?uM) ?Dz
   case uM =>
    refine Tg ?_
    refine Tv (.int .u64 1) ?_
    refine Tv (.int .u64 0) ?_
    refine Tv (.bool false) ?_
    refine Tv (.bool false) ?_
    refine Tu ?_
    refine Tu ?_
    refine Tv (.bool false) ?_
    exact hh
   refine aF (a:=?DC) (fun hh=>?uN) ?DD
   case uN =>
    refine Te (Tf rfl ?_)
    refine Tk (Tq (Tg ?_))
    refine Tv (.int .u64 1) ?_
    refine Tv (.int .u64 0) ?_
    refine Tv (.int .i32 0) ?_
    exact hh
   refine aF (a:=?DF) (fun hh=>?uO) ?DI
   case uO =>
    refine Tv (.int .i32 0) ?_
    refine Te (Tq (Tg ?_))
    refine Tv (.int .u64 1) ?_
    refine Tv (.int .u64 1) ?_
    refine Tv (.int .u32 1) ?_
    refine Tv (.int .u32 1) ?_
    exact hh
   refine aF (a:=?DJ) (fun hh=>?uP) ?DK
   case uP =>
    refine Te (Tq (Tq (Tg ?_)))
    refine Tv (.bool true) ?_
    refine Tv (.int .i64 (-1)) ?_
    refine Tv (.bool false) ?_
    refine Tv (.bool false) ?_
    exact hh
   refine aF (a:=?DN) (fun hh=>?uQ) ?DT
   case uQ =>
    refine Tv (.bool false) ?_
    refine Tu ?_
    refine Tu ?_
    refine Tu ?_
    refine Tu ?_
    refine Tv (.bool false) ?_
    refine Te (Tf rfl ?_)
    exact hh
   refine aF (a:=?DU) (fun hh=>?uR) ?DV
   case uR =>
    refine Tk (Tq (Tq (Tg ?_)))
    refine Tv (.int .i32 0) ?_
    refine Tv (.bool false) ?_
    refine Te (Tf rfl ?_)
    exact hh
   refine aF (a:=?DW) (fun hh=>?uS) ?DX
   case uS =>
    refine Tk (Tq (Tq (Tg ?_)))
    refine Tv (.int .u32 1) ?_
    refine Tv (.bool true) ?_
    refine Tv (.bool true) ?_
    refine Tv (.int .i64 (-1)) ?_
    exact hh
   refine aF (a:=?DY) (fun hh=>?uT) ?DZ
   case uT =>
    refine Tv (.bool false) ?_
    refine Tv (.bool false) ?_
    refine Tv (.bool false) ?_
    refine Tu ?_
    refine Tu ?_
    refine Tu ?_
    refine Tu ?_
    refine Tv (.bool false) ?_
    exact hh
   refine aF (a:=?D3) (fun hh=>?uU) ?D4
   case uU =>
    refine Te (Tf rfl ?_)
    refine Tk (Tq (Tq (Tg ?_)))
    refine Tv (.int .i32 0) ?_
    refine Tv (.bool false) ?_
    exact hh
   refine aF (a:=?D6) (fun hh=>?uV) ?D7
   case uV =>
    refine Tv (.bool false) ?_
    refine Tv (.int .u32 1) ?_
    refine Tv (.bool false) ?_
    refine Tv (.bool false) ?_
    refine Te (Tf rfl ?_)
    refine Tk (Tq ?_)
    exact hh
   refine aF (a:=?D9) (fun hh=>?uW) ?Ea
   case uW =>
    refine Tq (Tg ?_)
    refine Tv (.pointer (some ⟨R,q,none⟩)) ?_
    refine Tv (.pointer (some ⟨R,q,none⟩)) ?_
    refine Tv (.pointer (some ⟨R,q,none⟩)) ?_
    refine aH.call rfl rfl (by k_ne) rfl H.f_uLoad (nm_uLoad L) rfl ?_
    walk_nrmf uLoadFn
    refine Tq (Tg ?_)
    exact hh
   refine aF (a:=?Eb) (fun hh=>?uX) ?Ec
   case uX =>
    refine Tv (.int .u64 0) ?_
    refine Te (Tq (Tg ?_))
    refine Tv (.pointer (some ⟨R,q,none⟩)) ?_
    refine Tv (.pointer (some ⟨R,q,none⟩)) ?_
    refine Tv (.pointer (some ⟨R,q,none⟩)) ?_
    exact hh
   refine aH.op rfl (K7 _ fun w hc=>⟨_,stepG_load_atomic rfl rfl (by k_ne) rfl H.f_loadU64 (x_loadU64_n L) (x_loadU64_b L) (x_loadU64_x L) .u64 (x_loadU64_f L) rfl hc⟩) fun w g' w' es hpre hst=>?_
   rw [stepG_load_atomic rfl rfl (by k_ne) rfl H.f_loadU64 (x_loadU64_n L) (x_loadU64_b L) (x_loadU64_x L) .u64 (x_loadU64_f L) rfl (K8 w hpre)] at hst
   obtain ⟨rfl,rfl,rfl⟩:=qw hst
   rw [K9]
   walk_nrm
   refine aF (a:=?Ed) (fun hh=>?uY) ?Ee
   case uY =>
    refine Tv (.int .u64 1) ?_
    refine Te (aH.slip rfl (fun _ _=>stepG_ret') ?_)
    refine aH.leave1 rfl rfl H.f_uLoad rfl ?_
    walk_nrm
    refine Tv (.int .u64 1) ?_
    refine Tv (.bool false) ?_
    refine Te (Tf rfl ?_)
    exact hh
   refine aF (a:=?Ef) (fun hh=>?uZ) ?Eg
   case uZ =>
    refine Tk (Tq (Tg ?_))
    refine Tv (.pointer (some ⟨R,q,none⟩)) ?_
    refine Tv (.pointer (some ⟨R,q,none⟩)) ?_
    refine Tv (.pointer (some ⟨R,q,none⟩)) ?_
    refine aH.call rfl rfl (by k_ne) rfl H.f_uStore (nm_uStore L) rfl ?_
    walk_nrmf uStoreFn
    refine Tg ?_
    exact hh
   refine aF (a:=?Eh) (fun hh=>?u6) ?Ei
   case u6 =>
    refine Tv (.pointer (some ⟨R,q,none⟩)) ?_
    refine Tv (.pointer (some ⟨R,q,none⟩)) ?_
    refine Tv (.pointer (some ⟨R,q,none⟩)) ?_
    refine Tv (.int .u64 0) ?_
    exact hh
   refine aH.op rfl (La _ fun w x hc hz=>⟨_,stepG_store_atomic rfl rfl (by k_ne) rfl H.f_storeU64 (x_storeU64_n L) (x_storeU64_b L) (x_storeU64_x L) (x_storeU64_f L) rfl rfl hc hz⟩) fun w g' w' es hpre hst=>?_
   obtain ⟨x,hc,hz⟩:=Lb w hpre
   rw [stepG_store_atomic rfl rfl (by k_ne) rfl H.f_storeU64 (x_storeU64_n L) (x_storeU64_b L) (x_storeU64_x L) (x_storeU64_f L) rfl rfl hc hz] at hst
   obtain ⟨rfl,rfl,rfl⟩:=qw hst
   rw [Lc]
   clear hc hz
   walk_nrm
   refine aF (a:=?Ej) (fun hh=>?u7) ?El
   case u7 =>
    refine Te (aH.slip rfl (fun _ _=>stepG_end) ?_)
    refine aH.leave0 rfl rfl H.f_uStore rfl ?_
    walk_nrm
    refine Te (Tq (Tq (Tg ?_)))
    refine Tv (.bool false) ?_
    exact hh
   refine aF (a:=?Em) (fun hh=>?ve) ?En
   case ve =>
    refine Te (Tf rfl ?_)
    refine Tk (aH.slip rfl (fun _ _=>stepG_block) ?_)
    refine aH.slip rfl (fun _ _=>stepG_loop) ?_
    refine Tq (Tq (Tg ?_))
    exact hh
   refine aF (a:=?Eo) (fun hh=>?vg) ?Ep
   case vg =>
    refine Tv (.int .u32 1) ?_
    refine Tv (.bool true) ?_
    refine Te (Tt rfl ?_)
    refine Tk (Tq (aH.slip rfl (fun _ _=>stepG_block) ?_))
    refine Tg ?_
    exact hh
   refine aF (a:=?Er) (fun hh=>?vk) ?Es
   case vk =>
    refine Tv (.pointer (some ⟨R,q,none⟩)) ?_
    refine Tv (.pointer (some ⟨R,q,none⟩)) ?_
    refine Tv (.pointer (some ⟨R,q+1,none⟩)) ?_
    exact hh
   refine aH.op rfl (hok2 _ (KT rfl rfl H.f_semrelease (x_semrelease_b L)) fun w x hc hz=>⟨_,stepG_semrelease rfl rfl (by k_ne) rfl H.f_semrelease (x_semrelease_n L) (x_semrelease_b L) (x_semrelease_x L) (x_semrelease_f L) (by simp [Act.eval]) hc hz⟩) fun w g' w' es hpre hst=>?_
   obtain ⟨x,hc,hz⟩:=Ld w hpre
   rw [stepG_semrelease rfl rfl (by k_ne) rfl H.f_semrelease (x_semrelease_n L) (x_semrelease_b L) (x_semrelease_x L) (x_semrelease_f L) (ad:=⟨R,q+1,none⟩) (by simp [Act.eval]) hc hz] at hst
   obtain ⟨rfl,rfl,rfl⟩:=qw hst
   rw [hn2]
   clear hc hz
   walk_nrm
   refine aF (a:=?Lp) (fun hh=>?zN) ?Lr
   case zN =>
    refine Te (aH.slip rfl (fun _ _=>stepG_inBlock) ?_)
    refine Tg ?_
    refine Tv (.int .u32 1) ?_
    refine Tv (.int .u32 0) ?_
    refine Tv (.int .u32 0) ?_
    refine Te (aH.slip rfl (fun _ _=>stepG_inLoop) ?_)
    exact hh
   refine aF (a:=?XU) (fun hh=>?Ls) ?XV
   case Ls =>
    refine Tq (Tq (Tg ?_))
    refine Tv (.int .u32 0) ?_
    refine Tv (.bool false) ?_
    refine Te (Tf rfl ?_)
    refine aH.slip rfl (fun _ _=>(stepG_exit rfl)) ?_
    exact hh
   refine aF (a:=?XW) (fun hh=>?Lt) ?XX
   case Lt =>
    refine aH.slip rfl (fun _ _=>stepG_end) ?_
    refine aH.enable rfl H.f_enable (x_enable_n L) (x_enable_b L) (x_enable_x L) (x_enable_f L) hok1 hn1 ?_
    walk_nrm
    refine aH.leave0 rfl rfl H.f_add rfl ?_
    walk_nrm
    exact hh
   exact hT.mono ag
 ·obtain ⟨Y,hY⟩:∃ Y:Int,Y=((p * 4294967296+wt:Nat):Int):=⟨_,rfl⟩
  rw [← hY]
  have hA1:bits .and .u64 Y 2147483648=0:=by rw [hY];exact zL p wt hp hwt
  have hA3:Y / 4294967296=p:=by omega
  have Et:IntKind.i32.wrap (p:Int)=p:=by rw [IntKind.wrap_i32];omega
  have Eu:¬ (p:Int) < 0:=by omega
  have Ev:(0:Int) < p:=by omega
  rcases Nat.eq_zero_or_pos wt with hw0 | hw0
  ·subst hw0
   have hA2:bits .and .u64 Y 2147483647=0:=by rw [hY];exact xx p 0 hp hwt
   rw [zM w (by rw [hc];exact Dn p _ hp0)]
   clear hc hY
   refine aF (a:=?XY) (fun hh=>?Lu) ?XZ
   case Lu =>
    refine Tv (.int .u64 Y) ?_
    refine Te (aH.slip rfl (fun _ _=>stepG_ret') ?_)
    refine aH.leave1 rfl rfl H.f_uAdd rfl ?_
    walk_nrm
    refine Tv (.int .u64 Y) ?_
    refine Te (Tq (Tq ?_))
    exact hh
   refine aF (a:=?X0) (fun hh=>?Lv) ?Ya
   case Lv =>
    refine Tg ?_
    refine Tv (.int .u64 Y) ?_
    refine Tv (.int .u64 0) ?_
    refine Tv (.bool false) ?_
    refine Tv (.bool false) ?_
    refine Tu ?_
    refine Tu ?_
    refine Tv (.bool false) ?_
    exact hh
   refine aF (a:=?Yb) (fun hh=>?Lx) ?Yc
   case Lx =>
    refine Te (Tf rfl ?_)
    refine Tk (Tq (Tg ?_))
    refine Tv (.int .u64 Y) ?_
    refine Tv (.int .u64 (p:Int)) ?_
    refine Tv (.int .i32 (p:Int)) ?_
    exact hh
   refine aF (a:=?Yd) (fun hh=>?LA) ?Ye
   case LA =>
    refine Tv (.int .i32 (p:Int)) ?_
    refine Te (Tq (Tg ?_))
    refine Tv (.int .u64 Y) ?_
    refine Tv (.int .u64 0) ?_
    refine Tv (.int .u32 0) ?_
    refine Tv (.int .u32 0) ?_
    exact hh
   refine aF (a:=?Yf) (fun hh=>?LB) ?Yg
   case LB =>
    refine Te (Tq (Tq (Tg ?_)))
    refine Tv (.bool true) ?_
    refine Tv (.int .i64 (-1)) ?_
    refine Tv (.bool false) ?_
    refine Tv (.bool false) ?_
    exact hh
   refine aF (a:=?Yh) (fun hh=>?LC) ?Yi
   case LC =>
    refine Tv (.bool false) ?_
    refine Tu ?_
    refine Tu ?_
    refine Tu ?_
    refine Tu ?_
    refine Tv (.bool false) ?_
    refine Te (Tf rfl ?_)
    exact hh
   refine aF (a:=?Yj) (fun hh=>?LD) ?Yk
   case LD =>
    refine Tk (Tq (Tq (Tg ?_)))
    refine Tv (.int .i32 (p:Int)) ?_
    refine Tv (.bool false) ?_
    refine Te (Tf rfl ?_)
    exact hh
   refine aF (a:=?Yl) (fun hh=>?LF) ?Ym
   case LF =>
    refine Tk (Tq (Tq (Tg ?_)))
    refine Tv (.int .u32 0) ?_
    refine Tv (.bool false) ?_
    refine Tv (.bool false) ?_
    refine Tu ?_
    exact hh
   refine aF (a:=?Yn) (fun hh=>?LG) ?Yo
   case LG =>
    refine Tu ?_
    refine Tv (.bool false) ?_
    refine Tv (.bool false) ?_
    refine Tu ?_
    refine Tu ?_
    refine Tu ?_
    refine Tu ?_
    refine Tv (.bool false) ?_
    exact hh
   refine aF (a:=?Yp) (fun hh=>?LH) ?Yq
   case LH =>
    refine Te (Tf rfl ?_)
    refine Tk (Tq (Tq (Tg ?_)))
    refine Tv (.int .i32 (p:Int)) ?_
    refine Tv (.bool true) ?_
    exact hh
   refine aF (a:=?Yr) (fun hh=>?LJ) ?Yt
   case LJ =>
    refine Tv (.bool true) ?_
    refine Tu ?_
    refine Tu ?_
    refine Tv (.bool true) ?_
    refine Te (Tt rfl ?_)
    refine aH.slip rfl (fun _ _=>stepG_ret') ?_
    refine aH.enable rfl H.f_enable (x_enable_n L) (x_enable_b L) (x_enable_x L) (x_enable_f L) hok1 hn1 ?_
    walk_nrm
    exact hh
   refine aF (a:=?Yu) (fun hh=>?LK) ?Yv
   case LK =>
    refine aH.leave0 rfl rfl H.f_add rfl ?_
    walk_nrm
    exact hh
   exact hT.mono ag
  ·have hw1:wt=1:=by omega
   subst hw1
   have hA2:bits .and .u64 Y 2147483647=1:=by rw [hY];exact xx p 1 hp hwt
   rw [zM w (by rw [hc];exact Dn p _ hp0)]
   clear hc hY
   refine aF (a:=?Yw) (fun hh=>?LM) ?Yx
   case LM =>
    refine Tv (.int .u64 Y) ?_
    refine Te (aH.slip rfl (fun _ _=>stepG_ret') ?_)
    refine aH.leave1 rfl rfl H.f_uAdd rfl ?_
    walk_nrm
    refine Tv (.int .u64 Y) ?_
    refine Te (Tq (Tq ?_))
    exact hh
   refine aF (a:=?Yy) (fun hh=>?LP) ?Yz
   case LP =>
    refine Tg ?_
    refine Tv (.int .u64 Y) ?_
    refine Tv (.int .u64 0) ?_
    refine Tv (.bool false) ?_
    refine Tv (.bool false) ?_
    refine Tu ?_
    refine Tu ?_
    refine Tv (.bool false) ?_
    exact hh
   refine aF (a:=?YA) (fun hh=>?LQ) ?YB
   case LQ =>
    refine Te (Tf rfl ?_)
    refine Tk (Tq (Tg ?_))
    refine Tv (.int .u64 Y) ?_
    refine Tv (.int .u64 (p:Int)) ?_
    refine Tv (.int .i32 (p:Int)) ?_
    exact hh
   refine aF (a:=?YC) (fun hh=>?LU) ?YD
   case LU =>
    refine Tv (.int .i32 (p:Int)) ?_
    refine Te (Tq (Tg ?_))
    refine Tv (.int .u64 Y) ?_
    refine Tv (.int .u64 1) ?_
    refine Tv (.int .u32 1) ?_
    refine Tv (.int .u32 1) ?_
    exact hh
   refine aF (a:=?YE) (fun hh=>?LV) ?YF
   case LV =>
    refine Te (Tq (Tq (Tg ?_)))
    refine Tv (.bool true) ?_
    refine Tv (.int .i64 (-1)) ?_
    refine Tv (.bool false) ?_
    refine Tv (.bool false) ?_
    exact hh
   refine aF (a:=?YG) (fun hh=>?LW) ?YH
   case LW =>
    refine Tv (.bool false) ?_
    refine Tu ?_
    refine Tu ?_
    refine Tu ?_
    refine Tu ?_
    refine Tv (.bool false) ?_
    refine Te (Tf rfl ?_)
    exact hh
   refine aF (a:=?YI) (fun hh=>?LX) ?YJ
   case LX =>
    refine Tk (Tq (Tq (Tg ?_)))
    refine Tv (.int .i32 (p:Int)) ?_
    refine Tv (.bool false) ?_
    refine Te (Tf rfl ?_)
    exact hh
   refine aF (a:=?YK) (fun hh=>?LY) ?YL
   case LY =>
    refine Tk (Tq (Tq (Tg ?_)))
    refine Tv (.int .u32 1) ?_
    refine Tv (.bool true) ?_
    refine Tv (.bool true) ?_
    refine Tv (.int .i64 (-1)) ?_
    exact hh
   refine aF (a:=?YM) (fun hh=>?LZ) ?YN
   case LZ =>
    refine Tv (.bool false) ?_
    refine Tv (.bool false) ?_
    refine Tv (.bool false) ?_
    refine Tu ?_
    refine Tu ?_
    refine Tu ?_
    refine Tu ?_
    refine Tv (.bool false) ?_
    exact hh
   refine aF (a:=?YO) (fun hh=>?L5) ?YP
   case L5 =>
    refine Te (Tf rfl ?_)
    refine Tk (Tq (Tq (Tg ?_)))
    refine Tv (.int .i32 (p:Int)) ?_
    refine Tv (.bool true) ?_
    exact hh
   refine aF (a:=?YQ) (fun hh=>?L6) ?YR
   case L6 =>
    refine Tv (.bool true) ?_
    refine Tu ?_
    refine Tu ?_
    refine Tv (.bool true) ?_
    refine Te (Tt rfl ?_)
    refine aH.slip rfl (fun _ _=>stepG_ret') ?_
    refine aH.enable rfl H.f_enable (x_enable_n L) (x_enable_b L) (x_enable_x L) (x_enable_f L) hok1 hn1 ?_
    walk_nrm
    exact hh
   refine aF (a:=?YS) (fun hh=>?L8) ?YT
   case L8 =>
    refine aH.leave0 rfl rfl H.f_add rfl ?_
    walk_nrm
    exact hh
   exact hT.mono ag
variable {L:WgLink}
structure zO (P:Program)(ok:Nat→Goroutine→Prop)(Pre:Nat→World→Prop)(aI:Nat→World→Nat)(R q:Nat):Prop where
 p0:∀ w,Pre 0 w→∃ v,w.cell? ⟨R,q,none⟩=some v
 L9:∀ g g',(∀ w,stepG P false g w=.go g' w #[⟨.mark (.releaseMerge ⟨R,q,none⟩),false,true⟩])→ok 7 g
 n7:∀ w,aI 7 w=6
 Ma:∀ g g',(∀ w,stepG P false g w=.go g' w #[⟨.mark .disable,false,true⟩])→ok 6 g
 n6:∀ w,aI 6 w=5
 Mc:∀ g,(∀ w x,w.cell? ⟨R,q,none⟩=some (.int .u64 x)→w.frozen? ⟨R,q,none⟩=false→∃ g',stepG P false g w=.go g' (w.setCell ⟨R,q,none⟩ (.int .u64 (IntKind.u64.wrap (x+18446744069414584320)))) #[⟨.cell ⟨R,q,none⟩,false,true⟩,⟨.cell ⟨R,q,none⟩,true,true⟩])→ok 5 g
 p5:∀ w,Pre 5 w→∃ p wt:Nat,p≤100∧wt≤1∧w.cell? ⟨R,q,none⟩=some (.int .u64 ((p+1) * 4294967296+wt:Nat))∧w.frozen? ⟨R,q,none⟩=false
 Md:∀ w,w.cell? ⟨R,q,none⟩≠some (.int .u64 4294967297)→aI 5 w=1
 Mi:∀ w,w.cell? ⟨R,q,none⟩=some (.int .u64 4294967297)→aI 5 w=4
 Ml:∀ g,(∀ w,w.cell? ⟨R,q,none⟩=some (.int .u64 1)→∃ g',stepG P false g w=.go g' w #[⟨.cell ⟨R,q,none⟩,false,true⟩])→ok 4 g
 p4:∀ w,Pre 4 w→w.cell? ⟨R,q,none⟩=some (.int .u64 1)
 n4:∀ w,aI 4 w=3
 Mo:∀ g,(∀ w x,w.cell? ⟨R,q,none⟩=some x→w.frozen? ⟨R,q,none⟩=false→∃ g',stepG P false g w=.go g' (w.setCell ⟨R,q,none⟩ (.int .u64 0)) #[⟨.cell ⟨R,q,none⟩,true,true⟩])→ok 3 g
 p3:∀ w,Pre 3 w→∃ x,w.cell? ⟨R,q,none⟩=some x∧w.frozen? ⟨R,q,none⟩=false
 n3:∀ w,aI 3 w=2
 Mr:∀ g,mayWake P g=true→(∀ w x,w.cell? ⟨R,q+1,none⟩=some (.int .u32 x)→w.frozen? ⟨R,q+1,none⟩=false→∃ g',stepG P false g w=.go g' (w.setCell ⟨R,q+1,none⟩ (.int .u32 (IntKind.u32.wrap (x+1)))) (semEvents ⟨R,q+1,none⟩))→ok 2 g
 p2:∀ w,Pre 2 w→∃ x,w.cell? ⟨R,q+1,none⟩=some (.int .u32 x)∧w.frozen? ⟨R,q+1,none⟩=false
 n2:∀ w,aI 2 w=1
 ok1:∀ g g',(∀ w,stepG P false g w=.go g' w #[⟨.mark .enable,false,true⟩])→ok 1 g
 n1:∀ w,aI 1 w=0
section
variable {P:Program}{ok:Nat→Goroutine→Prop}{Pre:Nat→World→Prop}{aI:Nat→World→Nat}{R q:Nat}
set_option maxRecDepth 100000 in
theorem Ms (H:WgLib P L)(W:zO P ok Pre aI R q){c:Frame}{cs:List Frame}{N:Nat}(hcm:c.mode=.returning)(hT:aH P ok Pre aI N 0 (G c cs)) :
  aH P ok Pre aI (N+310) 7 (G ((baseD L.done).at ⟨#[.pointer (some ⟨R,q,none⟩)] ++ Array.replicate 3 undef,[]⟩ [.code ((doneFn L).body.getD .skip)]) (c :: cs)):=by
 lib_facts
 simp only [doneFn,Option.getD_some]
 refine Tg ?_
 refine aH.value (.pointer (some ⟨R,q,none⟩)) rfl rfl (by k_ne) (fun _=>by go_simp) (fun _=>by simp [go_sem]) ?_
 walk_nrm
 refine aH.call (c:=(addFn L).body.getD .skip) rfl rfl (by k_ne) rfl H.f_add (nm_add L) rfl ?_
 rw [show (addFn L).ntmps=117 from rfl]
 simp only [List.map_toArray,List.map_cons,List.map_nil,Act.eval,Array.getD_eq_getD_getElem?,List.getElem?_toArray,List.getElem?_cons_succ,List.getElem?_cons_zero,Option.getD_some,List.size_toArray,List.length_cons,List.length_nil,Nat.reduceAdd,Nat.zero_add,Nat.reduceSub]
 refine (KV (N:=N+3) H W.p0 W.L9 W.n7 W.Ma W.n6 W.Mc W.p5 W.Md W.Mi W.Ml W.p4 W.n4 W.Mo W.p3 W.n3 W.Mr W.p2 W.n2 W.ok1 W.n1 ?_).mono ag
 refine Te (aH.slip rfl (fun _ _=>stepG_end) ?_)
 exact aH.leaveD rfl rfl H.f_done rfl hcm hT
theorem Mw (H:WgLib P L)(W:zO P ok Pre aI R q){f:FuncId}{fn:Func}(hf:P.funcs[f]?=some fn)(hr:fn.results=#[]){b:Frame}(hb:b.fn=f)(hk:b.kind=.deferred){tm:Array Value}{todo:List Item} :
  aH P ok Pre aI 320 7 (G { b.at ⟨tm,[dcall L.done #[.pointer (some ⟨R,q,none⟩)]]⟩ todo with mode:=.returning } [floor P []]):=by
 refine aH.slip rfl (fun w _=>stepG_unwind_enter (ds:=[]) rfl H.f_done (nm_done L) rfl) ?_
 refine (Ms (N:=2) (c:={ b.at ⟨tm,[]⟩ todo with mode:=.returning }) H W rfl ?_).mono ag
 refine aH.slip (g':=G (floor P []) []) rfl (fun w _=>?_) (aH.slip rfl (fun w _=>Ky) (aH.fin rfl))
 have e1:=results_none hr tm P w
 have e2:=events_results_none (w:=w) (P:=P) hr tm #[]
 subst hb
 simp [G,stepG,unwind,doReturn,Frame.at,hk,hf,e1,e2,seen,GStep.after,floor]
 rfl
end
def hid:Nat→List Event→Prop
 | _,[]=>True
 | d,e :: l=>(∀ a,(MemAct.ofEvent e).touch?=some a→a.loc.isMemory=true→a.kind=.atomic∧0 < d)∧hid (deafBehind d #[e]) l
theorem Mx (i:Nat)(fn:FuncId)(pos:String)(e:Event)(l:List Event)(T:Trace):T ++ MemOp.ofEvents i fn pos (e :: l).toArray=(T ++ MemOp.ofEvents i fn pos #[e]) ++ MemOp.ofEvents i fn pos l.toArray:=by
 rw [ofEvents_eq,ofEvents_eq,ofEvents_eq]
 simp
theorem xy (i:Nat)(fn:FuncId)(pos:String):∀ (l:List Event)(T:Trace),hid (Deaf T i) l→∀ k,T.size≤k→¬ (T ++ MemOp.ofEvents i fn pos l.toArray).counts k
 | [],T,_,k,hk,hc=>by
  obtain ⟨x,hx,_⟩:=hc
  have e:MemOp.ofEvents i fn pos ([]:List Event).toArray=#[]:=rfl
  rw [e,Array.append_empty] at hx
  obtain ⟨op,ho,_⟩:=touch_of hx
  have:=(Array.getElem?_eq_some_iff.1 ho).1
  omega
 | e :: l,T,h,k,hk,hc=>by
  rw [Mx] at hc
  have hs:(T ++ MemOp.ofEvents i fn pos #[e]).size=T.size+1:=by rw [ofEvents_eq];simp
  by_cases q:k=T.size
  ·subst q
   obtain ⟨x,hx,hm,hh⟩:=hc
   have ho:((T ++ MemOp.ofEvents i fn pos #[e]) ++ MemOp.ofEvents i fn pos l.toArray)[T.size]?=some { g:=i,fn:=fn,pos:=pos,act:=.ofEvent e }:=by
    rw [getElem?_append_old ag,ofEvents_eq]
    simp
   have ht:(MemAct.ofEvent e).touch?=some x:=by
    have:=touchAt_of ho
    unfold touchAt at this
    rw [hx] at this
    exact this.symm
   obtain ⟨ha,hd⟩:=h.1 x ht hm
   rcases hh with z | z
   ·exact z ha
   ·obtain ⟨g,hg,h0⟩:=z
    have:g=i:=by unfold Trace.g? at hg;rw [ho] at hg;exact (Option.some.inj hg).symm
    subst this
    rw [deaf_old ag,deaf_old (Nat.le_refl _)] at h0
    unfold Deaf at hd
    omega
  ·have h2:=h.2
   rw [← Deaf_own T i fn pos #[e]] at h2
   exact xy i fn pos l _ h2 k ag hc
theorem counts_old {T u:Trace}{k:Nat}(hk:k < T.size):(T ++ u).counts k↔T.counts k:=by
 unfold Trace.counts
 rw [heard_old hk]
 have:(T ++ u).act? k=T.act? k:=by simp only [Trace.act?,getElem?_append_old hk]
 rw [this]
def Said (a:Addr)(T:Trace)(i:Nat):Prop:=∃ m,T.g? m=some i∧T.act? m=some (.mark (.releaseMerge a))∧T.heard m∧∀ k,T.g? k=some i→T.counts k→k < m
theorem xz {T:Trace}{m i:Nat}(h:T.g? m=some i):m < T.size:=by
 unfold Trace.g? at h
 cases q:T[m]? with
 | none=>rw [q] at h;cases h
 | some x=>exact (Array.getElem?_eq_some_iff.1 q).1
theorem Said.other {a:Addr}{T u:Trace}{i:Nat}(h:Said a T i)(hu:∀ op∈u,op.g≠i):Said a (T ++ u) i:=by
 obtain ⟨m,h1,h2,h3,h4⟩:=h
 have hm:=xz h1
 refine ⟨m,by rw [g?_old hm];exact h1,?_,(heard_old hm).2 h3,fun k hk hc=>?_⟩
 ·have:(T ++ u).act? m=T.act? m:=by simp only [Trace.act?,getElem?_append_old hm]
  rw [this];exact h2
 ·by_cases q:k < T.size
  ·exact h4 k (by rw [g?_old q] at hk;exact hk) ((counts_old q).1 hc)
  ·exfalso
   unfold Trace.g? at hk
   cases z:(T ++ u)[k]? with
   | none=>rw [z] at hk;cases hk
   | some x =>
    rw [z] at hk
    rcases getElem?_append_cases z with ⟨q2,_⟩ | ⟨_,hx⟩
    ·exact q q2
    ·simp only [Option.map_some,Option.some.injEq] at hk
     exact hu x hx hk
theorem Said.own {a:Addr}{T:Trace}{i:Nat}(h:Said a T i){fn:FuncId}{pos:String}{l:List Event}(hl:hid (Deaf T i) l):Said a (T ++ MemOp.ofEvents i fn pos l.toArray) i:=by
 obtain ⟨m,h1,h2,h3,h4⟩:=h
 have hm:=xz h1
 refine ⟨m,by rw [g?_old hm];exact h1,?_,(heard_old hm).2 h3,fun k hk hc=>?_⟩
 ·have:∀ u:Trace,(T ++ u).act? m=T.act? m:=fun u=>by simp only [Trace.act?,getElem?_append_old hm]
  rw [this];exact h2
 ·by_cases q:k < T.size
  ·exact h4 k (by rw [g?_old q] at hk;exact hk) ((counts_old q).1 hc)
  ·exact (xy i fn pos l T hl k ag hc).elim
theorem Said.begin {a:Addr}{T:Trace}{i:Nat}(hd:Deaf T i=0){fn:FuncId}{pos:String}:Said a (T ++ MemOp.ofEvents i fn pos #[⟨.mark (.releaseMerge a),false,true⟩]) i:=by
 have ho:(T ++ MemOp.ofEvents i fn pos #[⟨.mark (.releaseMerge a),false,true⟩])[T.size]?=some { g:=i,fn:=fn,pos:=pos,act:=.mark (.releaseMerge a) }:=by
  rw [ofEvents_eq]
  simp [MemAct.ofEvent]
 refine ⟨T.size,by simp [Trace.g?,ho],by simp [Trace.act?,ho],⟨i,by simp [Trace.g?,ho],by rw [deaf_old (Nat.le_refl _)];exact hd⟩,fun k hk hc=>?_⟩
 by_cases q:k < T.size
 ·exact q
 ·exact (xy i fn pos [⟨.mark (.releaseMerge a),false,true⟩] T ⟨fun x hx=>absurd hx (by simp [MemAct.ofEvent,MemAct.touch?]),trivial⟩ k ag hc).elim
theorem rH {T u:Trace}{i:Nat}(hu:∀ op∈u,op.g≠i):Deaf (T ++ u) i=Deaf T i :=
 Deaf_quiet fun op hop d=>by
  unfold deafStep
  have:=hu op hop
  split <;> simp [this]
def oM (s:Nat):Nat:=if 1≤s∧s≤5 then 1 else 0
def ig (P:Program)(R q:Nat):Nat→Goroutine→Prop
 | 7,g=>∃ g',∀ w,stepG P false g w=.go g' w #[⟨.mark (.releaseMerge ⟨R,q,none⟩),false,true⟩]
 | 6,g=>∃ g',∀ w,stepG P false g w=.go g' w #[⟨.mark .disable,false,true⟩]
 | 5,g=>∀ w x,w.cell? ⟨R,q,none⟩=some (.int .u64 x)→w.frozen? ⟨R,q,none⟩=false→∃ g',stepG P false g w=.go g' (w.setCell ⟨R,q,none⟩ (.int .u64 (IntKind.u64.wrap (x+18446744069414584320)))) #[⟨.cell ⟨R,q,none⟩,false,true⟩,⟨.cell ⟨R,q,none⟩,true,true⟩]
 | 4,g=>∀ w,w.cell? ⟨R,q,none⟩=some (.int .u64 1)→∃ g',stepG P false g w=.go g' w #[⟨.cell ⟨R,q,none⟩,false,true⟩]
 | 3,g=>∀ w x,w.cell? ⟨R,q,none⟩=some x→w.frozen? ⟨R,q,none⟩=false→∃ g',stepG P false g w=.go g' (w.setCell ⟨R,q,none⟩ (.int .u64 0)) #[⟨.cell ⟨R,q,none⟩,true,true⟩]
 | 2,g=>mayWake P g=true∧∀ w x,w.cell? ⟨R,q+1,none⟩=some (.int .u32 x)→w.frozen? ⟨R,q+1,none⟩=false→∃ g',stepG P false g w=.go g' (w.setCell ⟨R,q+1,none⟩ (.int .u32 (IntKind.u32.wrap (x+1)))) (semEvents ⟨R,q+1,none⟩)
 | 1,g=>∃ g',∀ w,stepG P false g w=.go g' w #[⟨.mark .enable,false,true⟩]
 | _,_=>False
def oN (R q:Nat):Nat→World→Prop
 | 0,w=>∃ v,w.cell? ⟨R,q,none⟩=some v
 | 5,w=>∃ p wt:Nat,p≤100∧wt≤1∧w.cell? ⟨R,q,none⟩=some (.int .u64 ((p+1) * 4294967296+wt:Nat))∧w.frozen? ⟨R,q,none⟩=false
 | 4,w=>w.cell? ⟨R,q,none⟩=some (.int .u64 1)
 | 3,w=>∃ x,w.cell? ⟨R,q,none⟩=some x∧w.frozen? ⟨R,q,none⟩=false
 | 2,w=>∃ x,w.cell? ⟨R,q+1,none⟩=some (.int .u32 x)∧w.frozen? ⟨R,q+1,none⟩=false
 | _,_=>True
def kK (R q:Nat):Nat→World→Nat
 | 7,_=>6
 | 6,_=>5
 | 5,w=>match w.cell? ⟨R,q,none⟩ with
  | some (.int .u64 n)=>if n=4294967297 then 4 else 1
  | _=>1
 | 4,_=>3
 | 3,_=>2
 | 2,_=>1
 | _,_=>0
theorem Ew {R q:Nat}{w:World}(h:w.cell? ⟨R,q,none⟩≠some (.int .u64 4294967297)):kK R q 5 w=1:=by
 show (match w.cell? ⟨R,q,none⟩ with
  | some (.int .u64 n)=>if n=4294967297 then 4 else 1
  | _=>1)=1
 split
 ·rename_i n e
  rw [if_neg]
  intro z
  rw [z] at e
  exact h e
 ·rfl
theorem zP {R q:Nat}{w:World}(h:w.cell? ⟨R,q,none⟩=some (.int .u64 4294967297)):kK R q 5 w=4:=by
 show (match w.cell? ⟨R,q,none⟩ with
  | some (.int .u64 n)=>if n=4294967297 then 4 else 1
  | _=>1)=4
 rw [h]
 rfl
theorem My {R q:Nat}(s:Nat)(w:World):kK R q (s+1) w≤s:=by
 match s with
 | 0 | 1 | 2 | 3 | 5 | 6=>exact Nat.le_refl _
 | 4 =>
  show (match w.cell? ⟨R,q,none⟩ with
   | some (.int .u64 n)=>if n=4294967297 then 4 else 1
   | _=>1)≤4
  split
  ·split <;> omega
  ·omega
 | s+7=>exact Nat.zero_le _
theorem MB (P:Program)(R q:Nat):zO P (ig P R q) (oN R q) (kK R q) R q :=
 ⟨fun _ h=>h,fun _ g' h=>⟨g',h⟩,fun _=>rfl,fun _ g' h=>⟨g',h⟩,fun _=>rfl,fun _ h=>h,fun _ h=>h,fun _ h=>Ew h,fun _ h=>zP h,fun _ h=>h,fun _ h=>h,fun _=>rfl,fun _ h=>h,fun _ h=>h,fun _=>rfl,fun _ k h=>⟨k,h⟩,fun _ h=>h,fun _=>rfl,fun _ g' h=>⟨g',h⟩,fun _=>rfl⟩
def rJ (R q:Nat)(g:Nat)(a:Touch):Prop :=
 ((a.loc=.cell ⟨R,q,none⟩∨a.loc=.cell ⟨R,q+1,none⟩)∧(a.kind=.atomic∨(g=0∧a.kind=.said)))∨(g=0∧a.loc≠.cell ⟨R,q,none⟩∧a.loc≠.cell ⟨R,q+1,none⟩)
theorem Ex (R q:Nat):Fair (rJ R q):=by
 refine ⟨fun said g1 a1 g2 a2 h1 h2 hc=>?_⟩
 obtain ⟨hl,_,_,hk⟩:=hc
 rcases h1 with ⟨l1,k1⟩ | ⟨e1,n1,n1'⟩ <;> rcases h2 with ⟨l2,k2⟩ | ⟨e2,n2,MC⟩
 ·rcases k1 with k1 | ⟨e1,k1⟩ <;> rcases k2 with k2 | ⟨e2,k2⟩
  ·rcases hk with z | z | ⟨_,z,_⟩ <;> simp_all
  ·rcases hk with z | z | ⟨_,z,_⟩ <;> simp_all
  ·rcases hk with z | z | ⟨_,_,z⟩ <;> simp_all
  ·rw [e1,e2]
 ·rw [hl] at l1;rcases l1 with z | z
  ·exact absurd z n2
  ·exact absurd z MC
 ·rw [← hl] at l2;rcases l2 with z | z
  ·exact absurd z n1
  ·exact absurd z n1'
 ·rw [e1,e2]
structure rM (n:Nat)(Inv:(Nat→Nat)→Prop)(wd sm:(Nat→Nat)→Nat):Prop where
 l7:∀ τ i,Inv τ→1≤i→i≤n→τ i=7→Inv (upd τ i 6)∧wd (upd τ i 6)=wd τ∧sm (upd τ i 6)=sm τ
 l6:∀ τ i,Inv τ→1≤i→i≤n→τ i=6→Inv (upd τ i 5)∧wd (upd τ i 5)=wd τ∧sm (upd τ i 5)=sm τ
 l5:∀ τ i,Inv τ→1≤i→i≤n→τ i=5→∃ p wt,p≤100∧wt≤1∧wd τ=(p+1) * 4294967296+wt∧Inv (upd τ i (if wd τ=4294967297 then 4 else 1))∧wd (upd τ i (if wd τ=4294967297 then 4 else 1))=p * 4294967296+wt∧sm (upd τ i (if wd τ=4294967297 then 4 else 1))=sm τ
 l4:∀ τ i,Inv τ→1≤i→i≤n→τ i=4→wd τ=1∧Inv (upd τ i 3)∧wd (upd τ i 3)=wd τ∧sm (upd τ i 3)=sm τ
 l3:∀ τ i,Inv τ→1≤i→i≤n→τ i=3→Inv (upd τ i 2)∧wd (upd τ i 2)=0∧sm (upd τ i 2)=sm τ
 l2:∀ τ i,Inv τ→1≤i→i≤n→τ i=2→sm τ≤100∧Inv (upd τ i 1)∧wd (upd τ i 1)=wd τ∧sm (upd τ i 1)=sm τ+1
 l1:∀ τ i,Inv τ→1≤i→i≤n→τ i=1→Inv (upd τ i 0)∧wd (upd τ i 0)=wd τ∧sm (upd τ i 0)=sm τ
def lay (c:Array Value)(q a b:Nat):Array Value:=(c.setIfInBounds q (.int .u64 a)).setIfInBounds (q+1) (.int .u32 b)
theorem xA (c:Array Value)(q a b a':Nat):(lay c q a b).setIfInBounds q (.int .u64 a')=lay c q a' b:=by
 unfold lay
 rw [Array.setIfInBounds_comm _ _ (by omega:q+1≠q),Array.setIfInBounds_setIfInBounds]
theorem Ey (c:Array Value)(q a b b':Nat):(lay c q a b).setIfInBounds (q+1) (.int .u32 b')=lay c q a b':=by
 unfold lay
 rw [Array.setIfInBounds_setIfInBounds]
theorem qx {c:Array Value}{q:Nat}(h:q+1 < c.size)(a b:Nat):(lay c q a b)[q]?=some (.int .u64 a):=by
 unfold lay
 rw [Array.getElem?_setIfInBounds_ne ag]
 exact Array.getElem?_setIfInBounds_self_of_lt ag
theorem xB {c:Array Value}{q:Nat}(h:q+1 < c.size)(a b:Nat):(lay c q a b)[q+1]?=some (.int .u32 b):=by
 unfold lay
 exact Array.getElem?_setIfInBounds_self_of_lt (by simpa using h)
theorem Ez {c:Array Value}{q k:Nat}(a b:Nat)(h1:k≠q)(h2:k≠q+1):(lay c q a b)[k]?=c[k]?:=by
 unfold lay
 rw [Array.getElem?_setIfInBounds_ne (fun e=>h2 e.symm),Array.getElem?_setIfInBounds_ne (fun e=>h1 e.symm)]
structure aJ where
 R:Nat
 q:Nat
 n:Nat
 c:Array Value
 e:TypeId
 shut:Nat→Prop
 d0:Nat
 Inv:(Nat→Nat)→Prop
 wd:(Nat→Nat)→Nat
 sm:(Nat→Nat)→Nat
 fx:Prop
 out:Os×Array (Nat×ByteArray)
def rO (a:Addr)(T:Trace):Prop:=∀ k,T.act? k≠some (.mark (.release a))
theorem rO.app {a:Addr}{T u:Trace}(h:rO a T)(hu:∀ op∈u,op.act≠.mark (.release a)):rO a (T ++ u):=by
 intro k hk
 unfold Trace.act? at hk
 cases z:(T ++ u)[k]? with
 | none=>rw [z] at hk;cases hk
 | some x =>
  rw [z] at hk
  rcases getElem?_append_cases z with ⟨_,q⟩ | ⟨_,hx⟩
  ·exact h k (by unfold Trace.act?;rw [q];exact hk)
  ·exact hu x hx (Option.some.inj hk)
def Over (n:Nat)(T:Trace):Prop:=∀ i k,1≤i→i≤n→T.g? k=some i→T.counts k→∃ j,T.g? j=some 0∧HappensBefore T k j
theorem Over.app {n:Nat}{T u:Trace}(h:Over n T)(hu:∀ k i,T.size≤k→1≤i→i≤n→(T ++ u).g? k=some i→¬ (T ++ u).counts k):Over n (T ++ u):=by
 intro i k h1 h2 hg hc
 by_cases q:k < T.size
 ·rw [g?_old q] at hg
  obtain ⟨j,j1,j2⟩:=h i k h1 h2 hg ((counts_old q).1 hc)
  exact ⟨j,by rw [g?_old (xz j1)];exact j1,hb_app u j2⟩
 ·exact absurd hc (hu k i ag h1 h2 hg)
def aJ.told (G:aJ)(τ:Nat→Nat)(T:Trace):Prop:=(G.Inv τ∧Deaf T 0=G.d0∧rO ⟨G.R,G.q,none⟩ T∧(G.fx→(∀ i,1≤i→i≤G.n→τ i < 7)∧Over G.n T))∧∀ i,1≤i→i≤G.n→τ i < 7→Deaf T i=oM (τ i)∧Said ⟨G.R,G.q,none⟩ T i
theorem zQ {T u:Trace}{k i:Nat}(hk:T.size≤k)(hg:(T ++ u).g? k=some i):∃ op∈u,op.g=i:=by
 unfold Trace.g? at hg
 cases z:(T ++ u)[k]? with
 | none=>rw [z] at hg;cases hg
 | some x =>
  rw [z] at hg
  rcases getElem?_append_cases z with ⟨q,_⟩ | ⟨_,hx⟩
  ·omega
  ·exact ⟨x,hx,Option.some.inj hg⟩
def aJ.env (G:aJ)(P:Program):Env where
 shut:=G.shut
 wk i:=1≤i∧i≤G.n
 jo i h:=by omega
 ok:=ig P G.R G.q
 Pre:=oN G.R G.q
 aI:=kK G.R G.q
 lv i s:=i=0∨s=7
 hr i s:=(i=0→G.d0=0)∧(i≠0→s=7)
 at_ τ b o:=b=G.R∧o=.cells (lay G.c G.q (G.wd τ) (G.sm τ)) G.e (0,0)
 may:=rJ G.R G.q
 told:=G.told
 out:=G.out
 lasts τ T u h hu hd hr:=by
  refine ⟨⟨h.1.1,(hd 0).trans h.1.2.1,h.1.2.2.1.app fun op hop=>hr op hop _,fun hf=>⟨(h.1.2.2.2 hf).1,(h.1.2.2.2 hf).2.app fun k i hk h1 h2 hg hc=>by
   obtain ⟨op,hop,e⟩:=zQ hk hg
   have:=(h.1.2.2.2 hf).1 i h1 h2
   rcases hu op hop with z | z
   ·omega
   ·rw [e] at z;omega⟩⟩,fun i h1 h2 h3=>?_⟩
  have hne:∀ op∈u,op.g≠i:=fun op hop e=>by
   rcases hu op hop with z | z
   ·omega
   ·rw [e] at z;omega
  obtain ⟨q1,q2⟩:=h.2 i h1 h2 h3
  exact ⟨(rH hne).trans q1,q2.other hne⟩
section
variable {P:Program}{G:aJ}
theorem jP {w:World}{R k:Nat}{c:Array Value}{e:TypeId}{v:Value}(hw:w.heap[R]?=some (.cells c e (0,0)))(hv:c[k]?=some v):w.cell? ⟨R,k,none⟩=some v:=by
 unfold World.cell?
 simp [hw,hv]
theorem qy {w:World}{R k:Nat}{c:Array Value}{e:TypeId}(hw:w.heap[R]?=some (.cells c e (0,0))):w.frozen? ⟨R,k,none⟩=false:=by
 unfold World.frozen?
 simp [hw]
theorem qz {w:World}{R k:Nat}{c:Array Value}{e:TypeId}{v:Value}(hw:w.heap[R]?=some (.cells c e (0,0))):(w.setCell ⟨R,k,none⟩ v).heap[R]?=some (.cells (c.setIfInBounds k v) e (0,0)):=by
 unfold World.setCell
 simp [Array.getElem?_modify,hw]
theorem wrap_add (p wt:Nat)(hp:p≤100)(hw:wt≤1):IntKind.u64.wrap (((p+1) * 4294967296+wt:Nat)+18446744069414584320)=((p * 4294967296+wt:Nat):Int):=by rw [IntKind.wrap_u64];omega
theorem wrap_one (x:Nat)(hx:x≤100):IntKind.u32.wrap ((x:Int)+1)=((x+1:Nat):Int):=by rw [IntKind.wrap_u32];omega
theorem ME {τ:Nat→Nat}{T:Trace}{i s:Nat}{fn:FuncId}{pos:String}{l:List Event}(h:G.told τ T)(h0:i≠0)(hs7:s < 7)(hl:∀ e∈l,∀ a,MemAct.ofEvent e≠.mark (.release a))(hf:G.fx→hid (Deaf T i) l)(hi:G.Inv (upd τ i s))(hd:s < 7→Deaf (T ++ MemOp.ofEvents i fn pos l.toArray) i=oM s)(hs:s < 7→Said ⟨G.R,G.q,none⟩ (T ++ MemOp.ofEvents i fn pos l.toArray) i) :
  G.told (upd τ i s) (T ++ MemOp.ofEvents i fn pos l.toArray):=by
 refine ⟨⟨hi,(rH fun op hop q=>by obtain ⟨_,_,rfl⟩:=Go.Conc.mem_ofEvents hop;exact h0 q).trans h.1.2.1,h.1.2.2.1.app fun op hop=>by obtain ⟨e,he,rfl⟩:=Go.Conc.mem_ofEvents hop;exact hl e (by simpa using he) _,fun hfx=>⟨fun j h1 h2=>?_,(h.1.2.2.2 hfx).2.app fun k j hk h1 h2 hg hc=>?_⟩⟩,fun j h1 h2 h3=>?_⟩
 ·by_cases e:j=i
  ·rw [e,dH];exact hs7
  ·rw [upd_ne τ s e];exact (h.1.2.2.2 hfx).1 j h1 h2
 ·exact xy i fn pos l T (hf hfx) k hk hc
 by_cases e:j=i
 ·subst e
  rw [dH] at h3 ⊢
  exact ⟨hd h3,hs h3⟩
 ·rw [upd_ne τ s e] at h3 ⊢
  have hne:∀ op∈MemOp.ofEvents i fn pos l.toArray,op.g≠j:=fun op hop q=>by obtain ⟨_,_,rfl⟩:=Go.Conc.mem_ofEvents hop;exact e q.symm
  obtain ⟨q1,q2⟩:=h.2 j h1 h2 h3
  exact ⟨(rH hne).trans q1,q2.other hne⟩
theorem MG {τ:Nat→Nat}{T:Trace}{C:Nat→Prop}{w:World}{own:Nat→Nat→Prop}(H:bu P C (G.env P) τ T w own){i s:Nat}(h0:i≠0)(hs:s≠7){fn:FuncId}{pos:String}{es:Array Event}:∀ j,(G.env P).hr j (upd τ i s j)→Deaf (T ++ MemOp.ofEvents i fn pos es) j=0:=by
 intro j hj
 by_cases e:j=i
 ·subst e
  rw [dH] at hj
  exact absurd (hj.2 h0) hs
 ·rw [upd_ne τ s e] at hj
  have hne:∀ op∈MemOp.ofEvents i fn pos es,op.g≠j:=fun op hop q=>by obtain ⟨_,_,rfl⟩:=Go.Conc.mem_ofEvents hop;exact e q.symm
  rw [rH hne]
  exact H.deaf j hj
theorem EA {τ:Nat→Nat}{T:Trace}{C:Nat→Prop}{w w':World}{own:Nat→Nat→Prop}(H:bu P C (G.env P) τ T w own)(hx:∀ b,b=G.R→¬ C b∧¬ G.shut b){i s:Nat}(h0:1≤i)(hs:s < 7){fn:FuncId}{pos:String}{l:List Event}(hi:G.Inv (upd τ i s))
  (hw:bf (·=G.R) w w')(hw':w'.heap[G.R]?=some (.cells (lay G.c G.q (G.wd (upd τ i s)) (G.sm (upd τ i s))) G.e (0,0)))
  (hl:∀ e∈l,(∃ m,e=⟨.mark m,false,true⟩∧(m=.disable∨m=.enable∨m=.releaseMerge ⟨G.R,G.q,none⟩))∨(∃ wr,e=⟨.cell ⟨G.R,G.q,none⟩,wr,true⟩)∨∃ wr,e=⟨.cell ⟨G.R,G.q+1,none⟩,wr,true⟩)
  (hd:Deaf (T ++ MemOp.ofEvents i fn pos l.toArray) i=oM s)(hsd:Said ⟨G.R,G.q,none⟩ (T ++ MemOp.ofEvents i fn pos l.toArray) i)(hf:G.fx→hid (Deaf T i) l) :
  bu P C (G.env P) (upd τ i s) (T ++ MemOp.ofEvents i fn pos l.toArray) w' own∧∀ j,ay P (own j) w w':=by
 have hR:w.heap[G.R]?=some (.cells (lay G.c G.q (G.wd τ) (G.sm τ)) G.e (0,0)):=(H.gy G.R _ ⟨rfl,rfl⟩).1
 have hlt:G.R < w.heap.size:=(Array.getElem?_eq_some_iff.1 hR).1
 refine ⟨H.touch (B:=(·=G.R)) (fun b hb=>⟨_,hb,rfl⟩) hw (fun b o hb=>hx b hb.1) rfl (fun e he=>?_) (fun e he a ha _=>?_) (Ex _ _) (fun _ _ h=>h) (fun b o hb=>?_) (MG H ag ag) (ME H.told ag hs (fun e he a=>by rcases hl e he with ⟨m,rfl,rfl | rfl | rfl⟩ | ⟨wr,rfl⟩ | ⟨wr,rfl⟩ <;> (intro z;cases z)) hf hi (fun _=>hd) fun _=>hsd),fun j=>hw.rely fun b hb e=>?_⟩
 ·rcases hl e (by simpa using he) with ⟨m,rfl,rfl | rfl | rfl⟩ | ⟨wr,rfl⟩ | ⟨wr,rfl⟩
  ·trivial
  ·trivial
  ·exact hlt
  ·exact hlt
  ·exact hlt
 ·rcases hl e (by simpa using he) with ⟨m,rfl,rfl | rfl | rfl⟩ | ⟨wr,rfl⟩ | ⟨wr,rfl⟩
  ·cases ha
  ·cases ha
  ·cases ha
  ·cases ha;exact ⟨G.R,_,⟨rfl,rfl⟩,rfl,.inl ⟨.inl rfl,.inl rfl⟩⟩
  ·cases ha;exact ⟨G.R,_,⟨rfl,rfl⟩,rfl,.inl ⟨.inr rfl,.inl rfl⟩⟩
 ·obtain ⟨rfl,rfl⟩:=hb
  exact ⟨hw',_,rfl,rfl⟩
 ·subst e
  exact (H.gy G.R _ ⟨rfl,rfl⟩).2.1 j hb
theorem rP {τ:Nat→Nat}{T:Trace}{C:Nat→Prop}{w w':World}{own:Nat→Nat→Prop}(H:bu P C (G.env P) τ T w own)(hx:∀ b,b=G.R→¬ C b∧¬ G.shut b){i s:Nat}(h0:1≤i)(hs:s < 7){fn:FuncId}{pos:String}{l:List Event}(hi:G.Inv (upd τ i s))
  (hw:bf (·=G.R) w w')(hw':w'.heap[G.R]?=some (.cells (lay G.c G.q (G.wd (upd τ i s)) (G.sm (upd τ i s))) G.e (0,0)))
  (hl:∀ e∈l,(∃ m,e=⟨.mark m,false,true⟩∧(m=.disable∨m=.enable∨m=.releaseMerge ⟨G.R,G.q,none⟩))∨(∃ wr,e=⟨.cell ⟨G.R,G.q,none⟩,wr,true⟩)∨∃ wr,e=⟨.cell ⟨G.R,G.q+1,none⟩,wr,true⟩)
  (hd:Deaf (T ++ MemOp.ofEvents i fn pos l.toArray) i=oM s)(hsd:Said ⟨G.R,G.q,none⟩ T i)(hh:hid (Deaf T i) l) :
  bu P C (G.env P) (upd τ i s) (T ++ MemOp.ofEvents i fn pos l.toArray) w' own∧∀ j,ay P (own j) w w' :=
 EA H hx h0 hs hi hw hw' hl hd (hsd.own hh) fun _=>hh
theorem MH (M:rM G.n G.Inv G.wd G.sm)(hq:G.q+1 < G.c.size)(hsh:¬ G.shut G.R)(hC:∀ C τ T w own,bu P C (G.env P) τ T w own→¬ C G.R):dB P (G.env P):=by
 refine ⟨fun C τ T w own H=>?_,fun C τ i s T w own g hi H hτ hok=>?_,fun s w=>My s w⟩
 ·exact ⟨_,jP (H.gy G.R _ ⟨rfl,rfl⟩).1 (qx hq _ _)⟩
 have hR:w.heap[G.R]?=some (.cells (lay G.c G.q (G.wd τ) (G.sm τ)) G.e (0,0)):=(H.gy G.R _ ⟨rfl,rfl⟩).1
 have hcq:=jP hR (qx hq (G.wd τ) (G.sm τ))
 have EB:=jP hR (xB hq (G.wd τ) (G.sm τ))
 have hz:=qy (k:=G.q) hR
 have hz1:=qy (k:=G.q+1) hR
 have hx:∀ b,b=G.R→¬ C b∧¬ G.shut b:=fun b hb=>by subst hb;exact ⟨hC C τ T w own H,hsh⟩
 have hinv:G.Inv τ:=H.told.1.1
 have h7:s+1≤7:=by
  rcases Nat.lt_or_ge 7 (s+1) with z | z
  ·exfalso
   have:∃ k,s+1=k+8:=⟨s - 7,ag⟩
   obtain ⟨k,hk⟩:=this
   have hok':ig P G.R G.q (s+1) g:=hok
   rw [hk] at hok'
   exact hok'
  ·exact z
 have told:s+1 < 7→Deaf T i=oM (s+1)∧Said ⟨G.R,G.q,none⟩ T i:=fun h=>by
  have:=H.told.2 i hi.1 hi.2 (by rw [hτ];omega)
  rw [hτ] at this
  exact this
 have MJ:s=6∨s=5∨s=4∨s=3∨s=2∨s=1∨s=0:=by omega
 rcases MJ with rfl | rfl | rfl | rfl | rfl | rfl | rfl
 ·
  obtain ⟨g',hst⟩:=(hok:ig P G.R G.q 7 g)
  obtain ⟨m1,m2,m3⟩:=M.l7 τ i hinv hi.1 hi.2 hτ
  have hd0:Deaf T i=0:=H.deaf i ⟨fun e=>absurd hi.1 ag,fun _=>hτ⟩
  refine ⟨trivial,g',w,_,hst w,?_⟩
  refine EA (s:=6) (l:=[⟨.mark (.releaseMerge ⟨G.R,G.q,none⟩),false,true⟩]) H hx hi.1 ag m1 (bf.refl _ w) (by rw [m2,m3];exact hR) ah ?_ (Said.begin hd0) fun hf=>absurd ((H.told.1.2.2.2 hf).1 i hi.1 hi.2) ag
  rw [Deaf_own,hd0];rfl
 ·obtain ⟨g',hst⟩:=(hok:ig P G.R G.q 6 g)
  obtain ⟨m1,m2,m3⟩:=M.l6 τ i hinv hi.1 hi.2 hτ
  obtain ⟨d1,d2⟩:=told ag
  refine ⟨trivial,g',w,_,hst w,?_⟩
  refine rP (s:=5) (l:=[⟨.mark .disable,false,true⟩]) H hx hi.1 ag m1 (bf.refl _ w) (by rw [m2,m3];exact hR) ah ?_ d2 ⟨fun x hx=>absurd hx (by simp [MemAct.ofEvent,MemAct.touch?]),trivial⟩
  rw [Deaf_own,d1];rfl
 ·
  obtain ⟨p,wt,hp,hwt,e1,m1,m2,m3⟩:=M.l5 τ i hinv hi.1 hi.2 hτ
  obtain ⟨d1,d2⟩:=told ag
  have EC:w.cell? ⟨G.R,G.q,none⟩=some (.int .u64 ((p+1) * 4294967296+wt:Nat)):=by rw [hcq,e1]
  obtain ⟨g',hst⟩:=(hok:ig P G.R G.q 5 g) w _ EC hz
  rw [wrap_add p wt hp hwt] at hst
  have hn:(G.env P).aI 5 w=if G.wd τ=4294967297 then 4 else 1:=by
   by_cases q:G.wd τ=4294967297
   ·rw [if_pos q]
    exact zP (by rw [hcq,q];rfl)
   ·rw [if_neg q]
    refine Ew fun z=>q ?_
    rw [hcq] at z
    simp only [Option.some.injEq,Value.int.injEq,true_and] at z
    omega
  refine ⟨⟨p,wt,hp,hwt,EC,hz⟩,g',_,_,hst,?_⟩
  rw [show (4+1:Nat)=5 from rfl,hn]
  refine rP (s:=if G.wd τ=4294967297 then 4 else 1) (l:=[⟨.cell ⟨G.R,G.q,none⟩,false,true⟩,⟨.cell ⟨G.R,G.q,none⟩,true,true⟩]) H hx hi.1 (by split <;> omega) m1 (bf.setCell w ⟨G.R,G.q,none⟩ _) (by rw [qz hR,xA,m2,m3]) ah ?_ d2 ?_
  ·rw [Deaf_own,d1]
   split <;> rfl
  ·rw [d1]
   exact ⟨fun x hx _=>by cases hx;exact ⟨rfl,Nat.zero_lt_one⟩,fun x hx _=>by cases hx;exact ⟨rfl,Nat.zero_lt_one⟩,trivial⟩
 ·obtain ⟨e1,m1,m2,m3⟩:=M.l4 τ i hinv hi.1 hi.2 hτ
  obtain ⟨d1,d2⟩:=told ag
  have hc4:w.cell? ⟨G.R,G.q,none⟩=some (.int .u64 1):=by rw [hcq,e1];rfl
  obtain ⟨g',hst⟩:=(hok:ig P G.R G.q 4 g) w hc4
  refine ⟨hc4,g',w,_,hst,?_⟩
  refine rP (s:=3) (l:=[⟨.cell ⟨G.R,G.q,none⟩,false,true⟩]) H hx hi.1 ag m1 (bf.refl _ w) (by rw [m2,m3];exact hR) ah ?_ d2 ?_
  ·rw [Deaf_own,d1];rfl
  ·rw [d1]
   exact ⟨fun x hx _=>by cases hx;exact ⟨rfl,Nat.zero_lt_one⟩,trivial⟩
 ·obtain ⟨m1,m2,m3⟩:=M.l3 τ i hinv hi.1 hi.2 hτ
  obtain ⟨d1,d2⟩:=told ag
  obtain ⟨g',hst⟩:=(hok:ig P G.R G.q 3 g) w _ hcq hz
  refine ⟨⟨_,hcq,hz⟩,g',_,_,hst,?_⟩
  refine rP (s:=2) (l:=[⟨.cell ⟨G.R,G.q,none⟩,true,true⟩]) H hx hi.1 ag m1 (bf.setCell w ⟨G.R,G.q,none⟩ _) (by rw [qz hR,m2,m3];exact congrArg _ (congrArg (fun x=>Obj.cells x G.e (0,0)) (xA G.c G.q (G.wd τ) (G.sm τ) 0))) ah ?_ d2 ?_
  ·rw [Deaf_own,d1];rfl
  ·rw [d1]
   exact ⟨fun x hx _=>by cases hx;exact ⟨rfl,Nat.zero_lt_one⟩,trivial⟩
 ·obtain ⟨hs2,m1,m2,m3⟩:=M.l2 τ i hinv hi.1 hi.2 hτ
  obtain ⟨d1,d2⟩:=told ag
  obtain ⟨g',hst⟩:=(hok:ig P G.R G.q 2 g).2 w _ EB hz1
  rw [wrap_one _ hs2] at hst
  refine ⟨⟨_,EB,hz1⟩,g',_,_,hst,?_⟩
  refine rP (s:=1) (l:=[⟨.mark .disable,false,true⟩,⟨.cell ⟨G.R,G.q+1,none⟩,false,true⟩,⟨.cell ⟨G.R,G.q+1,none⟩,true,true⟩,⟨.mark .enable,false,true⟩]) H hx hi.1 ag m1 (bf.setCell w ⟨G.R,G.q+1,none⟩ _) (by rw [qz hR,Ey,m2,m3]) ah ?_ d2 ?_
  ·rw [Deaf_own,d1];rfl
  ·rw [d1]
   refine ⟨fun x hx=>absurd hx (by simp [MemAct.ofEvent,MemAct.touch?]),fun x hx _=>?_,fun x hx _=>?_,fun x hx=>absurd hx (by simp [MemAct.ofEvent,MemAct.touch?]),trivial⟩
   ·cases hx;exact ⟨rfl,Nat.zero_lt_two⟩
   ·cases hx;exact ⟨rfl,Nat.zero_lt_two⟩
 ·obtain ⟨g',hst⟩:=(hok:ig P G.R G.q 1 g)
  obtain ⟨m1,m2,m3⟩:=M.l1 τ i hinv hi.1 hi.2 hτ
  obtain ⟨d1,d2⟩:=told ag
  refine ⟨trivial,g',w,_,hst w,?_⟩
  refine rP (s:=0) (l:=[⟨.mark .enable,false,true⟩]) H hx hi.1 ag m1 (bf.refl _ w) (by rw [m2,m3];exact hR) ah ?_ d2 ⟨fun x hx=>absurd hx (by simp [MemAct.ofEvent,MemAct.touch?]),trivial⟩
  rw [Deaf_own,d1];rfl
end
section
variable {P:Program}
structure aJ.Same (G G':aJ):Prop where
 R:G'.R=G.R
 q:G'.q=G.q
 e:G'.e=G.e
 shut:G'.shut=G.shut
 out:G'.out=G.out
theorem EH {G G':aJ}(S:G.Same G'){C:Nat→Prop}{τ:Nat→Nat}{T:Trace}{w w':World}{own:Nat→Nat→Prop}(H:bu P C (G.env P) τ T w own)(hC:¬ C G.R)(hsh:¬ G.shut G.R){fn:FuncId}{pos:String}{es:Array Event}
  (hw:bf (·=G.R) w w')(hw':w'.heap[G.R]?=some (.cells (lay G'.c G.q (G'.wd τ) (G'.sm τ)) G.e (0,0)))
  (hlow:∀ e∈es,(MemAct.ofEvent e).low w.heap.size)(hes:∀ e∈es,∀ a,(MemAct.ofEvent e).touch?=some a→a.loc.isMemory=true→dI G.R a.loc∧rJ G.R G.q 0 a)
  (hnr:∀ e∈es,∀ a,MemAct.ofEvent e≠.mark (.release a))(hi:G'.Inv τ)(hd:Deaf (T ++ MemOp.ofEvents 0 fn pos es) 0=G'.d0)(hfx:G'.fx→(∀ i,1≤i→i≤G'.n→τ i < 7)∧Over G'.n (T ++ MemOp.ofEvents 0 fn pos es))(hn:∀ i,1≤i→i≤G'.n→τ i < 7→i≤G.n) :
  bu P C (G'.env P) τ (T ++ MemOp.ofEvents 0 fn pos es) w' own∧∀ j,ay P (own j) w w':=by
 obtain ⟨R',q',n',c',e',sh',d',I',wd',sm',MQ,o'⟩:=G'
 obtain ⟨s1,s2,s3,s4,s5⟩:=S
 simp only at s1 s2 s3 s4 s5
 subst s1 s2 s3 s4 s5
 have hoth:∀ op∈MemOp.ofEvents 0 fn pos es,∀ i,1≤i→op.g≠i:=fun op hop i hi q=>by
  obtain ⟨_,_,rfl⟩:=Go.Conc.mem_ofEvents hop
  rw [← q] at hi
  exact absurd hi (Nat.not_succ_le_zero 0)
 refine ⟨H.touch (E':=(aJ.mk G.R G.q n' c' G.e G.shut d' I' wd' sm' MQ G.out).env P) (τ':=τ) (B:=(·=G.R)) (fun b hb=>⟨_,hb,rfl⟩) hw (fun b o hb=>by rw [hb.1];exact ⟨hC,hsh⟩) rfl hlow (fun e he a ha hm=>⟨G.R,_,⟨rfl,rfl⟩,hes e he a ha hm⟩) (Ex _ _) (fun _ _ h=>h) (fun b o hb=>?_) (fun j hj=>?_) ⟨⟨hi,hd,H.told.1.2.2.1.app fun op hop=>by obtain ⟨e,he,rfl⟩:=Go.Conc.mem_ofEvents hop;exact hnr e he _,hfx⟩,fun i h1 h2 h3=>?_⟩,fun j=>hw.rely fun b hb e=>?_⟩
 ·obtain ⟨rfl,rfl⟩:=hb
  exact ⟨hw',_,rfl,rfl⟩
 ·by_cases e:j=0
  ·subst e
   exact hd.trans (hj.1 rfl)
  ·rw [rH fun op hop=>hoth op hop j ag]
   exact H.deaf j ⟨fun q=>absurd q e,hj.2⟩
 ·obtain ⟨q1,q2⟩:=H.told.2 i h1 (hn i h1 h2 h3) h3
  exact ⟨(rH fun op hop=>hoth op hop i h1).trans q1,q2.other fun op hop=>hoth op hop i h1⟩
 ·subst e
  exact (H.gy G.R _ ⟨rfl,rfl⟩).2.1 j hb
end
def cnt (τ:Nat→Nat):Nat→Nat
 | 0=>0
 | n+1=>cnt τ n+if 5≤τ (n+1) then 1 else 0
theorem xD (τ:Nat→Nat):∀ n,cnt τ n≤n
 | 0=>Nat.le_refl 0
 | n+1=>by
  have:=xD τ n
  unfold cnt
  split <;> omega
theorem EI (τ:Nat→Nat)(i s:Nat):∀ n,n < i→cnt (upd τ i s) n=cnt τ n
 | 0,_=>rfl
 | n+1,h=>by
  unfold cnt
  rw [EI τ i s n ag,upd_ne τ s ag]
theorem oP (τ:Nat→Nat)(i s:Nat)(h1:1≤i):∀ n,i≤n→cnt (upd τ i s) n+(if 5≤τ i then 1 else 0)=cnt τ n+if 5≤s then 1 else 0
 | 0,h=>by omega
 | n+1,h=>by
  unfold cnt
  by_cases e:i=n+1
  ·subst e
   rw [EI τ _ s n ag,dH]
   omega
  ·have:=oP τ i s h1 n ag
   rw [upd_ne τ s (fun q=>e q.symm)]
   omega
theorem qB (τ:Nat→Nat){i:Nat}(h1:1≤i)(h5:5≤τ i):∀ n,i≤n→1≤cnt τ n
 | 0,h=>by omega
 | n+1,h=>by
  unfold cnt
  by_cases e:i=n+1
  ·subst e
   rw [if_pos h5]
   omega
  ·have:=qB τ h1 h5 n ag
   omega
theorem EJ (τ:Nat→Nat):∀ n,cnt τ n=0→∀ i,1≤i→i≤n→τ i < 5:=by
 intro n h i h1 h2
 rcases Nat.lt_or_ge (τ i) 5 with z | z
 ·exact z
 ·have:=qB τ h1 z n h2
  omega
theorem rT (τ:Nat→Nat):∀ n,(∀ i,1≤i→i≤n→τ i < 5)→cnt τ n=0
 | 0,_=>rfl
 | n+1,h=>by
  unfold cnt
  rw [rT τ n fun i h1 h2=>h i h1 ag,if_neg (by have:=h (n+1) ag (Nat.le_refl _);omega)]
def oQ (n:Nat)(τ:Nat→Nat):Prop:=n≤100∧∀ i,1≤i→i≤n→τ i≤1∨5≤τ i
def iV (n:Nat)(τ:Nat→Nat):Nat:=cnt τ n * 4294967296
theorem xE (n:Nat):rM n (oQ n) (iV n) fun _=>0:=by
 have inv:∀ τ i s,oQ n τ→(s≤1∨5≤s)→oQ n (upd τ i s):=fun τ i s h hs=>⟨h.1,fun j h1 h2=>by
  by_cases e:j=i
  ·subst e;rw [dH];exact hs
  ·rw [upd_ne τ s e];exact h.2 j h1 h2⟩
 have no:∀ τ i s,oQ n τ→1≤i→i≤n→τ i=s→¬ (s≤1∨5≤s)→False:=fun τ i s h h1 h2 e hs=>by
  have:=h.2 i h1 h2
  rw [e] at this
  exact hs this
 have same:∀ τ i s,1≤i→i≤n→(5≤τ i↔5≤s)→iV n (upd τ i s)=iV n τ:=fun τ i s h1 h2 hs=>by
  unfold iV
  have:=oP τ i s h1 n h2
  by_cases e:5≤s
  ·rw [if_pos (hs.2 e),if_pos e] at this
   rw [show cnt (upd τ i s) n=cnt τ n by omega]
  ·rw [if_neg fun z=>e (hs.1 z),if_neg e] at this
   rw [show cnt (upd τ i s) n=cnt τ n by omega]
 refine ⟨fun τ i h h1 h2 e=>⟨inv τ i 6 h ag,same τ i 6 h1 h2 ag,rfl⟩,fun τ i h h1 h2 e=>⟨inv τ i 5 h ag,same τ i 5 h1 h2 ag,rfl⟩,fun τ i h h1 h2 e=>?_,fun τ i h h1 h2 e=>(no τ i 4 h h1 h2 e ag).elim,fun τ i h h1 h2 e=>(no τ i 3 h h1 h2 e ag).elim,fun τ i h h1 h2 e=>(no τ i 2 h h1 h2 e ag).elim,fun τ i h h1 h2 e=>⟨inv τ i 0 h ag,same τ i 0 h1 h2 ag,rfl⟩⟩
 have hc:=qB τ h1 (by omega:5≤τ i) n h2
 have hl:=xD τ n
 have hu:=oP τ i 1 h1 n h2
 rw [if_pos (by omega:5≤τ i),if_neg ag] at hu
 have hne:¬ iV n τ=4294967297:=by unfold iV;omega
 rw [if_neg hne]
 have:=h.1
 exact ⟨cnt τ n - 1,0,ag,by omega,by unfold iV;rw [show cnt τ n - 1+1=cnt τ n by omega];omega,inv τ i 1 h ag,by unfold iV;rw [show cnt (upd τ i 1) n=cnt τ n - 1 by omega];omega,rfl⟩
def rU (n:Nat)(τ:Nat→Nat):Prop:=∃ i,1≤i∧i≤n∧(τ i=3∨τ i=4)
def Inv1 (n:Nat)(τ:Nat→Nat):Prop:=n≤100∧(0 < cnt τ n→∀ i,1≤i→i≤n→τ i≤1∨5≤τ i)∧∀ i j,1≤i→i≤n→1≤j→j≤n→2≤τ i→τ i≤4→2≤τ j→τ j≤4→i=j
open Classical in
noncomputable def gK (n:Nat) (τ:Nat→Nat):Nat:=if rU n τ then 1 else if cnt τ n=0 then 0 else cnt τ n * 4294967296+1
def iW (n:Nat)(τ:Nat→Nat):Prop:=∀ i,1≤i→i≤n→τ i≤1
open Classical in
noncomputable def fO (n:Nat) (τ:Nat→Nat):Nat:=if iW n τ then 1 else 0
theorem MS (n:Nat):rM n (Inv1 n) (gK n) (fO n):=by
 have live:∀ τ,Inv1 n τ→0 < cnt τ n→gK n τ=cnt τ n * 4294967296+1∧fO n τ=0:=fun τ h hc=>by
  have rV:¬ rU n τ:=fun ⟨i,h1,h2,h3⟩=>by have:=h.2.1 hc i h1 h2;omega
  have hth:¬ iW n τ:=fun z=>by
   have:=rT τ n fun i h1 h2=>by have:=z i h1 h2;omega
   omega
  exact ⟨by unfold gK;rw [if_neg rV,if_neg ag],by unfold fO;rw [if_neg hth]⟩
 have EK:∀ τ i s,Inv1 n τ→1≤i→i≤n→5≤τ i→5≤s→Inv1 n (upd τ i s)∧gK n (upd τ i s)=gK n τ∧fO n (upd τ i s)=fO n τ:=fun τ i s h h1 h2 h5 hs=>by
  have hc:=qB τ h1 h5 n h2
  have hu:=oP τ i s h1 n h2
  rw [if_pos h5,if_pos hs] at hu
  have hi:Inv1 n (upd τ i s):=⟨h.1,fun _ j k1 k2=>by
   by_cases e:j=i
   ·subst e;rw [dH];exact .inr hs
   ·rw [upd_ne τ s e];exact h.2.1 hc j k1 k2,fun a b a1 a2 b1 b2 a3 a4 b3 b4=>by
   have ha:a≠i:=fun e=>by rw [e,dH] at a4;omega
   have hb:b≠i:=fun e=>by rw [e,dH] at b4;omega
   rw [upd_ne τ s ha] at a3 a4
   rw [upd_ne τ s hb] at b3 b4
   exact h.2.2 a b a1 a2 b1 b2 a3 a4 b3 b4⟩
  obtain ⟨l1,l2⟩:=live τ h hc
  obtain ⟨m1,m2⟩:=live _ hi ag
  exact ⟨hi,by rw [l1,m1,show cnt (upd τ i s) n=cnt τ n by omega],by rw [l2,m2]⟩
 have low:∀ τ i,Inv1 n τ→1≤i→i≤n→2≤τ i→τ i≤4→cnt τ n=0∧∀ j,1≤j→j≤n→j≠i→τ j≤1:=fun τ i h h1 h2 h3 h4=>by
  have hc:cnt τ n=0:=by
   rcases Nat.eq_zero_or_pos (cnt τ n) with z | z
   ·exact z
   ·have:=h.2.1 z i h1 h2
    omega
  refine ⟨hc,fun j k1 k2 e=>?_⟩
  have:=EJ τ n hc j k1 k2
  rcases Nat.lt_or_ge 1 (τ j) with z | z
  ·exact absurd (h.2.2 j i k1 k2 h1 h2 ag ag h3 h4) e
  ·exact z
 have xF:∀ τ i s,1≤i→i≤n→n≤100→(∀ j,1≤j→j≤n→j≠i→τ j≤1)→s≤4→Inv1 n (upd τ i s)∧cnt (upd τ i s) n=0:=fun τ i s h1 h2 h3 h4 h5=>by
  have hc:cnt (upd τ i s) n=0:=rT _ n fun j k1 k2=>by
   by_cases e:j=i
   ·rw [e,dH];omega
   ·rw [upd_ne τ s e];have:=h4 j k1 k2 e;omega
  refine ⟨⟨h3,fun z=>absurd z ag,fun a b a1 a2 b1 b2 a3 _ b3 _=>?_⟩,hc⟩
  have ha:a=i:=by
   by_cases e:a=i
   ·exact e
   ·rw [upd_ne τ s e] at a3;have:=h4 a a1 a2 e;omega
  have hb:b=i:=by
   by_cases e:b=i
   ·exact e
   ·rw [upd_ne τ s e] at b3;have:=h4 b b1 b2 e;omega
  rw [ha,hb]
 have zU:∀ τ i,1≤i→i≤n→(τ i=3∨τ i=4)→gK n τ=1:=fun τ i h1 h2 h3=>by unfold gK;rw [if_pos ⟨i,h1,h2,h3⟩]
 have zV:∀ τ i,(∀ j,1≤j→j≤n→j≠i→τ j≤1)→cnt τ n=0→τ i≤2→gK n τ=0:=fun τ i h1 h2 h3=>by
  unfold gK
  rw [if_neg,if_pos h2]
  rintro ⟨j,j1,j2,j3⟩
  by_cases e:j=i
  ·rw [e] at j3;omega
  ·have:=h1 j j1 j2 e;omega
 have rW:∀ τ i,1≤i→i≤n→2≤τ i→fO n τ=0:=fun τ i h1 h2 h3=>by
  unfold fO
  rw [if_neg fun z=>by have:=z i h1 h2;omega]
 have keep:∀ τ i s j,j≠i→upd τ i s j=τ j:=fun τ i s j e=>upd_ne τ s e
 refine ⟨fun τ i h h1 h2 e=>EK τ i 6 h h1 h2 ag ag,fun τ i h h1 h2 e=>EK τ i 5 h h1 h2 ag ag,fun τ i h h1 h2 e=>?_,fun τ i h h1 h2 e=>?_,fun τ i h h1 h2 e=>?_,fun τ i h h1 h2 e=>?_,fun τ i h h1 h2 e=>?_⟩
 ·
  have h5:5≤τ i:=by omega
  have hc:=qB τ h1 h5 n h2
  have hl:=xD τ n
  have hn:=h.1
  obtain ⟨l1,l2⟩:=live τ h hc
  refine ⟨cnt τ n - 1,1,ag,by omega,by rw [l1,show cnt τ n - 1+1=cnt τ n by omega],?_⟩
  by_cases e1:cnt τ n=1
  ·rw [if_pos (by rw [l1,e1])]
   have hoth:∀ j,1≤j→j≤n→j≠i→τ j≤1:=fun j k1 k2 hj=>by
    rcases h.2.1 hc j k1 k2 with z | z
    ·exact z
    ·have hu:=oP τ i 0 h1 n h2
     rw [if_pos h5,if_neg ag] at hu
     have:=qB (upd τ i 0) k1 (by rw [upd_ne τ 0 hj];exact z) n k2
     omega
   obtain ⟨q1,q2⟩:=xF τ i 4 h1 h2 hn hoth ag
   exact ⟨q1,by rw [zU _ i h1 h2 (.inr (dH τ i 4)),e1],by rw [rW _ i h1 h2 (by rw [dH];omega),l2]⟩
  ·rw [if_neg (by rw [l1];omega)]
   have hu:=oP τ i 1 h1 n h2
   rw [if_pos h5,if_neg ag] at hu
   have hi:Inv1 n (upd τ i 1):=⟨hn,fun _ j k1 k2=>by
    by_cases e:j=i
    ·subst e;rw [dH];exact .inl (Nat.le_refl 1)
    ·rw [upd_ne τ 1 e];exact h.2.1 hc j k1 k2,fun a b a1 a2 b1 b2 a3 a4 b3 b4=>by
    have ha:a≠i:=fun e=>by rw [e,dH] at a3;omega
    have hb:b≠i:=fun e=>by rw [e,dH] at b3;omega
    rw [upd_ne τ 1 ha] at a3 a4
    rw [upd_ne τ 1 hb] at b3 b4
    exact h.2.2 a b a1 a2 b1 b2 a3 a4 b3 b4⟩
   obtain ⟨m1,m2⟩:=live _ hi ag
   exact ⟨hi,by rw [m1,show cnt (upd τ i 1) n=cnt τ n - 1 by omega],by rw [m2,l2]⟩
 ·obtain ⟨_,q2⟩:=low τ i h h1 h2 ag ag
  have hi:=(xF τ i 3 h1 h2 h.1 q2 ag).1
  have w1:=zU τ i h1 h2 (.inr e)
  exact ⟨w1,hi,by rw [w1,zU _ i h1 h2 (.inl (dH τ i 3))],by rw [rW τ i h1 h2 ag,rW _ i h1 h2 (by rw [dH];omega)]⟩
 ·obtain ⟨_,q2⟩:=low τ i h h1 h2 ag ag
  obtain ⟨hi,hc⟩:=xF τ i 2 h1 h2 h.1 q2 ag
  exact ⟨hi,zV _ i (fun j k1 k2 k3=>by rw [keep τ i 2 j k3];exact q2 j k1 k2 k3) hc (by rw [dH];omega),by rw [rW τ i h1 h2 ag,rW _ i h1 h2 (by rw [dH];omega)]⟩
 ·obtain ⟨q1,q2⟩:=low τ i h h1 h2 ag ag
  obtain ⟨hi,hc⟩:=xF τ i 1 h1 h2 h.1 q2 ag
  have s0:=rW τ i h1 h2 ag
  have ht:iW n (upd τ i 1):=fun j k1 k2=>by
   by_cases e:j=i
   ·rw [e,dH];omega
   ·rw [upd_ne τ 1 e];exact q2 j k1 k2 e
  have s1:fO n (upd τ i 1)=1:=by
   unfold fO
   rw [if_pos ht]
  exact ⟨ag,hi,by rw [zV _ i (fun j k1 k2 k3=>by rw [keep τ i 1 j k3];exact q2 j k1 k2 k3) hc (by rw [dH];omega),zV τ i q2 q1 ag],by rw [s1,s0]⟩
 ·
  have hcs:cnt (upd τ i 0) n=cnt τ n:=by
   have hu:=oP τ i 0 h1 n h2
   rw [if_neg ag,if_neg ag] at hu
   omega
  have hv:∀ j,j≠i→upd τ i 0 j=τ j:=fun j e=>upd_ne τ 0 e
  have hle:∀ j k,2≤k→(upd τ i 0 j=k↔τ j=k):=fun j k hk=>by
   by_cases e':j=i
   ·rw [e',dH];omega
   ·rw [hv j e']
  have rV:rU n (upd τ i 0)↔rU n τ:=⟨fun ⟨j,j1,j2,j3⟩=>⟨j,j1,j2,j3.imp (hle j 3 ag).1 (hle j 4 ag).1⟩,fun ⟨j,j1,j2,j3⟩=>⟨j,j1,j2,j3.imp (hle j 3 ag).2 (hle j 4 ag).2⟩⟩
  have hth:iW n (upd τ i 0)↔iW n τ:=by
   constructor
   ·intro z j k1 k2
    by_cases e':j=i
    ·rw [e'];omega
    ·have:=z j k1 k2
     rw [hv j e'] at this
     exact this
   ·intro z j k1 k2
    by_cases e':j=i
    ·rw [e',dH];omega
    ·rw [hv j e'];exact z j k1 k2
  refine ⟨⟨h.1,fun z j k1 k2=>?_,fun a b a1 a2 b1 b2 a3 a4 b3 b4=>?_⟩,?_,?_⟩
  ·by_cases e':j=i
   ·rw [e',dH];exact .inl (Nat.zero_le 1)
   ·rw [hv j e'];exact h.2.1 ag j k1 k2
  ·have ha:a≠i:=fun e=>by rw [e,dH] at a3;omega
   have hb:b≠i:=fun e=>by rw [e,dH] at b3;omega
   rw [hv a ha] at a3 a4
   rw [hv b hb] at b3 b4
   exact h.2.2 a b a1 a2 b1 b2 a3 a4 b3 b4
  ·unfold gK
   rw [hcs]
   by_cases q:rU n τ
   ·rw [if_pos q,if_pos (rV.2 q)]
   ·rw [if_neg q,if_neg fun z=>q (rV.1 z)]
  ·unfold fO
   by_cases q:iW n τ
   ·rw [if_pos q,if_pos (hth.2 q)]
   ·rw [if_neg q,if_neg fun z=>q (hth.1 z)]
theorem zW (n:Nat):rM n (iW n) (fun _=>0) fun _=>0:=by
 have no:∀ τ i s,iW n τ→1≤i→i≤n→τ i=s→1 < s→False:=fun τ i s h h1 h2 e hs=>by have:=h i h1 h2;omega
 exact ⟨fun τ i h h1 h2 e=>(no τ i 7 h h1 h2 e ag).elim,fun τ i h h1 h2 e=>(no τ i 6 h h1 h2 e ag).elim,fun τ i h h1 h2 e=>(no τ i 5 h h1 h2 e ag).elim,fun τ i h h1 h2 e=>(no τ i 4 h h1 h2 e ag).elim,fun τ i h h1 h2 e=>(no τ i 3 h h1 h2 e ag).elim,fun τ i h h1 h2 e=>(no τ i 2 h h1 h2 e ag).elim,fun τ i h h1 h2 e=>⟨fun j k1 k2=>by
  by_cases e':j=i
  ·rw [e',dH];omega
  ·rw [upd_ne τ 0 e'];exact h j k1 k2,rfl,rfl⟩⟩
theorem xG (k:Nat):rM 0 (fun τ=>∀ i,τ i=7) (fun _=>k * 4294967296) fun _=>0 :=
 ⟨fun _ _ _ h1 h2=>absurd h1 ag,fun _ _ _ h1 h2=>absurd h1 ag,fun _ _ _ h1 h2=>absurd h1 ag,fun _ _ _ h1 h2=>absurd h1 ag,fun _ _ _ h1 h2=>absurd h1 ag,fun _ _ _ h1 h2=>absurd h1 ag,fun _ _ _ h1 h2=>absurd h1 ag⟩
section
variable {P:Program}{C:Nat→Prop}{O:Nat→Option (Array CommCase×CommShape)}{Home:Nat→(Nat→Prop)→Goroutine→World→Prop}{St:ai}{gs0:Array Goroutine}{w0:World}{sl0:Option (Nat×Nat)}{T0:Trace}{aU:Nat→Nat→Prop}{τ0:Nat→Nat}{L:List Nat}
theorem aJ.Same.ok {G G':aJ}(S:G.Same G'):(G'.env P).ok=(G.env P).ok:=by show ig P G'.R G'.q=ig P G.R G.q;rw [S.R,S.q]
theorem aJ.Same.pre {G G':aJ}(S:G.Same G'):(G'.env P).Pre=(G.env P).Pre:=by show oN G'.R G'.q=oN G.R G.q;rw [S.R,S.q]
theorem aJ.Same.aI {G G':aJ}(S:G.Same G'):(G'.env P).aI=(G.env P).aI:=by show kK G'.R G'.q=kK G.R G.q;rw [S.R,S.q]
structure zX (G G':aJ)(τ:Nat→Nat)(T:Trace)(w w':World)(fn:FuncId)(pos:String)(es:Array Event):Prop where
 only:bf (·=G.R) w w'
 cells:w'.heap[G.R]?=some (.cells (lay G'.c G.q (G'.wd τ) (G'.sm τ)) G.e (0,0))
 low:∀ e∈es,(MemAct.ofEvent e).low w.heap.size
 may:∀ e∈es,∀ a,(MemAct.ofEvent e).touch?=some a→a.loc.isMemory=true→dI G.R a.loc∧rJ G.R G.q 0 a
 norel:∀ e∈es,∀ a,MemAct.ofEvent e≠.mark (.release a)
 inv:G'.Inv τ
 deaf:Deaf (T ++ MemOp.ofEvents 0 fn pos es) 0=G'.d0
 fx:G'.fx→(∀ i,1≤i→i≤G'.n→τ i < 7)∧Over G'.n (T ++ MemOp.ofEvents 0 fn pos es)
 n:∀ i,1≤i→i≤G'.n→τ i < 7→i≤G.n
theorem aP.oU {G:aJ}(K:dB P (G.env P))(U:dN C O){Z:Type}{bU:Z→ai}{G':Z→aJ}(Q:Z→(Nat→Nat)→Prop)(S:∀ z,G.Same (G' z))(hn:∀ z,G.n≤(G' z).n)(hst:∀ M g w,St M g w→g.status=.running)(hC:¬ C G.R)(hsh:¬ G.shut G.R)
  (H:aP P C (G.env P) τ0 O Home St 0 gs0 w0 T0 aU L)(hh:0∉L)
  (step:∀ τ T w M g,dZ O 0 τ0 τ→St M g w→G.told τ T→w.heap[G.R]?=some (.cells (lay G.c G.q (G.wd τ) (G.sm τ)) G.e (0,0))→∃ z g' w' es,Q z τ∧stepG P true g w=.go g' w' es∧zX G (G' z) τ T w w' g.frame.fn g.frame.place es∧aj P true (bU z) M g' w) :
  ∃ z N gs w sl T own τ L',Q z τ∧runNT P N (crowd gs0 w0 sl0) T0=(.next (crowd gs w sl),T)∧gs.size=gs0.size∧dZ O 0 τ0 τ∧aP P C ((G' z).env P) τ O Home (bU z) 0 gs w T own L'∧0∉L':=by
 refine H.touches K U Q hst (E':=fun z=>(G' z).env P) (fun z=>(S z).ok) (fun z=>(S z).pre) (fun z=>(S z).aI) (fun z i hi=>⟨hi.1,Nat.le_trans hi.2 (hn z)⟩) (fun z i s _ h=>h) hh fun τ T w own g hk hs HT=>?_
 obtain ⟨z,g',w',es,hQ,hst',D,hr⟩:=step τ T w (own 0) g hk hs HT.told (HT.gy G.R _ ⟨rfl,rfl⟩).1
 obtain ⟨q1,q2⟩:=EH (S z) HT hC hsh (fn:=g.frame.fn) (pos:=g.frame.place) D.only D.cells D.low D.may D.norel D.inv D.deaf D.fx D.n
 exact ⟨z,g',w',es,hQ,hst',q1,q2,hr.rely (q2 0),.inl rfl⟩
theorem aP.MU {G:aJ}{Wk:(Nat→Nat)→Prop}(K:dB P (G.env P))(U:dN C O)(hO:∀ i,i≠0→O i=none){Z:Type}{bU:Z→ai}{G':Z→aJ}(Q:Z→(Nat→Nat)→Prop)(S:∀ z,G.Same (G' z))(hn:∀ z,G.n≤(G' z).n)(hst:∀ M g w,St M g w→g.status=.running∧g.offers=none)(hC:¬ C G.R)(hsh:¬ G.shut G.R)
  (H:aP P C (G.env P) τ0 O Home St 0 gs0 w0 T0 aU L)(hh:0∉L)(Bd:xC P C (G.env P) Wk gs0.size)
  (sleep:∀ M g w1,St M g w1→∀ τ w,¬ Wk τ→w.heap[G.R]?=some (.cells (lay G.c G.q (G.wd τ) (G.sm τ)) G.e (0,0))→stepG P true g w=.go (asleep g) w #[])
  (step:∀ τ T w M g,dZ O 0 τ0 τ→Wk τ→St M g w→G.told τ T→w.heap[G.R]?=some (.cells (lay G.c G.q (G.wd τ) (G.sm τ)) G.e (0,0))→∃ z g' w' es,Q z τ∧stepG P true g w=.go g' w' es∧zX G (G' z) τ T w w' g.frame.fn g.frame.place es∧aj P true (bU z) M g' w) :
  ∃ z N gs w sl T own τ L',Q z τ∧runNT P N (crowd gs0 w0 sl0) T0=(.next (crowd gs w sl),T)∧gs.size=gs0.size∧dZ O 0 τ0 τ∧aP P C ((G' z).env P) τ O Home (bU z) 0 gs w T own L'∧0∉L':=by
 refine H.served K U hO Q hst (E':=fun z=>(G' z).env P) (fun z=>(S z).ok) (fun z=>(S z).pre) (fun z=>(S z).aI) (fun z i hi=>⟨hi.1,Nat.le_trans hi.2 (hn z)⟩) (fun z i s _ h=>h) hh Bd (fun M g w1 hs τ T w own HT hw=>sleep M g w1 hs τ w hw (HT.gy G.R _ ⟨rfl,rfl⟩).1) fun τ T w own g hk hW hs HT=>?_
 obtain ⟨z,g',w',es,hQ,hst',D,hr⟩:=step τ T w (own 0) g hk hW hs HT.told (HT.gy G.R _ ⟨rfl,rfl⟩).1
 obtain ⟨q1,q2⟩:=EH (S z) HT hC hsh (fn:=g.frame.fn) (pos:=g.frame.place) D.only D.cells D.low D.may D.norel D.inv D.deaf D.fx D.n
 exact ⟨z,g',w',es,hQ,hst',q1,q2,hr.rely (q2 0),.inl rfl⟩
theorem MV {G:aJ}(hq:G.q+1 < G.c.size)(hI:G.Inv=Inv1 G.n)(hW:G.wd=gK G.n){size:Nat}(hs:G.n < size):xC P C (G.env P) (iW G.n) size:=by
 refine ⟨fun τ T w own i s g H hi hτ hok hn hw=>?_,fun τ T w own H hn=>?_⟩
 ·have hoth:∀ j,1≤j→j≤G.n→j≠i→τ j≤1:=fun j h1 h2 e=>by
   have:=hw j h1 h2
   rw [upd_ne τ _ e] at this
   exact this
  have hself:(G.env P).aI (s+1) w≤1:=by
   have:=hw i hi.1 hi.2
   rw [dH] at this
   exact this
  have h2:2≤s+1:=by
   rcases Nat.lt_or_ge (s+1) 2 with z | z
   ·exact absurd (fun j h1 h2=>by
     by_cases e:j=i
     ·rw [e,hτ];omega
     ·exact hoth j h1 h2 e) hn
   ·exact z
  have hok':ig P G.R G.q (s+1) g:=hok
  have vv:kK G.R G.q (s+1) w≤1:=hself
  have c8:s=1∨s=2∨s=3∨s=4∨s=5∨s=6∨∃ k,s=k+7:=by
   rcases Nat.lt_or_ge s 7 with z | z
   ·omega
   ·exact .inr (.inr (.inr (.inr (.inr (.inr ⟨s - 7,ag⟩)))))
  rcases c8 with rfl | rfl | rfl | rfl | rfl | rfl | ⟨k,rfl⟩
  ·exact hok'.1
  ·exact absurd vv (by show ¬ 2≤1;omega)
  ·exact absurd vv (by show ¬ 3≤1;omega)
  ·exfalso
   have hinv:Inv1 G.n τ:=by rw [← hI];exact H.told.1.1
   have h5:5≤τ i:=by omega
   have hc:=qB τ hi.1 h5 G.n hi.2
   have hc1:cnt τ G.n=1:=by
    have hu:=oP τ i 0 hi.1 G.n hi.2
    rw [if_pos h5,if_neg ag] at hu
    have hz:cnt (upd τ i 0) G.n=0:=rT _ G.n fun j h1 h2=>by
     by_cases e:j=i
     ·rw [e,dH];omega
     ·rw [upd_ne τ 0 e];have:=hoth j h1 h2 e;omega
    omega
   have rV:¬ rU G.n τ:=fun ⟨j,j1,j2,j3⟩=>by have:=hinv.2.1 hc j j1 j2;omega
   have hwd:G.wd τ=4294967297:=by
    rw [hW]
    unfold gK
    rw [if_neg rV,if_neg ag,hc1]
   have hcell:=jP (H.gy G.R _ ⟨rfl,rfl⟩).1 (qx hq (G.wd τ) (G.sm τ))
   rw [hwd] at hcell
   rw [zP hcell] at vv
   omega
  ·exact absurd vv (by show ¬ 5≤1;omega)
  ·exact absurd vv (by show ¬ 6≤1;omega)
  ·exact hok'.elim
 ·refine Classical.byContradiction fun z=>hn fun i h1 h2=>?_
  rcases Nat.lt_or_ge 1 (τ i) with q | q
  ·exact absurd ⟨i,ag,by omega,⟨h1,h2⟩,ag⟩ z
  ·exact q
end
end Go.Blind

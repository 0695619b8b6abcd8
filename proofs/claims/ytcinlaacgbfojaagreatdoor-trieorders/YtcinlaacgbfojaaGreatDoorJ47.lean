/- TrieOrders behind its first loop, whole. (Written by tools/gen/genorl2.py.) -/
import Derived.Test.YtcinlaacgbfojaaGreatDoorJ45
import Derived.Test.YtcinlaacgbfojaaGreatDoorJ46
namespace Go.Proofs.YtcinlaacgbfojaaGreatDoor
open Go.RowKit
theorem delAll_rev {l:List (Int × Int)} (hl:Rise l) (ds:List Int) (m:Nat):delAll l (ordD ds m)=delAll l ds:=by
 unfold ordD
 split
 ·rfl
 ·exact delAll_ext hl (fun x=>by simp)
section
variable {W x:World} {ll lc dc:Nat} {la da:Option Addr} {by_:Int} {keys:List (Int × Int)} {isv ksv:Value} {ds:List Int} {a:Act} {Q:Exit→Act→World→Prop}
theorem or_rest (hp:0 < W.heap.size) (hT:Tab W) (hll:ll≤100) (hds:ds.length≤100) (hD:DropsAt W da ds) (f:FP la ll lc da ds.length dc by_ isv ksv a) (h:L1 W x isv ksv keys ll)
  (hR:∀ a' y,a'.tmps.size=255→a'.defers=[]→a'.eval (.tmp 6)=.bool true→Turned [] W y→Q .ret a' y):(atc Tryz.f3.body [1,1,1,1,1]).wp Tryz.prog Q a x:=by
 obtain ⟨ia,ic,rfl⟩:=h.isr.isSl
 obtain ⟨ka,kc,rfl⟩:=h.ksr.isSl
 have hlen:keys.length≤100:=Nat.le_trans h.len hll
 have hil:=insAll_len keys []
 simp only [List.length_nil] at hil
 have hsz:=h.tw.size
 refine wp_seq (or_13 f.hs f.hd f.x0 f.x1 f.x2 f.x7 f.x8 (PP:=fun p y=>∃ Fp,Turned [] x y∧AtZ y p Fp (PSt.new 4096)∧∀ z,z∈Fp→x.heap.size≤z) ((poolLawsZ.new x 4096 (by omega) (by omega) (by omega)).mono fun e y ⟨p,Fp,q1,q2,q3,q4⟩=>⟨p,q1,Fp,q2,q3,q4⟩) ?_)
 clear f
 rintro a1 y p hs hd x0 x1 x2 x7 x8 x12 x13 ⟨Fp,ht1,hA1,hF1⟩
 refine wp_seq (or_14 hs hd x0 x1 x2 x7 x8 x12 x13 ?_)
 clear hs hd x0 x1 x2 x7 x8 x12 x13
 intro a2 hs hd x0 x1 x2 x7 x8 x12
 have hT1:Tab y:=fun i hi=>(h.tw.trans ht1).cell (hT i hi) (by simp)
 refine wp_seq (or_16 hs hd x0 x1 x2 x7 x8 x12 (PP:=fun tb z=>Turned [] y z∧TrieB z tb p∧y.heap.size≤tb) ((trieLaws.new y p hT1).mono fun e z ⟨tb,q1,q2,q3,q4⟩=>⟨tb,q1,q2,q3,q4⟩) ?_)
 clear hs hd x0 x1 x2 x7 x8 x12
 rintro a3 z tb hs hd x0 x1 x2 x7 x8 x12 x14 ⟨ht2,hB2,hb2⟩
 refine wp_seq (or_17 hs hd x0 x1 x2 x7 x8 x12 x14 ?_)
 clear hs hd x0 x1 x2 x7 x8 x12 x14
 rintro a4 z3 hs hd x0 x1 x2 x7 x8 x12 x14 x15 rfl
 have T3:Turned [] z (z.alloc (rootsO 0 0)):=(Turned.refl [] _).alloc _
 have T13:=ht1.trans ht2
 have h0:L2 W (z.alloc (rootsO 0 0)) p tb z.heap.size 0 (.slice ia (insAll [] keys).length ic) (.slice ka keys.length kc) (insAll [] keys) keys (fun _=>none) (fun _=>0) 0 []:=by
  refine ⟨(T2.start (by omega) (by omega) (poolLawsZ.keep hA1 ht2 (by simp)) hB2 (fun hm=>?_) (h.tw.trans T13) (fun q hq=>?_)).still T3,(h.isr.keep T13 (by simp)).keep T3 (by simp),(h.ksr.keep T13 (by simp)).keep T3 (by simp),blk_new _ _,?_⟩
  ·have:=poolLawsZ.lt hA1 _ hm; omega
  ·have:=hF1 q hq; omega
  ·have:=T13.size; omega
 have hrise:=rise_insAll rise_nil keys
 refine wp_seq (or_loop2 hp hlen h.ok ⟨hs,hd,x0,x1,x2,x7,x8,x12,x14,x15⟩ h0 ?_ hR)
 clear hs hd x0 x1 x2 x7 x8 x12 x14 x15
 intro a5 y5 o f hpr h5
 have hL0:(insAll [] keys).length≤100:=by omega
 have hpr2:∀ m,m < 2→prs (o m)=insAll [] keys:=fun m hm=>by
  rw [hpr m hm]
  rcases (by omega:m=0∨m=1) with rfl | rfl
  ·rfl
  ·exact insAll_ord (fun hne=>(turn_ok (by_:=by_) (len:=keys.length) (List.length_pos_iff.2 hne)).2.2.2) h.nd
 refine wp_seq (or_loop6 hp hL0 hds hD f h5 (by omega) hpr2 ?_)
 clear f
 intro a6 y6 o6 f hpr6 h6
 refine wp_seq (or_loop10 hds hL0 hD f h6 ?_)
 clear f
 intro a7 y7 isv7 f h7
 obtain ⟨ia7,ic7,rfl⟩:=h7.isr.isSl
 have hp6:∀ m,m < 2→prs (o6 m)=delAll (insAll [] keys) ds:=fun m hm=>by rw [hpr6 m hm,delAll_rev hrise]
 refine wp_seq (or_51 f.hs f.hd f.x0 f.x1 f.x2 f.x7 f.x8 f.x12 f.x14 f.x15 h7.box ?_)
 clear f
 intro a8 y8 b1 b2 hs hd x0 x1 x2 x7 x8 x12 x14 x15 x27 x28 ht8 hb1 hb2
 have h8:=h7.still ht8
 have hdl:=delAll_len ds (insAll [] keys)
 have i0:PR W.heap.size y8 (.slice ia7 (delAll (insAll [] keys) ds).length ic7) (prs (o6 0)):=by rw [hp6 0 (by omega)]; exact h8.isr
 have c0:=Holds.count (o6 0)
 have c1:=Holds.count (o6 1)
 rw [hp6 0 (by omega)] at c0
 rw [hp6 1 (by omega)] at c1
 have G1:=tTells h8.t2 i0 (by rw [hp6 0 (by omega)]; omega) 0 4294967295
 have step1:Calls Tryz.prog 14 #[pt tb,.agg #[.int .i64 (rootO (o6 0)),.slice ia7 (delAll (insAll [] keys) ds).length ic7],.int .i64 0,.int .i64 4294967295] y8 fun e x'=>e=.returned (.bool true)∧(KeepT y8 x'∧T2 W x' 4096 p tb (10000000+4000000) (o6 0) (o6 1) []):=G1
 have step2:∀ z',(KeepT y8 z'∧T2 W z' 4096 p tb (10000000+4000000) (o6 0) (o6 1) [])→Calls Tryz.prog 14 #[pt tb,.agg #[.int .i64 (rootO (o6 1)),.slice ia7 (delAll (insAll [] keys) ds).length ic7],.int .i64 0,.int .i64 4294967295] z' fun e x'=>e=.returned (.bool true)∧T2 W x' 4096 p tb (10000000+4000000) (o6 0) (o6 1) []:=fun z' hz=>by
  have i1:PR W.heap.size z' (.slice ia7 (delAll (insAll [] keys) ds).length ic7) (prs (o6 1)):=by rw [hp6 1 (by omega)]; exact h8.isr.keptT hz.1
  exact (tTells hz.2.swap i1 (by rw [hp6 1 (by omega)]; omega) 0 4294967295).mono fun e x' hh=>⟨hh.1,hh.2.2.swap⟩
 have step3:∀ z',T2 W z' 4096 p tb (10000000+4000000) (o6 0) (o6 1) []→Calls Tryz.prog 15 #[pt p] z' fun e x'=>e=.returned (.int .i64 0)∧T2 W x' 4096 p tb (10000000+4000000) (o6 0) (o6 1) []:=fun z' hz=>(tFaults hz).mono fun e x' hh=>⟨hh.1,hh.2.2⟩
 have step4:∀ z',T2 W z' 4096 p tb (10000000+4000000) (o6 0) (o6 1) []→Calls Tryz.prog 16 #[pt p] z' fun e x'=>(∃ a cc,e=.returned (.slice a (4096 - (hsx (o6 0)).length - (hsx (o6 1)).length) cc))∧Turned [] W x':=fun z' hz=>(tFree hz).mono fun e x' hh=>⟨hh.1,hh.2.2.turned⟩
 rw [c0,c1] at step4
 by_cases hz:(delAll (insAll [] keys) ds).length=0
 ·rw [hz] at step4 step1 step2 x7 hb1 hb2
  refine wp_endB (or_52z hs hd x0 x1 x2 x7 x8 x12 x14 x15 x27 x28 rfl hb1 step1 (fun z' hz'=>hz'.1.blk _ _ _ (by decide) hb2) step2 step3 step4 ?_)
  intro a9 y9 hs hd x6 ht
  exact hR a9 y9 hs hd x6 ht
 ·rw [show 4096 - (2 * (delAll (insAll [] keys) ds).length - 1) - (2 * (delAll (insAll [] keys) ds).length - 1)=4096 - 2 * (2 * (delAll (insAll [] keys) ds).length - 1) by omega] at step4
  refine wp_endB (or_52p hs hd x0 x1 x2 x7 x8 x12 x14 x15 x27 x28 (by omega) (by omega) hb1 step1 (fun z' hz'=>hz'.1.blk _ _ _ (by decide) hb2) step2 step3 step4 ?_)
  intro a9 y9 hs hd x6 ht
  exact hR a9 y9 hs hd x6 ht
end
end Go.Proofs.YtcinlaacgbfojaaGreatDoor

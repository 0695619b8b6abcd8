/- TrieDiffs: its loops. (Written by tools/gen/gendifl.py.) -/
import Derived.Test.YtloljphbdfjgdaaGreatDoorK48
namespace Go.Proofs.YtloljphbdfjgdaaGreatDoor
open Go.RowKit
/-! ### What is between two lists -/
theorem diffL_len (x y:List (Int × Int)):(diffL x y).length≤x.length+y.length:=by
 induction x,y using diffL.induct with
 | case1=>rw [diffL]; simp
 | case2 k v x ih=>rw [diffL]; simp only [List.length_cons,List.length_nil] at ih ⊢; omega
 | case3 k v y ih=>rw [diffL]; simp only [List.length_cons,List.length_nil] at ih ⊢; omega
 | case4 k v x j u y h1 ih=>rw [diffL,if_pos h1]; simp only [List.length_cons] at ih ⊢; omega
 | case5 k v x j u y h1 h2 ih=>rw [diffL,if_neg h1,if_pos h2]; simp only [List.length_cons] at ih ⊢; omega
 | case6 k x j u y h1 h2 ih=>rw [diffL,if_neg h1,if_neg h2,if_pos rfl]; simp only [List.length_cons]; omega
 | case7 k v x j u y h1 h2 h3 ih=>rw [diffL,if_neg h1,if_neg h2,if_neg h3]; simp only [List.length_cons]; omega
def lastK (D:List Chn):Nat→Int
 | 0=>-1
 | i+1=>((D[i]?).map Chn.k).getD (-1)
theorem last_lt {D:List Chn} (hr:D.Pairwise fun a b=>a.k < b.k) (h0:∀ c∈D,0≤c.k) {i:Nat} (hi:i < D.length):lastK D i < D[i].k:=by
 cases i with
 | zero=>have:=h0 _ (List.getElem_mem hi); show (-1:Int) < _; omega
 | succ i =>
  have h1:i < D.length:=by omega
  show ((D[i]?).map Chn.k).getD (-1) < _
  rw [List.getElem?_eq_getElem h1]
  exact List.pairwise_iff_getElem.1 hr i (i+1) h1 hi (by omega)
theorem last_succ {D:List Chn} {i:Nat} (hi:i < D.length):lastK D (i+1)=D[i].k:=by
 show ((D[i]?).map Chn.k).getD (-1)=_
 rw [List.getElem?_eq_getElem hi]
 rfl
structure MidD (x y:List (Int × Int)) (i:Nat) (c:List (Int × Int)):Prop where
 rise:Rise c
 get:∀ k,getL c k=if k∈((diffL x y).take i).map Chn.k then getL y k else getL x k
 len:c.length≤x.length+i
section
variable {x y c:List (Int × Int)} {i:Nat}
theorem MidD.start (hx:Rise x):MidD x y 0 x:=⟨hx,fun k=>by simp,by omega⟩
theorem MidD.old (h:MidD x y i c) (hx:Rise x) (hy:Rise y) (hi:i < (diffL x y).length):getL c (diffL x y)[i].k=(diffL x y)[i].o:=by
 rw [h.get,if_neg ?_]
 ·exact (((diffL_tells x y hx hy).1 _ (List.getElem_mem hi)).1).symm
 ·intro hm
  obtain ⟨d,hd,he⟩:=List.mem_map.1 hm
  obtain ⟨j,hj,rfl⟩:=List.getElem_of_mem hd
  simp only [List.length_take,List.getElem_take] at hj he
  have:=List.pairwise_iff_getElem.1 (diffL_rise x y hx hy) j i (by omega) hi (by omega)
  omega
theorem MidD.next {c':List (Int × Int)} (h:MidD x y i c) (hx:Rise x) (hy:Rise y) (hi:i < (diffL x y).length) (hr:Rise c') (hl:c'.length≤c.length+1) (hg:∀ k,getL c' k=if k=(diffL x y)[i].k then (diffL x y)[i].n else getL c k):MidD x y (i+1) c':=by
 refine ⟨hr,fun k=>?_,by have:=h.len; omega⟩
 rw [hg,List.take_succ_eq_append_getElem hi,List.map_append]
 have hn:=((diffL_tells x y hx hy).1 _ (List.getElem_mem hi)).2.1
 by_cases hk:k=(diffL x y)[i].k
 ·subst hk
  rw [if_pos rfl,if_pos (by simp),hn]
 ·rw [if_neg hk,h.get]
  have e:(k∈((diffL x y).take i).map Chn.k ++ [(diffL x y)[i]].map Chn.k)↔k∈((diffL x y).take i).map Chn.k:=by
   simp only [List.mem_append,List.map_cons,List.map_nil,List.mem_singleton]
   exact ⟨fun h=>h.resolve_right hk,.inl⟩
  simp only [e]
theorem MidD.fin (h:MidD x y (diffL x y).length c) (hx:Rise x) (hy:Rise y):c=y:=by
 refine rise_ext h.rise hy fun k=>?_
 rw [h.get,List.take_length]
 by_cases hk:k∈(diffL x y).map Chn.k
 ·rw [if_pos hk]
 ·rw [if_neg hk]
  exact (diffL_tells x y hx hy).2 k fun d hd e=>hk (List.mem_map.2 ⟨d,hd,e⟩)
theorem mid_del (hr:Rise c) (k:Int):∀ j,getL (delL c k) j=if j=k then none else getL c j:=fun j=>getL_del hr k j
theorem mid_ins (hr:Rise c) (k v:Int):∀ j,getL (insL (delL c k) k v) j=if j=k then some v else getL c j:=fun j=>by
 rw [getL_ins (hr.del k),getL_del hr]
 by_cases e:j=k <;> simp [e]
theorem opt_ne {o n:Option Int} (h:o≠n):o.isSome=n.isSome→¬ o.getD 0=n.getD 0:=by
 cases o <;> cases n <;> simp_all
end
/-! ### Diff of two maps of many -/
theorem CR.lower {B B':Nat} {w:World} {v:Value} {R:List Chn} (h:CR B w v R) (hb:B'≤B):CR B' w v R:=by
 refine ⟨h.own.1,?_⟩
 rcases h.own.2 with h0 | ⟨g,c,cs,rfl,hb2,h3⟩
 ·exact .inl h0
 ·exact .inr ⟨g,c,cs,rfl,Nat.le_trans hb hb2,h3⟩
theorem CR.other {B b:Nat} {x x':World} {v:Value} {l:List Chn} {cs:Array Value} {T:TypeId} (h:CR B x v l) (hb:x.heap[b]?=some (.cells cs T (0,0))) (hT:T≠51) (ht:Turned [b] x x'):CR B x' v l:=by
 refine h.keep ht fun g hg hm=>?_
 obtain ⟨cs',hg'⟩:=h.type hg
 simp at hm; subst hm
 exact other_type hg' hb (fun e=>hT e.symm) rfl
section
variable {W x:World} {p tb m it:Nat} {vs:List Vr} {q q':Vr}
theorem MV.keys (h:MV W x p tb m it vs) (hq:q∈vs):∀ a∈prs q.o,0≤a.1:=fun a ha=>by
 obtain ⟨F,s,St,it0,h⟩:=h.ex
 obtain ⟨i,hi,rfl⟩:=List.getElem_of_mem ha
 exact (keyOfZ (h.holds q hq) hi).1
theorem mGiven (h:MV W x p tb m it vs) (hm:m≤1000) (hq:q∈vs) (hq':q'∈vs) (x':World) (hP:Turned [] x x'∧DBox x.heap.size (x.heap.size+1) (x.heap.size+1+1) (x.heap.size+1+1+1) tb (rootO q.o) (rootO q'.o) x'∧x'.heap.size=x.heap.size+4) :
  Calls Tryz.prog 13 #[.func (.func 37) #[] #[.pointer (some ⟨x.heap.size,0,none⟩),.pointer (some ⟨x.heap.size+1,0,none⟩),.pointer (some ⟨x.heap.size+1+1,0,none⟩),.pointer (some ⟨x.heap.size+1+1+1,0,none⟩)],.int .i64 (-1)] x' fun e x2=>∃ dv,e=.returned (.tuple #[dv,.int .i64 0,.bool true])∧(CR 0 x2 dv (diffL (prs q.o) (prs q'.o))∧Turned [] x x2):=by
 obtain ⟨ht,hB,hsz⟩:=hP
 have l1:=h.len hq
 have l2:=h.len hq'
 obtain ⟨F,s,St,it0,h⟩:=h.ex
 have hlen:=diffL_len (prs q.o) (prs q'.o)
 refine (cGivenD (F:=[]) (X:=fun _=>True) (L:=diffL (prs q.o) (prs q'.o)) trivial (fun _ _ _ _=>trivial) (by simp) ⟨_,_,Tryz.func37,by kernel_rfl,rfl⟩ ?_ (by omega)).mono ?_
 ·intro w1 h1 _ J fy cy G hTk hJ hG
  have hFlt:=poolLaws.lt h.at_.1
  have hTlt:=lt_of_heap h.tb_.blk
  have hpos:=h.tb_.pos
  have h2:=ht.trans h1
  have big:∀ z,z∈G→x.heap.size+4≤z:=fun z hz=>by have:=(hG z hz).2; omega
  have hD:DP tb p F s J 0 G w1:=⟨h.tb_.still h2,h.at_.1.still h2,hJ,fun z hz=>⟨fun hm=>by have:=hFlt z hm; have:=big z hz; omega,by have:=big z hz; omega,by have:=big z hz; omega⟩⟩
  refine (cDiff1 h.pv.ok hTk (h.holds q hq) (h.holds q' hq') hD (hB.still h1) (fun hm=>by have:=big _ hm; omega) (fun hm=>by have:=big _ hm; omega) (fun hm=>by have:=big _ hm; omega) (fun hm=>by have:=big _ hm; omega)).mono ?_
  rintro e w2 ⟨rfl,ht2,hJ2⟩
  exact ⟨rfl,ht2,trivial,hJ2⟩
 ·rintro e x2 ⟨v,rfl,hc,ht2,-⟩
  exact ⟨v,rfl,hc.lower (Nat.zero_le _),ht.trans ht2⟩
end
/-! ### The loop of changes -/
structure DfF (av bv:Int) (la:Option Addr) (ll lc p tb:Nat) (al:Value) (a:Act):Prop where
 hs:a.tmps.size=247
 hd:a.defers=[]
 x0:a.eval (.tmp 0)=.slice la ll lc
 x1:a.eval (.tmp 1)=.int .i64 av
 x2:a.eval (.tmp 2)=.int .i64 bv
 x7:a.eval (.tmp 7)=.pointer (some ⟨p,0,none⟩)
 x9:a.eval (.tmp 9)=.pointer (some ⟨tb,0,none⟩)
 x10:a.eval (.tmp 10)=al
structure ML2 (W y:World) (p tb i:Nat) (av:Value) (vs:List Vr):Prop where
 mv:MV W y p tb i (200 * i) vs
 rw_:Rw W.heap.size y av vs
 pos:0 < vs.length
 le:vs.length≤i+1
section
variable {W x:World} {p tb ll lc i:Nat} {la:Option Addr} {av bv:Int} {al:Value} {vs:List Vr} {a:Act} {K:Act→World→Prop} {Q:Exit→Act→World→Prop}
set_option maxHeartbeats 1600000 in
theorem df_round (hp:0 < W.heap.size) (hl:ll≤120) (hS:ChgsAt W la ll) (hi2:i < ll) (f:DfF av bv la ll lc p tb al a) (x11:a.eval (.tmp 11)=.int .i64 i) (h:ML2 W x p tb i al vs)
  (hK:∀ a' y al' vs',DfF av bv la ll lc p tb al' a'→a'.eval (.tmp 11)=.int .i64 i→ML2 W y p tb (i+1) al' vs'→K a' y):(atc Tryz.f4.body [1,1,1,1,1,1,1,0,1,0,0,1,0]).wp Tryz.prog (Exit.then K Q) a x:=by
 obtain ⟨qb,qo,cf,ky,vy,cd,rfl,d0,d1,d2,d3⟩:=hS.at_ i hi2
 have tw:=h.mv.turned
 have hsz:=tw.size
 obtain ⟨z0,z1,z2,z3⟩:=turn_ok (by_:=cf) h.pos
 obtain ⟨ag,ac,rfl,c0,c1⟩:=h.rw_.isAt z3
 obtain ⟨q,hqe⟩:∃ q,q=vs[turnC cf vs.length]:=⟨_,rfl⟩
 have hq:q∈vs:=by rw [hqe]; exact List.getElem_mem _
 obtain ⟨va,vc,hva⟩:=(h.mv.row hq).isSl
 have hle:=h.le
 have hpv:=h.pos
 refine wp_block ?_
 refine wp_seq (df_r13 (p:=p) (tb:=tb) (qb:=qb) (qo:=qo) (ll:=ll) (lc:=lc) (i:=i) (ag:=ag) (al:=vs.length) (ac:=ac) (c:=turnC cf vs.length) (z:=cf.tmod (vs.length:Int)) (rt:=rootO q.o) (cf:=cf) (ky:=ky) (vy:=vy) (cd:=cd) (lv:=q.v)
  (C:=fun z=>Rw W.heap.size z (.slice (some ⟨ag,0,none⟩) vs.length ac) vs∧Turned [] W z)
  (P0:=fun z=>(Rw W.heap.size z (.slice (some ⟨ag,0,none⟩) vs.length ac) vs∧Turned [] W z)∧MV W z p tb i (200 * i) vs∧x.heap.size≤z.heap.size)
  (P1:=fun d z=>(Rw W.heap.size z (.slice (some ⟨ag,0,none⟩) vs.length ac) vs∧Turned [] W z)∧x.heap.size≤z.heap.size∧∃ x0,CP W x0 p tb i (200 * i+200) vs q (chgL (prs q.o) ky vy cd) d z)
  f.hs f.x7 f.x9 f.x10 f.x0 x11 ⟨va,_,vc,hva⟩ hi2 (by omega) hpv rfl z0 z1 z2 z3 (fun z hz=>hz.1) (fun d z hz=>hz.1) ?cells ?start ?still0 ?still1 ?write1 (fun z hz=>hz.2.2) (fun d z hz=>hz.2.1) ?call ?fin)
 case cells =>
  rintro z ⟨hb,hw⟩
  have hh:=hb.cell z3
  rw [← hqe] at hh
  exact ⟨hh,hw.cell d0 (by simp),hw.cell d1 (by simp),hw.cell d2 (by simp),hw.cell d3 (by simp)⟩
 case start =>
  have td:Turned [] x x.drew:=(Turned.refl [] _).drew
  exact ⟨⟨h.rw_.still td,tw.trans td⟩,h.mv.still td,td.size⟩
 case still0 =>
  rintro z z' ⟨⟨g1,g2⟩,g3,g4⟩ ht
  exact ⟨⟨g1.still ht,g2.trans ht⟩,g3.still ht,Nat.le_trans g4 ht.size⟩
 case still1 =>
  rintro d z z' ⟨⟨g1,g2⟩,g4,x0,g5⟩ ht
  exact ⟨⟨g1.still ht,g2.trans ht⟩,Nat.le_trans g4 ht.size,x0,g5.still ht⟩
 case write1 =>
  rintro d z z' eb ⟨⟨g1,g2⟩,g4,x0,g5⟩ hb hle ht
  have hw:W.heap.size≤eb:=by omega
  exact ⟨⟨g1.beside hb (by decide) ht,g2.inner ht (fun g hg=>by simp at hg; subst hg; exact .inr hw)⟩,Nat.le_trans g4 ht.size,x0,g5.write hb hp hw ht⟩
 case call =>
  rintro z ⟨⟨g1,g2⟩,g3,g4⟩
  refine (mChanged g3 (by omega) (by omega) hq cf ky vy cd).mono ?_
  rintro e z' ⟨d,rfl,hkp,hcp⟩
  have htw:Turned [] W z':=by
   cases hcp with
   | not _ h2=>exact h2.turned
   | done _ _ _ _ _ _ _ h4=>exact h4.turned
  exact ⟨d,rfl,hkp,⟨g1.keptT hkp,htw⟩,Nat.le_trans g4 hkp.size,z,hcp⟩
 case fin =>
  rintro a2 y2 eb d hs' hd' hoff x13 x12 x14 ⟨⟨g3,g2⟩,g4,x0',g5⟩ he hbn
  have f2:DfF av bv (some ⟨qb,qo,none⟩) ll lc p tb (.slice (some ⟨ag,0,none⟩) vs.length ac) a2:=⟨hs'.trans f.hs,hd'.trans f.hd,(hoff 0 (by decide)).trans f.x0,(hoff 1 (by decide)).trans f.x1,(hoff 2 (by decide)).trans f.x2,(hoff 7 (by decide)).trans f.x7,(hoff 9 (by decide)).trans f.x9,(hoff 10 (by decide)).trans f.x10⟩
  have y11:=(hoff 11 (by decide)).trans x11
  clear f x11 hoff hs' hd'
  refine wp_seq (df_14 f2.hs f2.hd f2.x0 f2.x1 f2.x2 f2.x7 f2.x9 f2.x10 y11 x12 x14 ?_)
  clear f2 y11 x12 x13 x14
  intro a3 hs hd x0 x1 x2 x7 x9 x10 x11 x12
  cases g5 with
  | not e1 h2 =>
   rw [e1] at x12
   refine wp_endB (df_16nil hs hd x0 x1 x2 x7 x9 x10 x11 x12 ?_)
   clear hs hd x0 x1 x2 x7 x9 x10 x11 x12
   intro a4 hs hd x0 x1 x2 x7 x9 x10 x11
   exact hK a4 y2 _ vs ⟨hs,hd,x0,x1,x2,x7,x9,x10⟩ x11 ⟨h2.more (by omega) (by omega),g3,h.pos,by omega⟩
  | done nb q' gone made e1 hnb _ h4 hprs egl eml hg hm hX hl34 hl2 =>
   rw [e1] at x12
   have hq3:q'∈vs ++ [q']:=by simp
   obtain ⟨va2,vc2,hva2⟩:=(h4.row hq3).isSl
   have cc1:y2.cell? ⟨nb,1,none⟩=some q'.v:=cell_at hnb 1
   rw [hva2] at cc1
   have hs5:=h4.turned.size
   refine wp_endB (df_17 (R:=vs) (B:=W.heap.size) (r:=q') hs hd x0 x1 x2 x7 x9 x10 x11 (show _=Value.pointer (some ⟨nb,0,none⟩) from x12) (cell_at hnb 0) hva2 cc1 g3 (by omega) hs5 ?_)
   clear hs hd x0 x1 x2 x7 x9 x10 x11 x12
   intro a6 y6 v hs hd x0 x1 x2 x7 x9 x10 x11 hR ht hor
   have hMV:MV W y6 p tb (i+1) (200 * i+200) (vs ++ [q']):=by
    cases hvb:(Value.slice (some ⟨ag,0,none⟩) vs.length ac).ownBlock with
    | none=>rw [hvb] at ht; exact h4.still ht
    | some g =>
     rw [hvb] at ht
     obtain ⟨cs,hcs⟩:=g3.type hvb
     exact h4.write hcs (by decide) (by decide) (by decide) hp (g3.fresh hvb).1 ht
   obtain ⟨aa6,ac6,rfl⟩:=hR.form
   exact hK a6 y6 _ (vs ++ [q']) ⟨hs,hd,x0,x1,x2,x7,x9,x10⟩ x11 ⟨hMV.more (by omega) (Nat.le_refl _),hR,by simp,by simp; omega⟩
theorem df_loop1 (hp:0 < W.heap.size) (hl:ll≤120) (hS:ChgsAt W la ll) (f:DfF av bv la ll lc p tb al a) (h:ML2 W x p tb 0 al vs)
  (hK:∀ a' y al' vs',DfF av bv la ll lc p tb al' a'→ML2 W y p tb ll al' vs'→K a' y):(atc Tryz.f4.body [1,1,1,1,1,1,1,0]).wp Tryz.prog (Exit.then K Q) a x:=by
 obtain ⟨aa,ac,rfl⟩:=h.rw_.form
 refine wp_seq (df_10 f.hs f.hd f.x0 f.x1 f.x2 f.x7 f.x9 f.x10 ?_)
 clear f
 intro a1 hs hd x0 x1 x2 x7 x9 x10 x11
 refine wp_block ?_
 refine wp_loop (fun a' y=>∃ i al' vs',i≤ll∧DfF av bv la ll lc p tb al' a'∧a'.eval (.tmp 11)=.int .i64 (i:Nat)∧ML2 W y p tb i al' vs') (fun a' _=>ll - (intOf (a'.eval (.tmp 11))).toNat) ⟨0,_,vs,Nat.zero_le _,⟨hs,hd,x0,x1,x2,x7,x9,x10⟩,x11,h⟩ ?_
 clear hs hd x0 x1 x2 x7 x9 x10 x11 h
 rintro a2 y ⟨i,al',vs',hi2,f,x11,h⟩
 obtain ⟨aa,ac,rfl⟩:=h.rw_.form
 have hmu:(intOf (a2.eval (.tmp 11))).toNat=i:=by rw [x11]; simp [intOf]
 rw [hmu]
 by_cases hlt:i < ll
 ·refine wp_seq (df_11in f.hs f.hd f.x0 f.x1 f.x2 f.x7 f.x9 f.x10 x11 (by omega) ?_)
  clear f x11 hmu
  intro a3 hs hd x0 x1 x2 x7 x9 x10 x11
  refine wp_seq (df_round hp hl hS hlt ⟨hs,hd,x0,x1,x2,x7,x9,x10⟩ x11 h ?_)
  clear hs hd x0 x1 x2 x7 x9 x10 x11 h
  intro a4 z al2 vs2 f x11 h
  obtain ⟨aa2,ac2,rfl⟩:=h.rw_.form
  refine wp_endB (df_12 f.hs f.hd f.x0 f.x1 f.x2 f.x7 f.x9 f.x10 x11 (by omega) ?_)
  clear f x11
  intro a5 hs hd x0 x1 x2 x7 x9 x10 x11
  refine ⟨⟨i+1,_,vs2,by omega,⟨hs,hd,x0,x1,x2,x7,x9,x10⟩,x11,h⟩,?_⟩
  rw [x11]; simp only [intOf]; omega
 ·have e:i=ll:=by omega
  subst e
  refine wp_seq (df_11out f.hs f.hd f.x0 f.x1 f.x2 f.x7 f.x9 f.x10 x11 (by omega) ?_)
  intro a3 hs hd x0 x1 x2 x7 x9 x10
  exact hK a3 y _ vs' ⟨hs,hd,x0,x1,x2,x7,x9,x10⟩ h
end
/-! ### The loop of differences -/
structure DfC (bx by_:Nat) (dv:Value) (last:Int) (a:Act):Prop where
 hs:a.tmps.size=247
 hd:a.defers=[]
 x15:a.eval (.tmp 15)=.pointer (some ⟨bx,0,none⟩)
 x16:a.eval (.tmp 16)=.pointer (some ⟨by_,0,none⟩)
 x17:a.eval (.tmp 17)=dv
 x23:a.eval (.tmp 23)=.int .i64 last
structure DIv (W y:World) (bx by_:Nat) (ra rb:Int) (xv yv dv:Value) (c l:List (Int × Int)) (D:List Chn):Prop where
 hbx:y.heap[bx]?=some (verObj ra xv)
 hby:y.heap[by_]?=some (verObj rb yv)
 px:PR 0 y xv c
 py:PR 0 y yv l
 cd:CR 0 y dv D
 tw:Turned [] W y
 ne:bx≠by_
 lb:W.heap.size≤bx
section
variable {W x y z:World} {bx by_ i:Nat} {ra rb last:Int} {xv xv' yv dv:Value} {c c' l X Y:List (Int × Int)} {D:List Chn} {a:Act} {K:Act→World→Prop} {Q:Exit→Act→World→Prop}
theorem DIv.still (h:DIv W y bx by_ ra rb xv yv dv c l D) (ht:Turned [] y z):DIv W z bx by_ ra rb xv yv dv c l D :=
 ⟨ht.heap h.hbx (by simp),ht.heap h.hby (by simp),h.px.keep ht (by simp),h.py.keep ht (by simp),h.cd.still ht,h.tw.trans ht,h.ne,h.lb⟩
theorem DIv.set (h:DIv W z bx by_ ra rb xv yv dv c l D) (hp:PR 0 z xv' c') (ht:Turned [bx] z y) (hb:y.heap[bx]?=some (verObj ra xv')):DIv W y bx by_ ra rb xv' yv dv c' l D :=
 ⟨hb,ht.heap h.hby (by simp only [List.mem_singleton]; exact fun e=>h.ne e.symm),hp.other h.hbx (by decide) ht,h.py.other h.hbx (by decide) ht,h.cd.other h.hbx (by decide) ht,h.tw.inner ht (fun g hg=>by simp at hg; subst hg; exact .inr h.lb),h.ne,h.lb⟩
set_option maxHeartbeats 1600000 in
theorem df_round2 (hX:Rise X) (hY:Rise Y) (hk0:∀ d∈diffL X Y,0≤d.k) (hlX:X.length≤1000) (hlY:Y.length≤1000) (hi:i < (diffL X Y).length) (f:DfC bx by_ dv (lastK (diffL X Y) i) a) (x24:a.eval (.tmp 24)=.int .i64 i) (h:DIv W x bx by_ ra rb xv yv dv c Y (diffL X Y)) (hm:MidD X Y i c)
  (hK:∀ a' y xv' c',DfC bx by_ dv (lastK (diffL X Y) (i+1)) a'→a'.eval (.tmp 24)=.int .i64 i→DIv W y bx by_ ra rb xv' yv dv c' Y (diffL X Y)→MidD X Y (i+1) c'→K a' y):(atc Tryz.f4.body [1,1,1,1,1,1,1,1,1,1,1,1,1,0,1,0,0,1,0]).wp Tryz.prog (Exit.then K Q) a x:=by
 have hlast:=last_lt (diffL_rise X Y hX hY) hk0 hi
 have hold:=hm.old hX hY hi
 obtain ⟨-,hnew,hon⟩:=(diffL_tells X Y hX hY).1 _ (List.getElem_mem hi)
 have hnxt:=hm.next (c':=delL c (diffL X Y)[i].k) hX hY hi (hm.rise.del _) (by have:=delL_le c (diffL X Y)[i].k; omega)
 have hnxt2:∀ v,_:=fun v=>hm.next (c':=insL (delL c (diffL X Y)[i].k) (diffL X Y)[i].k v) hX hY hi ((hm.rise.del _).ins _ _) (by
  have h1:=delL_le c (diffL X Y)[i].k
  have h2:=insL_length (l:=delL c (diffL X Y)[i].k) (k:=(diffL X Y)[i].k) (v:=v)
  split at h2 <;> omega)
 have hdl:=diffL_len X Y
 have hcl:=hm.len
 obtain ⟨dg,dc,cs,rfl,hg,hcell⟩:=h.cd.isAt hi
 have hsucc:=last_succ hi
 generalize (diffL X Y)[i]=e at hlast hold hnew hon hnxt hnxt2 hcell hsucc
 have c0:x.cell? ⟨dg,i * 5,none⟩=some (.int .i64 e.k):=hcell 0 (by omega)
 have c1:x.cell? ⟨dg,i * 5+1,none⟩=some (.int .i64 (e.o.getD 0)):=hcell 1 (by omega)
 have c2:x.cell? ⟨dg,i * 5+2,none⟩=some (.int .i64 (e.n.getD 0)):=hcell 2 (by omega)
 have c3:x.cell? ⟨dg,i * 5+3,none⟩=some (.bool e.o.isSome):=hcell 3 (by omega)
 have c4:x.cell? ⟨dg,i * 5+4,none⟩=some (.bool e.n.isSome):=hcell 4 (by omega)
 obtain ⟨va,vc,rfl⟩:=h.px.isSl
 obtain ⟨ua,uc,rfl⟩:=h.py.isSl
 refine wp_block ?_
 refine wp_seq (df_27 f.hs f.hd f.x15 f.x16 f.x17 f.x23 x24 (by omega) c0 c1 c2 c3 c4 ?_)
 clear f x24 c0 c1 c2 c3 c4 hcell hg
 intro a1 y1 hs hd x15 x16 x17 x23 x24 x25 ht1 hb1
 have h1:=h.still ht1
 refine wp_seq (df_28 hs hd x15 x16 x17 x23 x24 x25 (cell_at h1.hbx 1) (cell_at hb1 0) (cValue h1.px (by omega) e.k) ?_)
 clear hs hd x15 x16 x17 x23 x24 x25
 intro a2 y2 hs hd x15 x16 x17 x23 x24 x25 x26 x27 ht2
 have h2:=h1.still ht2
 have hb2:=ht2.heap hb1 (by simp)
 refine wp_seq (df_29 hs hd x15 x16 x17 x23 x24 x25 x26 x27 (cell_at h2.hby 1) (cell_at hb2 0) (cValue h2.py (by omega) e.k) ?_)
 clear hs hd x15 x16 x17 x23 x24 x25 x26 x27
 intro a3 y3 hs hd x15 x16 x17 x23 x24 x25 x26 x27 x28 x29 ht3
 have h3:=h2.still ht3
 have hb3:=ht3.heap hb2 (by simp)
 rw [hold] at x26 x27
 rw [← hnew] at x28 x29
 refine wp_seq (df_30 hs hd x15 x16 x17 x23 x24 x25 x26 x27 x28 x29 hlast (opt_ne hon) (cell_at hb3 0) (cell_at hb3 1) (cell_at hb3 2) (cell_at hb3 3) (cell_at hb3 4) ?_)
 clear hs hd x15 x16 x17 x23 x24 x25 x26 x27 x28 x29
 intro a4 hs hd x15 x16 x17 x23 x24 x25 x28 x29
 refine wp_seq (df_32 hs hd x15 x16 x17 x23 x24 x25 x28 x29 (cell_at hb3 0) ?_)
 clear hs hd x15 x16 x17 x23 x24 x25 x28 x29
 intro a5 hs hd x15 x16 x17 x23 x24 x25 x28 x29
 refine wp_seq (df_33 hs hd x15 x16 x17 x23 x24 x25 x28 x29 h3.hbx (cell_at hb3 0) (PP:=fun na nl nc z=>DIv W z bx by_ ra rb (.slice va c.length vc) (.slice ua Y.length uc) (.slice (some ⟨dg,0,none⟩) (diffL X Y).length dc) c Y (diffL X Y)∧PR 0 z (.slice na nl nc) (delL c e.k)∧z.heap[x.heap.size]?=some (chO e.k (e.o.getD 0) (e.n.getD 0) e.o.isSome e.n.isSome)) ?wo ?_)
 case wo =>
  refine (cWithout h3.px (by omega) e.k).mono ?_
  rintro e' z ⟨v',rfl,hr,ht⟩
  obtain ⟨na,nc,rfl⟩:=hr.isSl
  exact ⟨na,_,nc,rfl,ht.heap h3.hbx (by simp),h3.still ht,hr.lower (Nat.zero_le _),ht.heap hb3 (by simp)⟩
 clear hs hd x15 x16 x17 x23 x24 x25 x28 x29
 rintro a6 y6 na nl nc z hs hd x15 x16 x17 x23 x24 x25 x28 x29 ⟨g1,g2,g3⟩ ht6 hb6
 have h6:=g1.set g2 ht6 hb6
 have k6:=ht6.heap g3 (by simp only [List.mem_singleton]; exact other_type g3 g1.hbx (by decide))
 rw [← hsucc] at x23
 have hdl2:=delL_le c e.k
 cases hn:e.n with
 | none =>
  rw [hn] at x29
  refine wp_endB (df_34 hs hd x15 x16 x17 x23 x24 x29 ?_)
  clear hs hd x15 x16 x17 x23 x24 x25 x28 x29
  intro a7 hs hd x15 x16 x17 x23 x24
  exact hK a7 y6 _ _ ⟨hs,hd,x15,x16,x17,x23⟩ x24 h6 (hnxt (by rw [hn]; exact mid_del hm.rise _))
 | some w =>
  rw [hn] at x28 x29
  refine wp_endB (df_35 hs hd x15 x16 x17 x23 x24 x25 x28 x29 h6.hbx (cell_at k6 0) (PP:=fun na' nl' nc' z=>DIv W z bx by_ ra rb (.slice na nl nc) (.slice ua Y.length uc) (.slice (some ⟨dg,0,none⟩) (diffL X Y).length dc) (delL c e.k) Y (diffL X Y)∧PR 0 z (.slice na' nl' nc') (insL (delL c e.k) e.k w)) ?wi ?_)
  case wi =>
   refine (cWith h6.px (by omega) e.k w).mono ?_
   rintro e' z ⟨v',rfl,hr,ht⟩
   obtain ⟨na',nc',rfl⟩:=hr.isSl
   exact ⟨na',_,nc',rfl,ht.heap h6.hbx (by simp),h6.still ht,hr.lower (Nat.zero_le _)⟩
  clear hs hd x15 x16 x17 x23 x24 x25 x28 x29
  rintro a7 y7 na' nl' nc' z' hs hd x15 x16 x17 x23 x24 ⟨g1',g2'⟩ ht7 hb7
  exact hK a7 y7 _ _ ⟨hs,hd,x15,x16,x17,x23⟩ x24 (g1'.set g2' ht7 hb7) (hnxt2 w (by rw [hn]; exact mid_ins hm.rise _ _))
theorem df_loop2 (hX:Rise X) (hY:Rise Y) (hk0:∀ d∈diffL X Y,0≤d.k) (hlX:X.length≤1000) (hlY:Y.length≤1000) (f:DfC bx by_ dv (-1) a) (h:DIv W x bx by_ ra rb xv yv dv X Y (diffL X Y))
  (hK:∀ a' y xv',a'.tmps.size=247→a'.defers=[]→a'.eval (.tmp 15)=.pointer (some ⟨bx,0,none⟩)→a'.eval (.tmp 16)=.pointer (some ⟨by_,0,none⟩)→DIv W y bx by_ ra rb xv' yv dv Y Y (diffL X Y)→K a' y):(atc Tryz.f4.body [1,1,1,1,1,1,1,1,1,1,1,1,1,0]).wp Tryz.prog (Exit.then K Q) a x:=by
 have hdl:=diffL_len X Y
 obtain ⟨da,dc,rfl⟩:=h.cd.form
 refine wp_seq (df_24 f.hs f.hd f.x15 f.x16 f.x17 f.x23 ?_)
 clear f
 intro a1 hs hd x15 x16 x17 x23 x24
 refine wp_block ?_
 refine wp_loop (fun a' y=>∃ i xv' c,i≤(diffL X Y).length∧DfC bx by_ (.slice da (diffL X Y).length dc) (lastK (diffL X Y) i) a'∧a'.eval (.tmp 24)=.int .i64 (i:Nat)∧DIv W y bx by_ ra rb xv' yv (.slice da (diffL X Y).length dc) c Y (diffL X Y)∧MidD X Y i c) (fun a' _=>(diffL X Y).length - (intOf (a'.eval (.tmp 24))).toNat) ⟨0,_,X,Nat.zero_le _,⟨hs,hd,x15,x16,x17,x23⟩,x24,h,MidD.start hX⟩ ?_
 clear hs hd x15 x16 x17 x23 x24 h
 rintro a2 y ⟨i,xv',c,hi2,f,x24,h,hm⟩
 have hmu:(intOf (a2.eval (.tmp 24))).toNat=i:=by rw [x24]; simp [intOf]
 rw [hmu]
 by_cases hlt:i < (diffL X Y).length
 ·refine wp_seq (df_25in f.hs f.hd f.x15 f.x16 f.x17 f.x23 x24 (by omega) ?_)
  clear f x24 hmu
  intro a3 hs hd x15 x16 x17 x23 x24
  refine wp_seq (df_round2 hX hY hk0 hlX hlY hlt ⟨hs,hd,x15,x16,x17,x23⟩ x24 h hm ?_)
  clear hs hd x15 x16 x17 x23 x24 h hm
  intro a4 z xv2 c2 f x24 h hm
  refine wp_endB (df_26 f.hs f.hd f.x15 f.x16 f.x17 f.x23 x24 (by omega) ?_)
  clear f x24
  intro a5 hs hd x15 x16 x17 x23 x24
  refine ⟨⟨i+1,_,c2,by omega,⟨hs,hd,x15,x16,x17,x23⟩,x24,h,hm⟩,?_⟩
  rw [x24]; simp only [intOf]; omega
 ·have e:i=(diffL X Y).length:=by omega
  subst e
  refine wp_seq (df_25out f.hs f.hd f.x15 f.x16 f.x17 f.x23 x24 (by omega) ?_)
  clear f x24 hmu
  intro a3 hs hd x15 x16 x17 x23
  have:=hm.fin hX hY
  subst this
  exact hK a3 y _ hs hd x15 x16 h
end
section
variable {W x:World} {p tb ll lc:Nat} {la:Option Addr} {av bv:Int} {al:Value} {vs:List Vr} {a:Act} {Q:Exit→Act→World→Prop}
set_option maxHeartbeats 1600000 in
theorem df_rest (hp:0 < W.heap.size) (hl:ll≤120) (hS:ChgsAt W la ll) (f:DfF av bv la ll lc p tb al a) (h:ML2 W x p tb 0 al vs)
  (hR:∀ a' y,a'.tmps.size=247→a'.defers=[]→a'.eval (.tmp 6)=.bool true→Turned [] W y→Q .ret a' y):(atc Tryz.f4.body [1,1,1,1,1,1,1]).wp Tryz.prog Q a x:=by
 refine wp_seq (df_loop1 hp hl hS f h ?_)
 clear f h
 intro a1 y al1 vs f h
 have hpv:=h.pos
 have hle:=h.le
 obtain ⟨z0,z1,z2,z3⟩:=turn_ok (by_:=av) h.pos
 obtain ⟨u0,u1,u2,u3⟩:=turn_ok (by_:=bv) h.pos
 obtain ⟨ag,ac,rfl,-⟩:=h.rw_.isAt z3
 have e1:=h.rw_.cell z3
 have e2:=h.rw_.cell u3
 obtain ⟨q,hqe⟩:∃ q,q=vs[turnC av vs.length]:=⟨_,rfl⟩
 obtain ⟨q',hqe'⟩:∃ q,q=vs[turnC bv vs.length]:=⟨_,rfl⟩
 have hq:q∈vs:=by rw [hqe]; exact List.getElem_mem _
 have hq':q'∈vs:=by rw [hqe']; exact List.getElem_mem _
 rw [← hqe] at e1
 rw [← hqe'] at e2
 obtain ⟨va,vc,hva⟩:=(h.mv.row hq).isSl
 obtain ⟨ua,uc,hua⟩:=(h.mv.row hq').isSl
 rw [hva] at e1
 rw [hua] at e2
 have tw:=h.mv.turned
 have hsz:=tw.size
 refine wp_seq (df_r18 (ag:=ag) (al:=vs.length) (ac:=ac) (c1:=turnC av vs.length) (c2:=turnC bv vs.length) (z1:=av.tmod (vs.length:Int)) (z2:=bv.tmod (vs.length:Int)) f.hs f.x10 f.x1 f.x2 (by omega) hpv rfl z0 z1 z2 z3 rfl u0 u1 u2 u3 e1 e2 ?_)
 intro a2 y2 bx by_ hs' hd' hoff x15 x16 hne hbl hbl2 ht2 hb1 hb2
 have hs:=hs'.trans f.hs
 have hd:=hd'.trans f.hd
 have x9:=(hoff 9 (by decide)).trans f.x9
 clear f hs' hd' hoff
 have m2:=h.mv.still ht2
 refine wp_seq (df_19 hs hd x9 x15 x16 (cell_at hb1 0) (cell_at hb2 0) (cDiffMk tb (rootO q.o) (rootO q'.o) y2) (mGiven m2 (by omega) hq hq') ?_)
 clear hs hd x9 x15 x16
 rintro a3 y3 dv hs hd x9 x15 x16 x17 x18 x19 ⟨k3,ht3⟩
 have m3:=m2.still ht3
 refine wp_seq (df_20 hs hd x9 x15 x16 x17 x18 x19 (cell_at (ht3.heap hb1 (by simp)) 0) (cDiffMk tb (rootO q.o) (rootO q.o) y3) (mGiven m3 (by omega) hq hq) ?_)
 clear hs hd x9 x15 x16 x17 x18 x19
 rintro a4 y4 nn hs hd x9 x15 x16 x17 x18 x19 x20 x21 x22 ⟨k4,ht4⟩
 rw [diffL_self] at k4
 obtain ⟨na,nc,rfl⟩:=k4.form
 refine wp_seq (df_21 hs hd x15 x16 x17 x18 x19 x20 x21 x22 ?_)
 clear hs hd x9 x15 x16 x17 x18 x19 x20 x21 x22
 intro a5 hs hd x15 x16 x17
 refine wp_seq (df_23 hs hd x15 x16 x17 ?_)
 clear hs hd x15 x16 x17
 intro a6 hs hd x15 x16 x17 x23
 have t24:=(ht2.trans ht3).trans ht4
 have t34:=ht3.trans ht4
 have h4:DIv W y4 bx by_ (rootO q.o) (rootO q'.o) q.v q'.v dv (prs q.o) (prs q'.o) (diffL (prs q.o) (prs q'.o)) :=
  ⟨by rw [hva]; exact t34.heap hb1 (by simp),by rw [hua]; exact t34.heap hb2 (by simp),((h.mv.row hq).lower (Nat.zero_le _)).keep t24 (by simp),((h.mv.row hq').lower (Nat.zero_le _)).keep t24 (by simp),k3.still ht4,tw.trans t24,hne,Nat.le_trans hsz hbl⟩
 have l1:=h.mv.len hq
 have l2:=h.mv.len hq'
 refine wp_seq (df_loop2 (h.mv.rise hq) (h.mv.rise hq') (fun d hd=>?_) (by omega) (by omega) ⟨hs,hd,x15,x16,x17,x23⟩ h4 ?_)
 ·rcases diffL_key _ _ d hd with ⟨b,hb,he⟩ | ⟨b,hb,he⟩
  ·have:=h.mv.keys hq b hb; omega
  ·have:=h.mv.keys hq' b hb; omega
 clear hs hd x15 x16 x17 x23 h4
 intro a7 y7 xv hs hd x15 x16 h7
 obtain ⟨wa,wc,rfl⟩:=h7.px.isSl
 have hby:=h7.hby
 have hpy:=h7.py
 rw [hua] at hby hpy
 refine wp_endB (df_36 hs hd x15 x16 (cell_at h7.hbx 1) (cell_at hby 1) (cPairs h7.px hpy (by omega)) ?_)
 intro a8 y8 hs hd x6 ht8
 exact hR a8 y8 hs hd x6 (h7.tw.trans ht8)
end
end Go.Proofs.YtloljphbdfjgdaaGreatDoor

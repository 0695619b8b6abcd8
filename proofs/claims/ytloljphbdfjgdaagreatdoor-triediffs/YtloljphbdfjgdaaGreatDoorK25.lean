/- The loop of package trie's rank. (Written by tools/gen/genrank.py.) -/
import Derived.Test.YtloljphbdfjgdaaGreatDoorK24
import Derived.Test.YtloljphbdfjgdaaGreatDoorK03
namespace Go.Proofs.YtloljphbdfjgdaaGreatDoor
open Go.RowKit Go.Shelf
attribute [local go_sem] Oper.semAt_some
def Inn (x:Tr × Int):Prop:=∃ z0 z1 z2 z3 z4:Int,stepC x=[.int .i64 z0,.int .i64 z1,.int .i64 z2,.int .i64 z3,.int .i64 z4,.int .i64 (x.1.cnt:Int),.int .i64 x.2]
theorem way_inn (k:Int):∀ (t:Tr),∀ x∈t.way k,Inn x
 | .leaf _ _ _,x,hx=>by simp [Tr.way] at hx
 | .node h q c l r,x,hx=>by
  simp only [Tr.way] at hx
  have key:∀ sd:Int,Inn (.node h q c l r,sd):=fun sd=>⟨_,_,_,_,_,by simp only [stepC,Tr.cnt_node]; rfl⟩
  split at hx
  ·rcases List.mem_cons.1 hx with rfl | hx
   ·exact key 0
   ·exact way_inn k l x hx
  ·split at hx
   ·rcases List.mem_cons.1 hx with rfl | hx
    ·exact key 1
    ·exact way_inn k r x hx
   ·cases hx
theorem rup_small:∀ (l:List (Tr × Int)) (i:Int × Int),(∀ x∈l,x.1.cnt≤4096)→0≤i.2→i.2≤4096→0≤i.1→i.1≤4096→(0≤(l.foldr Tr.rup i).2∧(l.foldr Tr.rup i).2≤4096)∧-(8192 * (l.length:Int))≤(l.foldr Tr.rup i).1∧(l.foldr Tr.rup i).1≤4096+8192 * (l.length:Int)
 | [],i,_,h1,h2,h3,h4=>by simp; omega
 | x :: l,i,h,h1,h2,h3,h4=>by
  have ih:=rup_small l i (fun y hy=>h y (by simp [hy])) h1 h2 h3 h4
  have hx:=h x (by simp)
  simp only [List.foldr_cons,Tr.rup,List.length_cons]
  generalize l.foldr Tr.rup i=s at ih ⊢
  constructor
  ·omega
  ·split <;> omega
section
variable {x:World} {bb rb bx B:Nat} {v:Value} {l:List (Tr × Int)} {i0:Int × Int} {a:Act} {Q:Exit→Act→World→Prop}
set_option maxRecDepth 100000 in
set_option maxHeartbeats 1600000 in
theorem rank_loop (hs:a.tmps.size=40) (hd:a.defers=[]) (x5:a.eval (.tmp 5)=.pointer (some ⟨bb,0,none⟩)) (x6:a.eval (.tmp 6)=.pointer (some ⟨rb,0,none⟩)) (x23:a.eval (.tmp 23)=.func (.func 108) #[] #[.pointer (some ⟨bx,0,none⟩)])
  (hl:l.length≤40) (h1:bb≠rb) (h2:bb≠bx) (h3:rb≠bx) (h4:∀ g,v.ownBlock=some g→g≠bb∧g≠rb) (hin:∀ y∈l,Inn y∧y.1.cnt≤4096) (hi0:0≤i0.2∧i0.2≤4096∧0≤i0.1∧i0.1≤4096) (hP:PreS bx B v l x) (hb:x.heap[bb]?=some (.cells #[.int .i64 i0.2] 3 (0,0))) (hr:x.heap[rb]?=some (.cells #[.int .i64 i0.1] 3 (0,0)))
  (hK:∀ a' y D,a'.tmps.size=40→a'.defers=[markD D]→a'.eval (.tmp 6)=.pointer (some ⟨rb,0,none⟩)→y.heap[rb]?=some (.cells #[.int .i64 (l.foldr Tr.rup i0).1] 3 (0,0))→Turned [bb,rb] x y→y.heap[D]?=some (.deferred (some []))→x.heap.size≤D→Q .normal a' y):(atc Tryz.f52.body [1,1,1,1,0,1,1]).wp Tryz.prog Q a x:=by
 obtain ⟨cc,hcc,hce⟩:=expand40 hs hd
 have g5:=(hce 5).trans x5
 have g6:=(hce 6).trans x6
 have g23:=(hce 23).trans x23
 clear hce hs hd x5 x6 x23
 subst hcc
 conv=>arg 2; whnf
 simp only [lit40,g5,g6,g23]
 clear g5 g6 g23
 have HK:Hid _:=hK
 have HX:Hid (bb≠rb∧bb≠bx∧rb≠bx∧(∀ g,v.ownBlock=some g→g≠bb∧g≠rb)):=⟨h1,h2,h3,h4⟩
 have HL:Hid (∀ y∈l,Inn y∧y.1.cnt≤4096):=hin
 have HI0:Hid (0≤i0.2∧i0.2≤4096∧0≤i0.1∧i0.1≤4096):=hi0
 have HP:Hid (PreS bx B v l x):=hP
 have HB:Hid (x.heap[bb]?=some (.cells #[.int .i64 i0.2] 3 (0,0))∧x.heap[rb]?=some (.cells #[.int .i64 i0.1] 3 (0,0))):=⟨hb,hr⟩
 clear hK h1 h2 h3 h4 hin hi0 hP hb hr
 refine wp_range (N:=l.length) (xs:=xsS l) (F:=[]) (R:=bx :: v.ownBlock.toList) (Pre:=PreS bx B v l) (G:=[bb,rb])
  (I:=fun j G W=>G=[bb,rb]∧W.heap[bb]?=some (.cells #[.int .i64 ((l.drop (l.length - j)).foldr Tr.rup i0).2] 3 (0,0))∧W.heap[rb]?=some (.cells #[.int .i64 ((l.drop (l.length - j)).foldr Tr.rup i0).1] 3 (0,0)))
  (Ix:=fun _ _ _=>False) rfl (enters_of Tryz.func108 (by kernel_rfl) rfl) (iterS (by omega)) (fun j=>rfl) ?keep ?lt (fun h _=>h.elim) ?keepP ⟨rfl,by simpa using HB.out.1,by simpa using HB.out.2⟩ HP.out ?hG (by simp) ?hR ?round ?done (fun c j W _ h=>h.elim)
 case keep =>
  rintro j G w2 L w3 ⟨rfl,e1,e2⟩ ht hL
  exact ⟨rfl,ht.heap e1 (fun hm=>hL _ hm (by simp)),ht.heap e2 (fun hm=>hL _ hm (by simp))⟩
 case lt =>
  rintro j G w2 ⟨rfl,e1,e2⟩ z hz
  simp only [List.mem_cons,List.not_mem_nil,or_false] at hz
  rcases hz with rfl | rfl
  ·exact lt_of_heap e1
  ·exact lt_of_heap e2
 case keepP =>
  intro w2 w3 L h ht hL
  have hl:=HP.out.lt
  exact h.keep ht (fun hm=>by have:=hL _ hm; omega) (fun g hg hm=>by have:=hL _ hm; have:=hl.2 g hg; omega)
 case hG =>
  intro z hz
  simp only [List.mem_cons,List.not_mem_nil,or_false] at hz
  obtain ⟨q1,q2,q3,q4⟩:=HX.out
  refine ⟨by simp,fun hm=>?_⟩
  rcases List.mem_cons.1 hm with e | hm
  ·rcases hz with rfl | rfl
   ·exact q2 e
   ·exact q3 e
  ·have:=q4 z (Option.mem_toList.1 hm)
   rcases hz with rfl | rfl
   ·exact this.1 rfl
   ·exact this.2 rfl
 case hR =>
  intro z hz
  have hl:=HP.out.lt
  rcases List.mem_cons.1 hz with rfl | hz
  ·exact hl.1
  ·exact hl.2 z (Option.mem_toList.1 hz)
 case round =>
  rintro j hj G W ⟨rfl,e1,e2⟩ hlW hlG
  have hix:l.length - 1 - j < l.length:=by omega
  obtain ⟨y,hy⟩:∃ y,y=l[l.length - 1 - j]:=⟨_,rfl⟩
  obtain ⟨⟨z0,z1,z2,z3,z4,hz⟩,hcn⟩:=HL.out y (by rw [hy]; exact List.getElem_mem _)
  have hdrop:l.drop (l.length - (j+1))=y :: l.drop (l.length - j):=by
   rw [show l.length - (j+1)=l.length - 1 - j by omega,List.drop_eq_getElem_cons hix,hy,show l.length - 1 - j+1=l.length - j by omega]
  have hsm:=rup_small (l.drop (l.length - j)) i0 (fun u hu=>(HL.out u (List.mem_of_mem_drop hu)).2) HI0.out.1 HI0.out.2.1 HI0.out.2.2.1 HI0.out.2.2.2
  have hlen:(((l.drop (l.length - j)).length:Nat):Int)≤40:=by rw [List.length_drop]; omega
  have hnext:(l.drop (l.length - (j+1))).foldr Tr.rup i0=Tr.rup y ((l.drop (l.length - j)).foldr Tr.rup i0):=by rw [hdrop,List.foldr_cons]
  generalize ((l.drop (l.length - j)).length:Int)=ln at *
  generalize (l.drop (l.length - j)).foldr Tr.rup i0=st at *
  have hxs:xsS l j=#[.int .i64 ((l.length - 1 - j:Nat):Int),.agg #[.int .i64 z0,.int .i64 z1,.int .i64 z2,.int .i64 z3,.int .i64 z4,.int .i64 (y.1.cnt:Int),.int .i64 y.2]]:=by
   unfold xsS
   rw [List.getD_eq_getElem?_getD,List.getElem?_eq_getElem hix]
   show #[_,stepA (l[l.length - 1 - j])]=_
   rw [← hy,stepA_of hz]
  rw [hxs]
  obtain ⟨⟨s1,s2⟩,s3,s4⟩:=hsm
  obtain ⟨yt,ys⟩:=y
  obtain ⟨cn,hcne⟩:∃ cn:Int,(yt.cnt:Int)=cn:=⟨_,rfl⟩
  have hcn':0≤cn∧cn≤4096:=by simp only at hcn; omega
  simp only at hcn ⊢
  rw [hcne]
  obtain ⟨sr,sbl⟩:=st
  simp only at s1 s2 s3 s4 e1 e2
  have HE:Hid _:=e1
  have HE2:Hid _:=e2
  have HN:Hid ((l.drop (l.length - (j+1))).foldr Tr.rup i0=(if ys=1 then sr+(cn - sbl) else sr,cn)):=by
   show _=_
   rw [hnext,← hcne]; rfl
  have hlb:¬ x.heap.size+1=bb:=fun e=>hlG (by simp [e])
  have hlr:¬ x.heap.size+1=rb:=fun e=>hlG (by simp [e])
  have nbr:¬ bb=rb:=HX.out.1
  have nrb:¬ rb=bb:=fun e=>HX.out.1 e.symm
  clear hnext hcne hcn hxs hz hy hdrop e1 e2 hlG
  gi_wp2
  refine ⟨(Turned.refl _ _).alloc _,fun W2 h2=>?_⟩
  have hb1:=h2.heap (blk_old HE.out _) (by simpa using fun e=>hlb e.symm)
  have hb2:=h2.heap (blk_old HE2.out _) (by simpa using fun e=>hlr e.symm)
  have hb3:=h2.heap (blk_new W _) (by simp; omega)
  have nb1:¬ bb=W.heap.size:=by have:=lt_of_heap HE.out; omega
  have nb2:¬ rb=W.heap.size:=by have:=lt_of_heap HE2.out; omega
  obtain ⟨b0,bz0⟩:=cells1 hb1
  obtain ⟨r0,rz0⟩:=cells1 hb2
  obtain ⟨⟨t0,t1,t2,t3,t4,t5,t6⟩,-⟩:=cells7 hb3
  have HB1:Hid _:=hb1
  have HB2:Hid _:=hb2
  clear hb1 hb2 hb3 h2
  by_cases hys:ys=1
  ·subst hys
   gi_wp2
   refine ⟨((Turned.refl _ _).set (.inl (by simp)) _ _).set (.inl (by simp)) _ _,[bb,rb],⟨rfl,?_,?_⟩,fun z hz=>.inl hz⟩
   ·rw [HN.out]
    exact blk_set ((blk_other nbr _ _).trans HB1.out) 0 _
   ·rw [HN.out,if_pos trivial]
    exact (blk_other nrb _ _).trans (blk_set HB2.out 0 _)
  ·have hys2:(ys == 1)=false:=by simpa using hys
   have HYS:Hid (¬ ys=1):=hys
   clear hys
   gi_wp2
   refine ⟨(Turned.refl _ _).set (.inl (by simp)) _ _,[bb,rb],⟨rfl,?_,?_⟩,fun z hz=>.inl hz⟩
   ·rw [HN.out]
    exact blk_set HB1.out 0 _
   ·rw [HN.out,if_neg HYS.out]
    exact (blk_other nrb _ _).trans HB2.out
 case done =>
  rintro W G' ⟨rfl,e1,e2⟩ - hPW hT hK
  exact HK.out _ _ _ rfl rfl rfl (by simpa using e2) (by simpa using hT) hK (Nat.le_refl _)
end
end Go.Proofs.YtloljphbdfjgdaaGreatDoor
/- Package trie's Rank, alone, by contract. -/
namespace Go.Proofs.YtloljphbdfjgdaaGreatDoor
open Go.RowKit
theorem Rep.small {s:PSt} {t:Tr} (h:Rep s t) (hw:t.WF) (hO:s.Ok):t.cnt≤4096:=by
 have h1:(t.hs.map plcH).Nodup:=by
  refine List.pairwise_map.2 ((h.nodup hw).imp_of_mem ?_)
  intro a b ha hb hne e
  obtain ⟨u,_,e1,_⟩:=h.mem a ha
  obtain ⟨u',_,e2,_⟩:=h.mem b hb
  exact hne (e1.plc_inj e2 e)
 have h2:∀ x∈t.hs.map plcH,1≤x∧x≤s.n:=fun x hx=>by
  obtain ⟨y,hy,rfl⟩:=List.mem_map.1 hx
  obtain ⟨u,_,e1,_⟩:=h.mem y hy
  exact ⟨e1.plc.1,e1.plc.2.1⟩
 have h3:=few_places h1 h2
 rw [List.length_map] at h3
 have:=t.hs_length
 have:=hO.n2
 omega
theorem way_small {s:PSt} (hO:s.Ok) (k:Int):∀ {t:Tr},Rep s t→t.WF→∀ x∈t.way k,x.1.cnt≤4096
 | .leaf _ _ _,_,_,x,hx=>by simp [Tr.way] at hx
 | .node h q c l r,hr,hw,x,hx=>by
  have h0:=hr.small hw hO
  obtain ⟨_,_,_,_,_,_,_,_,hl,hr'⟩:=id hw
  simp only [Tr.way] at hx
  split at hx
  ·rcases List.mem_cons.1 hx with rfl | hx
   ·exact h0
   ·exact way_small hO k hr.2.1 hl x hx
  ·split at hx
   ·rcases List.mem_cons.1 hx with rfl | hx
    ·exact h0
    ·exact way_small hO k hr.2.2 hr' x hx
   ·cases hx
theorem stop_rep {s:PSt} {k:Int}:∀ {t:Tr},Rep s t→t.WF→(t.stop k).WF∧Rep s (t.stop k)
 | .leaf _ _ _,hr,hw=>⟨hw,hr⟩
 | .node h q c l r,hr,hw=>by
  obtain ⟨_,_,_,_,_,_,_,_,hl,hr'⟩:=id hw
  simp only [Tr.stop]
  split
  ·exact stop_rep hr.2.1 hl
  ·split
   ·exact stop_rep hr.2.2 hr'
   ·exact ⟨hw,hr⟩
set_option maxRecDepth 100000 in
set_option maxHeartbeats 1600000 in
theorem cDRankL {w:World} {B:Nat} {va:Option Addr} {vc:Nat} {l:List (Tr × Int)} {h a b kk vv k:Int} (hl:l.length≤40) (hin:∀ y∈l,Inn y∧y.1.cnt≤4096) (hsr:SR B w (.slice va l.length vc) l) :
  Calls Tryz.prog 52 #[.agg #[.slice va l.length vc,.int .i64 h,.int .i64 a,.int .i64 b,.iface 128 (.agg #[.int .i64 kk,.int .i64 vv])],.int .i64 k] w fun e w'=>e=.returned (.int .i64 (l.foldr Tr.rup (if kk < k then 1 else 0,1)).1)∧Turned [] w w':=by
 have mm:=m_leaf_count
 have mm2:=m_leaf_span
 have HF:=fld_span
 have HL:Hid (∀ y∈l,Inn y∧y.1.cnt≤4096):=hin
 have HS:Hid (SR B w (.slice va l.length vc) l):=hsr
 have hvlt:∀ g,(Value.slice va l.length vc).ownBlock=some g→g < w.heap.size:=fun g hg=>(hsr.fresh hg).2
 have HV:Hid _:=hvlt
 clear hin hsr hvlt
 refine calls_marks Tryz.func52 rfl ?_
 simp only [Tryz.ntmps52,List.size_toArray,List.length_cons,List.length_nil,Nat.reduceAdd,Nat.reduceSub,Array.replicate_succ,Array.replicate_zero,List.push_toArray,List.append_toArray,List.nil_append,List.cons_append]
 by_cases hk:kk < k
 ·
  rw [if_pos hk]
  have hdk:decide (kk < k)=true:=decide_eq_true hk
  clear hk
  go_wp2_with (first
   | (go_at_call 139; refine (cLeafCount _ _ _).mono ?_; rintro e w1 ⟨rfl,ht1⟩; obtain ⟨hb,ht⟩:=one_cells ht1; obtain ⟨⟨c0,c1,c2,c3,c4⟩,-⟩:=cells5 hb; have HB:Hid _:=hb; have HT1:Hid (Turned [] w w1):=ht; have hsz:w.heap.size < w1.heap.size:=lt_of_heap hb; clear ht1 ht hb)
   | (go_at_call 140; refine (cLeafSpan _ _ _).mono ?_; rintro e w2 ⟨rfl,ht2⟩; have HT2:Hid (Turned [] w w2):=(((HT1.out.alloc _).alloc _).trans ht2); obtain ⟨hb1,hb2,ht⟩:=two_cells ht2; obtain ⟨d0,y0⟩:=cells1 hb1; obtain ⟨r0,z0⟩:=cells1 hb2; obtain ⟨⟨e0,e1,e2,e3,e4⟩,-⟩:=cells5 (ht.heap HB.out (by simp)); have HB1:Hid _:=hb1; have HB2:Hid _:=hb2; have hsz2:w1.heap.size+1 < w2.heap.size:=lt_of_heap hb2; clear ht2 ht hb1 hb2)
   | (go_at_call 79; refine (cBackS _ _ _ _).mono ?_; rintro e w3 ⟨rfl,rfl⟩))
  have hw0:w.heap.size < w1.heap.size:=hsz
  refine rank_loop (bb:=w1.heap.size) (rb:=w1.heap.size+1) (bx:=w2.heap.size) (v:=.slice va l.length vc) (i0:=(1,1)) (l:=l) (B:=B) rfl rfl rfl rfl rfl hl (by omega) (by omega) (by omega) (fun g hg=>by have:=HV.out g hg; omega) HL.out (by simp; try omega) ⟨by have:=blk_new (w2.setCell ⟨w1.heap.size+1,0,none⟩ (.int .i64 1)) (.cells #[.slice va l.length vc] 130 (0,0)); simpa [World.setCell] using this,(HS.out.still HT2.out).keep (F:=[w1.heap.size+1]) (((Turned.refl [w1.heap.size+1] w2).set (.inl (by simp)) _ _).alloc _) (fun g hg=>by have:=HV.out g hg; simp; omega)⟩ (blk_old ((blk_other (by omega) _ _).trans HB1.out) _) (blk_old (blk_set HB2.out 0 _) _) ?_
  intro a' y D hs hd x6 hr ht hK hDle
  have hDw:w.heap.size≤D:=by simp [World.setCell] at hDle; omega
  obtain ⟨cc,hcc,hce⟩:=expand40d hs hd
  have g6:=(hce 6).trans x6
  clear hce hs hd x6 hDle
  subst hcc
  simp only [lit40,g6]
  obtain ⟨q0,-⟩:=cells1 hr
  have HTy:Hid (Turned [] w y):=Turned.inner (l:=[]) ((HT2.out.set (.inr (by have:=HT1.out.size; omega)) _ _).alloc _) ht (by simp <;> omega)
  have HKD:Hid _:=hK
  have HDW:Hid _:=hDw
  clear hr ht hK hDw g6
  go_wp2
  refine marks_ret HKD.out (by simp [results,Tryz.results52,go_sem]) rfl ⟨rfl,HTy.out.inner (turned_put (l:=D) _) (by simp; exact HDW.out)⟩
 ·
  rw [if_neg hk]
  have hdk:decide (kk < k)=false:=decide_eq_false hk
  clear hk
  go_wp2_with (first
   | (go_at_call 139; refine (cLeafCount _ _ _).mono ?_; rintro e w1 ⟨rfl,ht1⟩; obtain ⟨hb,ht⟩:=one_cells ht1; obtain ⟨⟨c0,c1,c2,c3,c4⟩,-⟩:=cells5 hb; have HB:Hid _:=hb; have HT1:Hid (Turned [] w w1):=ht; have hsz:w.heap.size < w1.heap.size:=lt_of_heap hb; clear ht1 ht hb)
   | (go_at_call 140; refine (cLeafSpan _ _ _).mono ?_; rintro e w2 ⟨rfl,ht2⟩; have HT2:Hid (Turned [] w w2):=(((HT1.out.alloc _).alloc _).trans ht2); obtain ⟨hb1,hb2,ht⟩:=two_cells ht2; obtain ⟨d0,y0⟩:=cells1 hb1; obtain ⟨r0,z0⟩:=cells1 hb2; obtain ⟨⟨e0,e1,e2,e3,e4⟩,-⟩:=cells5 (ht.heap HB.out (by simp)); have HB1:Hid _:=hb1; have HB2:Hid _:=hb2; have hsz2:w1.heap.size+1 < w2.heap.size:=lt_of_heap hb2; clear ht2 ht hb1 hb2)
   | (go_at_call 79; refine (cBackS _ _ _ _).mono ?_; rintro e w3 ⟨rfl,rfl⟩))
  have hw0:w.heap.size < w1.heap.size:=hsz
  refine rank_loop (bb:=w1.heap.size) (rb:=w1.heap.size+1) (bx:=w2.heap.size) (v:=.slice va l.length vc) (i0:=(0,1)) (l:=l) (B:=B) rfl rfl rfl rfl rfl hl (by omega) (by omega) (by omega) (fun g hg=>by have:=HV.out g hg; omega) HL.out (by simp; try omega) ⟨blk_new _ _,(HS.out.still HT2.out).keep (F:=[w1.heap.size+1]) ((Turned.refl [w1.heap.size+1] w2).alloc _) (fun g hg=>by have:=HV.out g hg; simp; omega)⟩ (blk_old HB1.out _) (blk_old HB2.out _) ?_
  intro a' y D hs hd x6 hr ht hK hDle
  have hDw:w.heap.size≤D:=by simp at hDle; omega
  obtain ⟨cc,hcc,hce⟩:=expand40d hs hd
  have g6:=(hce 6).trans x6
  clear hce hs hd x6 hDle
  subst hcc
  simp only [lit40,g6]
  obtain ⟨q0,-⟩:=cells1 hr
  have HTy:Hid (Turned [] w y):=Turned.inner (l:=[]) (HT2.out.alloc _) ht (by simp <;> omega)
  have HKD:Hid _:=hK
  have HDW:Hid _:=hDw
  clear hr ht hK hDw g6
  go_wp2
  refine marks_ret HKD.out (by simp [results,Tryz.results52,go_sem]) rfl ⟨rfl,HTy.out.inner (turned_put (l:=D) _) (by simp; exact HDW.out)⟩
set_option maxRecDepth 100000 in
set_option maxHeartbeats 1600000 in
theorem cDRankI {w:World} {B:Nat} {va:Option Addr} {vc:Nat} {l:List (Tr × Int)} {h a b f lh rh cn k:Int} {q:Nat} (hl:l.length≤40) (hin:∀ y∈l,Inn y∧y.1.cnt≤4096) (h0:0≤f) (h1:f+2 * 2 ^ q≤4294967296) (h3:q≤31) (hc0:0≤cn) (hc1:cn≤4096) (hsr:SR B w (.slice va l.length vc) l) :
  Calls Tryz.prog 52 #[.agg #[.slice va l.length vc,.int .i64 h,.int .i64 a,.int .i64 b,.iface 151 (.agg #[.int .i64 f,.int .i64 q,.int .i64 lh,.int .i64 rh,.int .i64 cn])],.int .i64 k] w fun e w'=>e=.returned (.int .i64 (l.foldr Tr.rup (if f+2 * 2 ^ q - 1 < k then cn else 0,cn)).1)∧Turned [] w w':=by
 have mm:=m_inner_count
 have mm2:=m_inner_span
 have HF:=fld_span
 have HL:Hid (∀ y∈l,Inn y∧y.1.cnt≤4096):=hin
 have HS:Hid (SR B w (.slice va l.length vc) l):=hsr
 have hvlt:∀ g,(Value.slice va l.length vc).ownBlock=some g→g < w.heap.size:=fun g hg=>(hsr.fresh hg).2
 have HV:Hid _:=hvlt
 clear hin hsr hvlt
 have HSp:Hid (∀ x,Calls Tryz.prog 76 #[.agg #[.int .i64 f,.int .i64 q,.int .i64 lh,.int .i64 rh,.int .i64 cn]] x fun e w'=>e=.returned (.agg #[.int .i64 f,.int .i64 (f+2 * 2 ^ q - 1)])∧Turned [] x w'):=cInnerSpan _ _ _ h0 h1 h3
 generalize f+2 * 2 ^ q - 1=X at *
 clear h0 h1 h3
 refine calls_marks Tryz.func52 rfl ?_
 simp only [Tryz.ntmps52,List.size_toArray,List.length_cons,List.length_nil,Nat.reduceAdd,Nat.reduceSub,Array.replicate_succ,Array.replicate_zero,List.push_toArray,List.append_toArray,List.nil_append,List.cons_append]
 by_cases hk:X < k
 ·
  rw [if_pos hk]
  have hdk:decide (X < k)=true:=decide_eq_true hk
  clear hk
  go_wp2_with (first
   | (go_at_call 141; refine (cInnerCount _ _ _ _ _ _).mono ?_; rintro e w1 ⟨rfl,ht1⟩; obtain ⟨hb,ht⟩:=one_cells ht1; obtain ⟨⟨c0,c1,c2,c3,c4⟩,-⟩:=cells5 hb; have HB:Hid _:=hb; have HT1:Hid (Turned [] w w1):=ht; have hsz:w.heap.size < w1.heap.size:=lt_of_heap hb; clear ht1 ht hb)
   | (go_at_call 76; refine (HSp.out _).mono ?_; rintro e w2 ⟨rfl,ht2⟩; have HT2:Hid (Turned [] w w2):=(((HT1.out.alloc _).alloc _).trans ht2); obtain ⟨hb1,hb2,ht⟩:=two_cells ht2; obtain ⟨d0,y0⟩:=cells1 hb1; obtain ⟨r0,z0⟩:=cells1 hb2; obtain ⟨⟨e0,e1,e2,e3,e4⟩,-⟩:=cells5 (ht.heap HB.out (by simp)); have HB1:Hid _:=hb1; have HB2:Hid _:=hb2; have hsz2:w1.heap.size+1 < w2.heap.size:=lt_of_heap hb2; clear ht2 ht hb1 hb2)
   | (go_at_call 79; refine (cBackS _ _ _ _).mono ?_; rintro e w3 ⟨rfl,rfl⟩))
  have hw0:w.heap.size < w1.heap.size:=hsz
  refine rank_loop (bb:=w1.heap.size) (rb:=w1.heap.size+1) (bx:=w2.heap.size) (v:=.slice va l.length vc) (i0:=(cn,cn)) (l:=l) (B:=B) rfl rfl rfl rfl rfl hl (by omega) (by omega) (by omega) (fun g hg=>by have:=HV.out g hg; omega) HL.out (by simp; try omega) ⟨by have:=blk_new (w2.setCell ⟨w1.heap.size+1,0,none⟩ (.int .i64 cn)) (.cells #[.slice va l.length vc] 130 (0,0)); simpa [World.setCell] using this,(HS.out.still HT2.out).keep (F:=[w1.heap.size+1]) (((Turned.refl [w1.heap.size+1] w2).set (.inl (by simp)) _ _).alloc _) (fun g hg=>by have:=HV.out g hg; simp; omega)⟩ (blk_old ((blk_other (by omega) _ _).trans HB1.out) _) (blk_old (blk_set HB2.out 0 _) _) ?_
  intro a' y D hs hd x6 hr ht hK hDle
  have hDw:w.heap.size≤D:=by simp [World.setCell] at hDle; omega
  obtain ⟨cc,hcc,hce⟩:=expand40d hs hd
  have g6:=(hce 6).trans x6
  clear hce hs hd x6 hDle
  subst hcc
  simp only [lit40,g6]
  obtain ⟨q0,-⟩:=cells1 hr
  have HTy:Hid (Turned [] w y):=Turned.inner (l:=[]) ((HT2.out.set (.inr (by have:=HT1.out.size; omega)) _ _).alloc _) ht (by simp <;> omega)
  have HKD:Hid _:=hK
  have HDW:Hid _:=hDw
  clear hr ht hK hDw g6
  go_wp2
  refine marks_ret HKD.out (by simp [results,Tryz.results52,go_sem]) rfl ⟨rfl,HTy.out.inner (turned_put (l:=D) _) (by simp; exact HDW.out)⟩
 ·
  rw [if_neg hk]
  have hdk:decide (X < k)=false:=decide_eq_false hk
  clear hk
  go_wp2_with (first
   | (go_at_call 141; refine (cInnerCount _ _ _ _ _ _).mono ?_; rintro e w1 ⟨rfl,ht1⟩; obtain ⟨hb,ht⟩:=one_cells ht1; obtain ⟨⟨c0,c1,c2,c3,c4⟩,-⟩:=cells5 hb; have HB:Hid _:=hb; have HT1:Hid (Turned [] w w1):=ht; have hsz:w.heap.size < w1.heap.size:=lt_of_heap hb; clear ht1 ht hb)
   | (go_at_call 76; refine (HSp.out _).mono ?_; rintro e w2 ⟨rfl,ht2⟩; have HT2:Hid (Turned [] w w2):=(((HT1.out.alloc _).alloc _).trans ht2); obtain ⟨hb1,hb2,ht⟩:=two_cells ht2; obtain ⟨d0,y0⟩:=cells1 hb1; obtain ⟨r0,z0⟩:=cells1 hb2; obtain ⟨⟨e0,e1,e2,e3,e4⟩,-⟩:=cells5 (ht.heap HB.out (by simp)); have HB1:Hid _:=hb1; have HB2:Hid _:=hb2; have hsz2:w1.heap.size+1 < w2.heap.size:=lt_of_heap hb2; clear ht2 ht hb1 hb2)
   | (go_at_call 79; refine (cBackS _ _ _ _).mono ?_; rintro e w3 ⟨rfl,rfl⟩))
  have hw0:w.heap.size < w1.heap.size:=hsz
  refine rank_loop (bb:=w1.heap.size) (rb:=w1.heap.size+1) (bx:=w2.heap.size) (v:=.slice va l.length vc) (i0:=(0,cn)) (l:=l) (B:=B) rfl rfl rfl rfl rfl hl (by omega) (by omega) (by omega) (fun g hg=>by have:=HV.out g hg; omega) HL.out (by simp; try omega) ⟨blk_new _ _,(HS.out.still HT2.out).keep (F:=[w1.heap.size+1]) ((Turned.refl [w1.heap.size+1] w2).alloc _) (fun g hg=>by have:=HV.out g hg; simp; omega)⟩ (blk_old HB1.out _) (blk_old HB2.out _) ?_
  intro a' y D hs hd x6 hr ht hK hDle
  have hDw:w.heap.size≤D:=by simp at hDle; omega
  obtain ⟨cc,hcc,hce⟩:=expand40d hs hd
  have g6:=(hce 6).trans x6
  clear hce hs hd x6 hDle
  subst hcc
  simp only [lit40,g6]
  obtain ⟨q0,-⟩:=cells1 hr
  have HTy:Hid (Turned [] w y):=Turned.inner (l:=[]) (HT2.out.alloc _) ht (by simp <;> omega)
  have HKD:Hid _:=hK
  have HDW:Hid _:=hDw
  clear hr ht hK hDw g6
  go_wp2
  refine marks_ret HKD.out (by simp [results,Tryz.results52,go_sem]) rfl ⟨rfl,HTy.out.inner (turned_put (l:=D) _) (by simp; exact HDW.out)⟩
theorem cDRank {w:World} {B:Nat} {v:Value} {t:Tr} {s:PSt} {a b k:Int} (hc:Rep s t) (hw:t.WF) (hO:s.Ok) (hsr:SR B w v (t.way k)) :
  Calls Tryz.prog 52 #[.agg #[v,.int .i64 (t.stop k).hd,.int .i64 a,.int .i64 b,nv (t.stop k)],.int .i64 k] w fun e w'=>e=.returned (.int .i64 (rankL t.pairs k:Nat))∧Turned [] w w':=by
 have hl:(t.way k).length≤40:=by have:=Tr.way_len k hw; have:=hw.deep32; omega
 have hin:∀ y∈t.way k,Inn y∧y.1.cnt≤4096:=fun y hy=>⟨way_inn k t y hy,way_small hO k hc hw y hy⟩
 have hrk:=Tr.rank_way k hw
 obtain ⟨hsw,hsr2⟩:=stop_rep (k:=k) hc hw
 have hsm:=hsr2.small hsw hO
 obtain ⟨va,vc,rfl⟩:=hsr.form
 generalize t.stop k=u at *
 cases u with
 | leaf h kk vv =>
  refine (cDRankL hl hin hsr).mono ?_
  rintro e w' ⟨rfl,ht⟩
  refine ⟨?_,ht⟩
  have:Tr.rini k (.leaf h kk vv)=(if kk < k then 1 else 0,1):=rfl
  rw [← this,hrk]
 | node h q c l r =>
  obtain ⟨g1,g2,g3,g4,g5,g6,g7,g8,g9,g10⟩:=id hsw
  rw [Tr.cnt_node] at hsm
  refine (cDRankI hl hin g2 g3 g1 (by omega) (by omega) hsr).mono ?_
  rintro e w' ⟨rfl,ht⟩
  refine ⟨?_,ht⟩
  have:Tr.rini k (.node h q c l r)=(if c+2 * 2 ^ q - 1 < k then ((l.cnt+r.cnt:Nat):Int) else 0,((l.cnt+r.cnt:Nat):Int)):=by
   unfold Tr.rini; rw [Tr.cnt_node]; rfl
  rw [← this,hrk]
set_option maxRecDepth 100000 in
set_option maxHeartbeats 1600000 in
theorem cRank {w:World} {tb p:Nat} {F:List Nat} {s:PSt} {o:Option Tr} {k:Int} (hT:TrieB w tb p) (hA:PoolAt w p F s) (hO:s.Ok) (hH:Holds s o) (h0:0≤k) (h1:k≤4294967295) :
  Calls Tryz.prog 23 #[pt tb,.pointer none,.int .i64 (rootO o),.int .i64 k] w fun e w'=>e=.returned (.tuple #[.int .i64 (rankL (prs o) k:Nat),.int .i64 0])∧Turned [] w w':=by
 have HK:Hid (∀ x,Calls Tryz.prog 41 #[.int .i64 k] x fun e w'=>e=.returned (.bool true)∧Turned [] x w'):=cIsKey k (decide_eq_true ⟨h0,h1⟩)
 cases o with
 | none =>
  show Calls _ _ #[_,_,.int .i64 0,_] _ fun e w'=>e=.returned (.tuple #[.int .i64 0,.int .i64 0])∧Turned [] w w'
  go_enter Tryz.func23,Tryz.ntmps23
  go_wp2_with (first
   | (go_at_call 41; refine (HK.out _).mono ?_; rintro e w1 ⟨rfl,ht1⟩; have HT1:Hid (Turned [] w w1):=ht1; clear ht1)
   | (go_at_call 42; refine (cIdle _ _).mono ?_; rintro e w2 ⟨rfl,rfl⟩))
  go_ret2
  exact ⟨rfl,HT1.out⟩
 | some t =>
  have hw:=hH.wf t rfl
  have hr:=hH.rep t rfl
  have hpos:=hr.top.pos
  have hz:(t.hd == 0)=false:=by simp; omega
  have HD:Hid (∀ x,Turned [] w x→Calls Tryz.prog 45 #[pt tb,.pointer none,.int .i64 t.hd,.int .i64 k] x (DownR x k t)):=fun x hx=>cDown (hT.still hx) (hA.still hx) hO hr hw h0 h1
  show Calls _ _ #[_,_,.int .i64 t.hd,_] _ fun e w'=>e=.returned (.tuple #[.int .i64 (rankL t.pairs k:Nat),.int .i64 0])∧Turned [] w w'
  obtain ⟨T,nvv,hN⟩:=nv_form (t.stop k)
  have HF:Hid (∀ (B:Nat) (v:Value) (a b:Int) (x:World),SR B x v (t.way k)→Calls Tryz.prog 52 #[.agg #[v,.int .i64 (t.stop k).hd,.int .i64 a,.int .i64 b,.iface T nvv],.int .i64 k] x fun e w'=>e=.returned (.int .i64 (rankL t.pairs k:Nat))∧Turned [] x w'):=fun B v a b x hx=>by rw [← hN]; exact cDRank hr hw hO hx
  generalize (rankL t.pairs k:Int)=rk at *
  have HN:Hid _:=hN
  generalize t.hd=th at *
  clear hr hw hpos hT hA hO hH h0 h1 hN
  go_enter Tryz.func23,Tryz.ntmps23
  go_wp2_with (first
   | (go_at_call 41; refine (HK.out _).mono ?_; rintro e w1 ⟨rfl,ht1⟩; have HT1:Hid (Turned [] w w1):=ht1; clear ht1)
   | (go_at_call 45; refine (HD.out _ HT1.out).mono ?_; rintro e w2 ⟨v,a,b,rfl,ht2,hsr,-,-⟩; obtain ⟨va,vc,rfl⟩:=hsr.form; rw [HN.out]; have HSR:Hid _:=hsr; have HT2:Hid (Turned [] w w2):=HT1.out.trans ht2; clear ht2 hsr)
   | (go_at_call 52; refine (HF.out _ _ _ _ _ (HSR.out.still ((Turned.refl [] _).alloc _))).mono ?_; rintro e w3 ⟨rfl,ht3⟩; have HT3:Hid (Turned [] w w3):=(HT2.out.alloc _).trans ht3; clear ht3))
  go_ret2
  exact ⟨rfl,HT3.out⟩
end Go.Proofs.YtloljphbdfjgdaaGreatDoor
/- The least key that isn't below one, by the way down: nothing of the program. -/
namespace Go.Proofs.YtloljphbdfjgdaaGreatDoor
open Go.RowKit
namespace Tr
def lz:List (Tr × Int)→Option Tr
 | []=>none
 | x :: l=>match lz l with
  | some y=>some y
  | none=>if x.2=0 then some x.1 else none
def rgt:Tr→Tr
 | leaf h k v=>leaf h k v
 | node _ _ _ _ r=>r
def frm (k:Int) (t:Tr):Option Tr:=if k≤(t.stop k).lo then some (t.stop k) else (lz (t.way k)).map rgt
theorem lz_cons0 (t:Tr) (l:List (Tr × Int)):(lz ((t,0) :: l))=some ((lz l).getD t):=by
 simp only [lz]
 cases lz l <;> simp
theorem lz_cons1 (t:Tr) (l:List (Tr × Int)):(lz ((t,1) :: l))=lz l:=by
 simp only [lz]
 cases lz l <;> simp
theorem lz_drop {l:List (Tr × Int)} {m:Nat} {y:Tr} (h:lz (l.drop m)=some y):lz l=some y:=by
 induction l generalizing m with
 | nil=>simp [lz] at h
 | cons x l ih =>
  cases m with
  | zero=>exact h
  | succ m =>
   have:=ih h
   simp [lz,this]
theorem find_app_some {l m:List (Int × Int)} {f:Int × Int→Bool} (h:(l.find? f).isSome):(l ++ m).find? f=l.find? f:=by
 rw [List.find?_append]; cases hl:l.find? f <;> simp_all
theorem find_app_none {l m:List (Int × Int)} {k:Int} (h:∀ x∈l,x.1 < k):(l ++ m).find? (fun x=>decide (k≤x.1))=m.find? (fun x=>decide (k≤x.1)):=by
 rw [List.find?_append,List.find?_eq_none.2 (fun x hx=>by have:=h x hx; simp; omega)]; rfl
theorem find_head {l:List (Int × Int)} {k:Int} (h:∀ x∈l,k≤x.1):l.find? (fun x=>decide (k≤x.1))=l.head?:=by
 cases l with
 | nil=>rfl
 | cons x l=>have:=h x (by simp); simp [this]
theorem frm_left {k:Int} {h:Int} {q:Nat} {c:Int} {l r:Tr} (a1:c≤k∧k < c+2 ^ q):frm k (node h q c l r)=some ((frm k l).getD r):=by
 unfold frm
 rw [show way k (node h q c l r)=(node h q c l r,0) :: way k l by simp only [way]; rw [if_pos a1],show stop k (node h q c l r)=stop k l by simp only [stop]; rw [if_pos a1],lz_cons0]
 split
 ·rfl
 ·cases lz (way k l) <;> rfl
theorem frm_right {k:Int} {h:Int} {q:Nat} {c:Int} {l r:Tr} (a1:¬ (c≤k∧k < c+2 ^ q)) (a2:c+2 ^ q≤k∧k < c+2 * 2 ^ q):frm k (node h q c l r)=frm k r:=by
 unfold frm
 rw [show way k (node h q c l r)=(node h q c l r,1) :: way k r by simp only [way]; rw [if_neg a1,if_pos a2],show stop k (node h q c l r)=stop k r by simp only [stop]; rw [if_neg a1,if_pos a2],lz_cons1]
theorem frm_ok (k:Int):∀ {t:Tr},t.WF→(∀ u,frm k t=some u→u.pairs.head?=t.pairs.find? (fun x=>decide (k≤x.1)))∧(frm k t=none→∀ x∈t.pairs,x.1 < k)
 | leaf h k' v,_=>by
  unfold frm
  show (∀ u,(if k≤k' then some (leaf h k' v) else none)=some u→_)∧((if k≤k' then some (leaf h k' v) else none)=none→_)
  by_cases e:k≤k'
  ·rw [if_pos e]
   refine ⟨fun u hu=>?_,fun hn=>by cases hn⟩
   cases hu
   simp [pairs,e]
  ·rw [if_neg e]
   refine ⟨fun u hu=>(by cases hu),fun _ x hx=>?_⟩
   simp [pairs] at hx; subst hx; simp; omega
 | node h q c l r,hw=>by
  obtain ⟨_,_,_,_,h5,h6,h7,h8,hl,hr⟩:=id hw
  have hp:=pow_pos' q
  have ihl:=frm_ok k hl
  have ihr:=frm_ok k hr
  have hml:∀ x∈l.pairs,c≤x.1∧x.1 < c+2 ^ q:=fun x hx=>by have:=hl.mem x hx; omega
  have hmr:∀ x∈r.pairs,c+2 ^ q≤x.1∧x.1 < c+2 * 2 ^ q:=fun x hx=>by have:=hr.mem x hx; omega
  show (∀ u,frm k (node h q c l r)=some u→u.pairs.head?=(l.pairs ++ r.pairs).find? _)∧(_→∀ x∈l.pairs ++ r.pairs,x.1 < k)
  by_cases a1:c≤k∧k < c+2 ^ q
  ·rw [frm_left a1]
   refine ⟨fun u hu=>?_,fun hn=>by cases hn⟩
   cases hf:frm k l with
   | none =>
    rw [hf] at hu
    cases hu
    rw [find_app_none (ihl.2 hf),find_head (fun x hx=>by have:=hmr x hx; omega)]
    rfl
   | some y =>
    rw [hf] at hu
    cases hu
    have:=ihl.1 y hf
    rw [find_app_some,← this]
    ·rfl
    ·rw [← this]
     cases hy:y.pairs with
     | nil=>exact absurd hy y.pairs_ne
     | cons _ _=>rfl
  ·by_cases a2:c+2 ^ q≤k∧k < c+2 * 2 ^ q
   ·rw [frm_right a1 a2,find_app_none (fun x hx=>by have:=hml x hx; omega)]
    refine ⟨ihr.1,fun hn x hx=>?_⟩
    rcases List.mem_append.1 hx with hx | hx
    ·have:=hml x hx; omega
    ·exact ihr.2 hn x hx
   ·have e1:frm k (node h q c l r)=if k≤c then some (node h q c l r) else none:=by
     unfold frm
     rw [show way k (node h q c l r)=[] by simp only [way]; rw [if_neg a1,if_neg a2],show stop k (node h q c l r)=node h q c l r by simp only [stop]; rw [if_neg a1,if_neg a2]]
     rfl
    rw [e1]
    by_cases e:k≤c
    ·rw [if_pos e]
     refine ⟨fun u hu=>?_,fun hn=>by cases hn⟩
     cases hu
     rw [find_head (fun x hx=>by rcases List.mem_append.1 hx with hx | hx; have:=hml x hx; omega; have:=hmr x hx; omega)]
     rfl
    ·rw [if_neg e]
     refine ⟨fun u hu=>(by cases hu),fun _ x hx=>?_⟩
     rcases List.mem_append.1 hx with hx | hx
     ·have:=hml x hx; omega
     ·have:=hmr x hx; omega
theorem way_wf (k:Int):∀ {t:Tr},t.WF→∀ x∈t.way k,(∃ h q c l r,x.1=node h q c l r)∧x.1.WF
 | leaf _ _ _,_,x,hx=>by simp [way] at hx
 | node h q c l r,hw,x,hx=>by
  obtain ⟨_,_,_,_,_,_,_,_,hl,hr⟩:=id hw
  simp only [way] at hx
  split at hx
  ·rcases List.mem_cons.1 hx with rfl | hx
   ·exact ⟨⟨_,_,_,_,_,rfl⟩,hw⟩
   ·exact way_wf k hl x hx
  ·split at hx
   ·rcases List.mem_cons.1 hx with rfl | hx
    ·exact ⟨⟨_,_,_,_,_,rfl⟩,hw⟩
    ·exact way_wf k hr x hx
   ·cases hx
end Tr
theorem way_rep {s:PSt} (k:Int):∀ {t:Tr},Rep s t→∀ x∈t.way k,Rep s x.1
 | .leaf _ _ _,_,x,hx=>by simp [Tr.way] at hx
 | .node h q c l r,hr,x,hx=>by
  simp only [Tr.way] at hx
  split at hx
  ·rcases List.mem_cons.1 hx with rfl | hx
   ·exact hr
   ·exact way_rep k hr.2.1 x hx
  ·split at hx
   ·rcases List.mem_cons.1 hx with rfl | hx
    ·exact hr
    ·exact way_rep k hr.2.2 x hx
   ·cases hx
theorem lz_mem:∀ {l:List (Tr × Int)} {y:Tr},Tr.lz l=some y→∃ x∈l,x.1=y
 | [],y,h=>by simp [Tr.lz] at h
 | x :: l,y,h=>by
  simp only [Tr.lz] at h
  cases hl:Tr.lz l with
  | some z =>
   rw [hl] at h
   cases h
   obtain ⟨x',hx,e⟩:=lz_mem hl
   exact ⟨x',by simp [hx],e⟩
  | none =>
   rw [hl] at h
   simp only at h
   split at h
   ·cases h; exact ⟨x,by simp,rfl⟩
   ·cases h
end Go.Proofs.YtloljphbdfjgdaaGreatDoor
/- A frame, spelled out. -/
namespace Go.Proofs.YtloljphbdfjgdaaGreatDoor
open Go.RowKit
def lit29 (c:Nat→Value):Array Value:=#[c 0,c 1,c 2,c 3,c 4,c 5,c 6,c 7,c 8,c 9,c 10,c 11,c 12,c 13,c 14,c 15,c 16,c 17,c 18,c 19,c 20,c 21,c 22,c 23,c 24,c 25,c 26,c 27,c 28]
set_option maxRecDepth 100000 in
theorem lit29_eq (c:Nat→Value):lit29 c=((List.range 29).map c).toArray:=by rfl
theorem expand29 {a:Act} (hs:a.tmps.size=29) (hd:a.defers=[]):∃ c:Nat→Value,a=⟨lit29 c,[]⟩∧∀ s,c s=a.eval (.tmp s):=by
 refine ⟨fun s=>a.tmps.getD s undef,?_,fun s=>rfl⟩
 obtain ⟨t,d⟩:=a
 simp only at hs hd
 subst hd
 congr 1
 rw [lit29_eq]
 refine Array.ext (by simp [hs]) fun i h1 h2=>?_
 simp [Array.getD,h1]
theorem expand29d {a:Act} {ds:List Deferred} (hs:a.tmps.size=29) (hd:a.defers=ds):∃ c:Nat→Value,a=⟨lit29 c,ds⟩∧∀ s,c s=a.eval (.tmp s):=by
 refine ⟨fun s=>a.tmps.getD s undef,?_,fun s=>rfl⟩
 obtain ⟨t,d⟩:=a
 simp only at hs hd
 subst hd
 congr 1
 rw [lit29_eq]
 refine Array.ext (by simp [hs]) fun i h1 h2=>?_
 simp [Array.getD,h1]
end Go.Proofs.YtloljphbdfjgdaaGreatDoor
/- The loop of package trie's from. (Written by tools/gen/genfrom.py.) -/
namespace Go.Proofs.YtloljphbdfjgdaaGreatDoor
open Go.RowKit Go.Shelf
attribute [local go_sem] Oper.semAt_some
section
variable {x:World} {rb kb bx B:Nat} {v:Value} {l:List (Tr × Int)} {a:Act} {Q:Exit→Act→World→Prop}
def FrmAt (l:List (Tr × Int)) (rb kb:Nat) (W:World):Prop:=∃ h q c lt rt,Tr.lz l=some (.node h q c lt rt)∧W.heap[rb]?=some (.cells #[.int .i64 rt.hd,.int .i64 (c+2 ^ q),.int .i64 (c+2 * 2 ^ q - 1),.nilIface] 120 (0,0))∧W.heap[kb]?=some (.cells #[.bool true] 4 (0,0))
set_option maxRecDepth 100000 in
set_option maxHeartbeats 1600000 in
theorem from_loop (hs:a.tmps.size=29) (hd:a.defers=[]) (x4:a.eval (.tmp 4)=.pointer (some ⟨rb,0,none⟩)) (x5:a.eval (.tmp 5)=.pointer (some ⟨kb,0,none⟩)) (x19:a.eval (.tmp 19)=.func (.func 108) #[] #[.pointer (some ⟨bx,0,none⟩)])
  (hl:l.length≤40) (h1:rb≠kb) (h2:rb≠bx) (h3:kb≠bx) (h4:∀ g,v.ownBlock=some g→g≠rb∧g≠kb) (hin:∀ y∈l,(∃ h q c l r,y.1=Tr.node h q c l r)∧y.1.WF) (hP:PreS bx B v l x) (hr:x.heap[rb]?=some (.cells #[.int .i64 0,.int .i64 0,.int .i64 0,.nilIface] 120 (0,0))) (hb:x.heap[kb]?=some (.cells #[.bool false] 4 (0,0)))
  (hK:∀ a' y D,a'.tmps.size=29→a'.defers=[markD D]→a'.eval (.tmp 4)=.pointer (some ⟨rb,0,none⟩)→a'.eval (.tmp 5)=.pointer (some ⟨kb,0,none⟩)→y.heap[rb]?=some (.cells #[.int .i64 0,.int .i64 0,.int .i64 0,.nilIface] 120 (0,0))→y.heap[kb]?=some (.cells #[.bool false] 4 (0,0))→Tr.lz l=none→Turned [rb,kb] x y→y.heap[D]?=some (.deferred (some []))→x.heap.size≤D→Q .normal a' y) (hS:∀ a' y D,a'.tmps.size=29→a'.defers=[markD D]→a'.eval (.tmp 4)=.pointer (some ⟨rb,0,none⟩)→a'.eval (.tmp 5)=.pointer (some ⟨kb,0,none⟩)→FrmAt l rb kb y→Turned [rb,kb] x y→y.heap[D]?=some (.deferred (some []))→x.heap.size≤D→Q .ret a' y):(atc Tryz.f55.body [1,1,0,1,0]).wp Tryz.prog Q a x:=by
 obtain ⟨cc,hcc,hce⟩:=expand29 hs hd
 have g4:=(hce 4).trans x4
 have g5:=(hce 5).trans x5
 have g19:=(hce 19).trans x19
 clear hce hs hd x4 x5 x19
 subst hcc
 conv=>arg 2; whnf
 simp only [lit29,g4,g5,g19]
 clear g4 g5 g19
 have HK:Hid _:=hK
 have HQ:Hid _:=hS
 have HX:Hid (rb≠kb∧rb≠bx∧kb≠bx∧(∀ g,v.ownBlock=some g→g≠rb∧g≠kb)):=⟨h1,h2,h3,h4⟩
 have HL:Hid (∀ y∈l,(∃ h q c l r,y.1=Tr.node h q c l r)∧y.1.WF):=hin
 have HP:Hid (PreS bx B v l x):=hP
 have HB:Hid (x.heap[rb]?=some (.cells #[.int .i64 0,.int .i64 0,.int .i64 0,.nilIface] 120 (0,0))∧x.heap[kb]?=some (.cells #[.bool false] 4 (0,0))):=⟨hr,hb⟩
 clear hK hS h1 h2 h3 h4 hin hP hb hr
 refine wp_range (N:=l.length) (xs:=xsS l) (F:=[]) (R:=bx :: v.ownBlock.toList) (Pre:=PreS bx B v l) (G:=[rb,kb])
  (I:=fun j G W=>G=[rb,kb]∧W.heap[rb]?=some (.cells #[.int .i64 0,.int .i64 0,.int .i64 0,.nilIface] 120 (0,0))∧W.heap[kb]?=some (.cells #[.bool false] 4 (0,0))∧Tr.lz (l.drop (l.length - j))=none)
  (Ix:=fun c _ W=>c=.ret∧FrmAt l rb kb W∧x.heap.size+1∉[rb,kb]) rfl (enters_of Tryz.func108 (by kernel_rfl) rfl) (iterS (by omega)) (fun j=>rfl) ?keep ?lt ?keepX ?keepP ⟨rfl,HB.out.1,HB.out.2,by simp [Tr.lz]⟩ HP.out ?hG (by simp) ?hR ?round ?done ?stop
 case keep =>
  rintro j G w2 L w3 ⟨rfl,e1,e2,e3⟩ ht hL
  exact ⟨rfl,ht.heap e1 (fun hm=>hL _ hm (by simp)),ht.heap e2 (fun hm=>hL _ hm (by simp)),e3⟩
 case lt =>
  rintro j G w2 ⟨rfl,e1,e2,e3⟩ z hz
  simp only [List.mem_cons,List.not_mem_nil,or_false] at hz
  rcases hz with rfl | rfl
  ·exact lt_of_heap e1
  ·exact lt_of_heap e2
 case keepX =>
  rintro c j w2 w3 ⟨rfl,⟨h,q,c,lt,rt,f1,f2,f3⟩,hn⟩ ht
  simp only [List.mem_cons,List.not_mem_nil,or_false,not_or] at hn
  exact ⟨rfl,⟨h,q,c,lt,rt,f1,ht.heap f2 (by simp; omega),ht.heap f3 (by simp; omega)⟩,by simp; omega⟩
 case keepP =>
  intro w2 w3 L h ht hL
  have hl:=HP.out.lt
  exact h.keep ht (fun hm=>by have:=hL _ hm; omega) (fun g hg hm=>by have:=hL _ hm; have:=hl.2 g hg; omega)
 case hG =>
  intro z hz
  simp only [List.mem_cons,List.not_mem_nil,or_false] at hz
  obtain ⟨q1,q2,q3,q4⟩:=HX.out
  refine ⟨by simp,fun hm=>?_⟩
  rcases List.mem_cons.1 hm with e | hm
  ·rcases hz with rfl | rfl
   ·exact q2 e
   ·exact q3 e
  ·have:=q4 z (Option.mem_toList.1 hm)
   rcases hz with rfl | rfl
   ·exact this.1 rfl
   ·exact this.2 rfl
 case hR =>
  intro z hz
  have hl:=HP.out.lt
  rcases List.mem_cons.1 hz with rfl | hz
  ·exact hl.1
  ·exact hl.2 z (Option.mem_toList.1 hz)
 case round =>
  rintro j hj G W ⟨rfl,e1,e2,e3⟩ hlW hlG
  have hix:l.length - 1 - j < l.length:=by omega
  obtain ⟨y,hy⟩:∃ y,y=l[l.length - 1 - j]:=⟨_,rfl⟩
  obtain ⟨⟨h,q,c,lt,rt,hyn⟩,hyw⟩:=HL.out y (by rw [hy]; exact List.getElem_mem _)
  have hdrop:l.drop (l.length - (j+1))=y :: l.drop (l.length - j):=by
   rw [show l.length - (j+1)=l.length - 1 - j by omega,List.drop_eq_getElem_cons hix,hy,show l.length - 1 - j+1=l.length - j by omega]
  have hnext:Tr.lz (l.drop (l.length - (j+1)))=if y.2=0 then some y.1 else none:=by rw [hdrop]; simp only [Tr.lz,e3]
  obtain ⟨yt,ys⟩:=y
  simp only at hyn hyw hnext
  subst hyn
  obtain ⟨g1,g2,g3,g4,g5,g6,g7,g8,g9,g10⟩:=id hyw
  have hxs:xsS l j=#[.int .i64 ((l.length - 1 - j:Nat):Int),.agg #[.int .i64 h,.int .i64 c,.int .i64 q,.int .i64 lt.hd,.int .i64 rt.hd,.int .i64 (lt.cnt+rt.cnt:Nat),.int .i64 ys]]:=by
   unfold xsS
   rw [List.getD_eq_getElem?_getD,List.getElem?_eq_getElem hix]
   show #[_,stepA (l[l.length - 1 - j])]=_
   rw [← hy]; rfl
  rw [hxs]
  have HCh:Hid (∀ (a b d:Int) (z:World),Calls Tryz.prog 78 #[.agg #[.int .i64 c,.int .i64 q,.int .i64 a,.int .i64 b,.int .i64 d],.int .i64 1] z fun e w'=>e=.returned (.agg #[.int .i64 b,.int .i64 (c+2 ^ q),.int .i64 (c+2 * 2 ^ q - 1),.nilIface])∧Turned [] z w'):=fun a b d z=>cChild1 a b d g2 g3 g1 z
  have HE:Hid _:=e1
  have HE2:Hid _:=e2
  have hlb:¬ x.heap.size+1=rb:=fun e=>hlG (by simp [e])
  have hlr:¬ x.heap.size+1=kb:=fun e=>hlG (by simp [e])
  have nbr:¬ rb=kb:=HX.out.1
  have nrb:¬ kb=rb:=fun e=>HX.out.1 e.symm
  have HLG:Hid (x.heap.size+1∉[rb,kb]):=hlG
  have HNX:Hid _:=hnext
  generalize ((lt.cnt+rt.cnt:Nat):Int)=cn at *
  generalize hc1:c+2 ^ q=c1 at *
  generalize hc2:c+2 * 2 ^ q - 1=c2 at *
  have HC1:Hid _:=hc1
  have HC2:Hid _:=hc2
  clear hc1 hc2 hnext hxs hy hdrop e1 e2 e3 hlG g1 g2 g3 g4 g5 g6 g7 g8 g9 g10 hyw
  gi_wp2
  refine ⟨(Turned.refl _ _).alloc _,fun W2 h2=>?_⟩
  have hb1:=h2.heap (blk_old HE.out _) (by simpa using fun e=>hlb e.symm)
  have hb2:=h2.heap (blk_old HE2.out _) (by simpa using fun e=>hlr e.symm)
  have hb3:=h2.heap (blk_new W _) (by simp; omega)
  obtain ⟨⟨t0,t1,t2,t3,t4,t5,t6⟩,-⟩:=cells7 hb3
  have HB1:Hid _:=hb1
  have HB2:Hid _:=hb2
  clear hb1 hb2 hb3 h2
  by_cases hys:ys=0
  ·subst hys
   gi_wp2
   refine ⟨trivial,rfl,((callsIn_wide.2 (HCh.out _ _ _ _)).inRound _).mono ?_⟩
   rintro e w5 ⟨rfl,ht5⟩
   have h5:=ht5.heap HB1.out (by simp)
   have h6:=ht5.heap HB2.out (by simp)
   obtain ⟨⟨k0,k1,k2,k3⟩,y0,y1,y2,y3⟩:=cells4 h5
   obtain ⟨m0,mz0⟩:=cells1 h6
   have HT5:Hid _:=ht5
   have H5:Hid _:=h5
   have H6:Hid _:=h6
   clear ht5 h5 h6
   gi_wp2
   have h8:=set4 H5.out (.int .i64 rt.hd) (.int .i64 c1) (.int .i64 c2) .nilIface
   refine ⟨((HT5.out.mono (by simp)).trans (h8.2.mono (by simp))).set (.inl (by simp)) _ _,rfl,⟨h,q,c,lt,rt,?_,?_,?_⟩,HLG.out⟩
   ·exact Tr.lz_drop (by rw [HNX.out,if_pos trivial])
   ·rw [HC1.out,HC2.out]; exact (blk_other nbr _ _).trans h8.1
   ·exact blk_set (h8.2.heap H6.out (by simpa using nrb)) 0 _
  ·have hys2:(ys == 0)=false:=by simpa using hys
   have HYS:Hid (¬ ys=0):=hys
   clear hys
   gi_wp2
   exact ⟨Turned.refl _ _,[rb,kb],⟨rfl,HB1.out,HB2.out,by rw [HNX.out,if_neg HYS.out]⟩,fun z hz=>.inl hz⟩
 case done =>
  rintro W G' ⟨rfl,e1,e2,e3⟩ - hPW hT hK
  exact HK.out _ _ _ rfl rfl rfl rfl e1 e2 (by simpa using e3) (by simpa using hT) hK (Nat.le_refl _)
 case stop =>
  rintro c j W _ ⟨rfl,hf,-⟩ hPW hT hK
  refine wp_ret ?_
  exact HQ.out _ _ _ rfl rfl rfl rfl hf (by simpa using hT) hK (Nat.le_refl _)
end
end Go.Proofs.YtloljphbdfjgdaaGreatDoor

/- Package trie's climb, alone, by contract. -/
import Derived.Test.YtloljphbdfjgdaaGreatDoorK28
import Derived.Test.YtloljphbdfjgdaaGreatDoorK25
import Derived.Test.YtloljphbdfjgdaaGreatDoorK03
namespace Go.Proofs.YtloljphbdfjgdaaGreatDoor
open Go.RowKit Go.Shelf
attribute [local go_sem] Oper.semAt_some
theorem then_self (Q:Exit→Act→World→Prop):Exit.then (Q .normal) Q=Q:=by
 funext e a w
 cases e <;> rfl
theorem wpIn_then {c:Code} {F:Fence} {n:Nat} {P:Program} {Q:Exit→Act→World→Prop} {a:Act} {w:World} (h:c.wpIn F n P (Exit.then (Q .normal) Q) a w):c.wpIn F n P Q a w:=by
 rwa [then_self] at h
structure Since (n0:Nat) (F0:List Nat) (gv0 mv0:Value) (F:List Nat) (gv mv:Value):Prop where
 f:∀ z,z∈F→z∈F0∨n0≤z
 g:∀ g,gv.ownBlock=some g→gv0.ownBlock=some g∨n0≤g
 m:∀ g,mv.ownBlock=some g→mv0.ownBlock=some g∨n0≤g
theorem Since.refl {n0:Nat} {F0:List Nat} {gv0 mv0:Value}:Since n0 F0 gv0 mv0 F0 gv0 mv0:=⟨fun _=>.inl,fun _=>.inl,fun _=>.inl⟩
theorem Since.trans {n0 n1:Nat} {F0 F1 F2:List Nat} {g0 m0 g1 m1 g2 m2:Value} (h:Since n0 F0 g0 m0 F1 g1 m1) (k:Since n1 F1 g1 m1 F2 g2 m2) (hn:n0≤n1):Since n0 F0 g0 m0 F2 g2 m2 :=
 ⟨fun z hz=>by rcases k.f z hz with h' | h'; exact h.f z h'; exact .inr (by omega),fun z hz=>by rcases k.g z hz with h' | h'; exact h.g z h'; exact .inr (by omega),fun z hz=>by rcases k.m z hz with h' | h'; exact h.m z h'; exact .inr (by omega)⟩
structure CJ (n0:Nat) (F0:List Nat) (gv0 mv0:Value) (B b3 b5 cb tb p it:Nat) (s:PSt) (St:List Nat) (old:Int) (had:Bool) (l:List (Tr × Int)) (u0:Tr × Nat) (more:Int) (gone0:List Int) (j:Nat) (G:List Nat) (w:World):Prop where
 ex:∃ F' gv mv s' m root err,G=b3 :: b5 :: tb :: cb :: (lsts gv mv ++ F')∧CG B w cb tb p F' s' root old had gv mv (gone0 ++ (l.drop (l.length - j)).reverse.map Tr.hdS) (Tr.mades (gOf s St) m) err∧OkU s St it s' m root err ((l.drop (l.length - j)).foldr (Tr.up (gOf s St)) u0)∧b5∉lsts gv mv∧Since n0 F0 gv0 mv0 F' gv mv
 h3:w.heap[b3]?=some (.cells #[.pointer (some ⟨cb,0,none⟩)] 175 (0,0))
 h5:w.heap[b5]?=some (.cells #[.int .i64 more] 3 (0,0))
theorem mem_lsts {gv mv:Value} {x:Nat}:x∈lsts gv mv↔gv.ownBlock=some x∨mv.ownBlock=some x:=by
 simp [lsts]
section
variable {n0:Nat} {F0:List Nat} {gv0 mv0:Value} {x:World} {B B2 b3 b5 cb tb p it bx:Nat} {s:PSt} {St:List Nat} {old:Int} {had:Bool} {l:List (Tr × Int)} {u0:Tr × Nat} {more:Int} {gone0:List Int} {v:Value} {e:Tr} {a:Act} {Q:Exit→Act→World→Prop}
theorem CJ.keep {j:Nat} {G L:List Nat} {w w':World} (h:CJ n0 F0 gv0 mv0 B b3 b5 cb tb p it s St old had l u0 more gone0 j G w) (ht:Turned L w w') (hL:∀ x,x∈L→x∉G):CJ n0 F0 gv0 mv0 B b3 b5 cb tb p it s St old had l u0 more gone0 j G w':=by
 obtain ⟨F',gv,mv,s',m,root,err,rfl,hc,ho,n5,nSi⟩:=h.ex
 refine ⟨⟨F',gv,mv,s',m,root,err,rfl,hc.keep ht (fun hm=>hL _ hm (by simp)) (fun hm=>hL _ hm (by simp)) (fun z hz hm=>hL z hz (by simp [hm])) (fun g hg hm=>hL g hm ?_) (fun g hg hm=>hL g hm ?_),ho,n5,nSi⟩,ht.heap h.h3 (fun hm=>hL _ hm (by simp)),ht.heap h.h5 (fun hm=>hL _ hm (by simp))⟩
 ·simp [hg]
 ·simp [hg]
theorem CJ.lt {j:Nat} {G:List Nat} {w:World} (h:CJ n0 F0 gv0 mv0 B b3 b5 cb tb p it s St old had l u0 more gone0 j G w):∀ z,z∈G→z < w.heap.size:=by
 obtain ⟨F',gv,mv,s',m,root,err,rfl,hc,ho,n5,nSi⟩:=h.ex
 intro z hz
 simp only [List.mem_cons,List.mem_append,Option.mem_toList] at hz
 rcases hz with rfl | rfl | rfl | rfl | (hz | hz) | hz
 ·exact lt_of_heap h.h3
 ·exact lt_of_heap h.h5
 ·exact lt_of_heap hc.tr
 ·exact lt_of_heap hc.obj
 ·exact (hc.gr.fresh hz).2
 ·exact (hc.mr.fresh hz).2
 ·exact poolLaws.lt hc.at_ z hz
def Bxs (b3 b5 b7 cb:Nat) (more h c:Int) (q:Nat) (lh rh cn sd:Int) (x:World):Prop :=
 x.heap[b3]?=some (.cells #[.pointer (some ⟨cb,0,none⟩)] 175 (0,0))∧x.heap[b5]?=some (.cells #[.int .i64 more] 3 (0,0))∧x.heap[b7]?=some (.cells #[.int .i64 h,.int .i64 c,.int .i64 q,.int .i64 lh,.int .i64 rh,.int .i64 cn,.int .i64 sd] 153 (0,0))
theorem Bxs.keep {b7:Nat} {h c lh rh cn sd:Int} {q:Nat} {L:List Nat} {x y:World} (hb:Bxs b3 b5 b7 cb more h c q lh rh cn sd x) (ht:Turned L x y) (h3:b3∉L) (h5:b5∉L) (h7:b7∉L):Bxs b3 b5 b7 cb more h c q lh rh cn sd y:=⟨ht.heap hb.1 h3,ht.heap hb.2.1 h5,ht.heap hb.2.2 h7⟩
def CPh (X:World) (A T:World→Prop):Nat→(Nat→Value)→World→Prop
 | 0,_,x=>A x∧Turned [] X x
 | 1,_,x=>A x∧Turned [] X x
 | _,_,x=>A x∧T x
theorem CPh.ax {X x:World} {A T:World→Prop} {g:Nat} {u:Nat→Value} (h:CPh X A T g u x):A x:=by
 match g,h with
 | 0,h=>exact h.1
 | 1,h=>exact h.1
 | _+2,h=>exact h.1
set_option maxRecDepth 100000 in
set_option maxHeartbeats 1600000 in
theorem climb_loop (hs:a.tmps.size=39) (hd:a.defers=[]) (x3:a.eval (.tmp 3)=.pointer (some ⟨b3,0,none⟩)) (x5:a.eval (.tmp 5)=.pointer (some ⟨b5,0,none⟩)) (x9:a.eval (.tmp 9)=.func (.func 108) #[] #[.pointer (some ⟨bx,0,none⟩)])
  (hl:l.length≤40) (hu0:u0.2≤10) (hg0:gone0.length≤10) (hit:it≤900000000) (hmore:more≤1) (hst:∀ y∈l,StpL s y) (hch:Tr.Chn e l) (hcnt:(u0.1.cnt:Int)=e.cnt+more) (hP:PreS bx B2 v l x) {G:List Nat} (hJ:CJ n0 F0 gv0 mv0 B b3 b5 cb tb p it s St old had l u0 more gone0 0 G x) (hB:B≤x.heap.size) (hn0:n0≤x.heap.size) (hX:∀ z,z∈G→z∉bx :: v.ownBlock.toList)
  (hK:∀ a' y D G',a'.tmps.size=39→a'.defers=[markD D]→CJ n0 F0 gv0 mv0 B b3 b5 cb tb p it s St old had l u0 more gone0 l.length G' y→Wider G G' x→Turned G x y→y.heap[D]?=some (.deferred (some []))→x.heap.size≤D→Q .normal a' y):(atc Tryz.f47.body [1,1,0]).wp Tryz.prog Q a x:=by
 obtain ⟨cc,hcc,hce⟩:=expand39 hs hd
 have g3:=(hce 3).trans x3
 have g5:=(hce 5).trans x5
 have g9:=(hce 9).trans x9
 clear hce hs hd x3 x5 x9
 subst hcc
 conv=>arg 2; whnf
 simp only [lit39,g3,g5,g9]
 clear g3 g5 g9
 have HK:Hid _:=hK
 have HX:Hid (∀ z,z∈G→z∉bx :: v.ownBlock.toList):=hX
 have HP:Hid (PreS bx B2 v l x):=hP
 have HJ:Hid (CJ n0 F0 gv0 mv0 B b3 b5 cb tb p it s St old had l u0 more gone0 0 G x):=hJ
 have HC:Hid (u0.2≤10∧gone0.length≤10∧it≤900000000∧more≤1∧(∀ y∈l,StpL s y)∧Tr.Chn e l∧(u0.1.cnt:Int)=e.cnt+more∧B≤x.heap.size):=⟨hu0,hg0,hit,hmore,hst,hch,hcnt,hB⟩
 have HN0:Hid _:=hn0
 clear hK hX hP hJ hu0 hg0 hit hmore hst hch hcnt hB hn0
 refine wp_range (N:=l.length) (xs:=xsS l) (F:=[]) (R:=bx :: v.ownBlock.toList) (Pre:=PreS bx B2 v l) (G:=G)
  (I:=CJ n0 F0 gv0 mv0 B b3 b5 cb tb p it s St old had l u0 more gone0) (Ix:=fun _ _ _=>False) rfl (enters_of Tryz.func108 (by kernel_rfl) rfl) (iterS (by omega)) (fun j=>rfl) (fun h1 h2 h3=>h1.keep h2 h3) (fun h=>h.lt) (fun h _=>h.elim) ?keepP HJ.out HP.out (fun z hz=>⟨by simp,HX.out z hz⟩) (by simp) ?hR ?round ?done (fun c j W _ h=>h.elim)
 case keepP =>
  intro w2 w3 L h ht hL
  have hl:=HP.out.lt
  exact h.keep ht (fun hm=>by have:=hL _ hm; omega) (fun g hg hm=>by have:=hL _ hm; have:=hl.2 g hg; omega)
 case hR =>
  intro z hz
  have hl:=HP.out.lt
  rcases List.mem_cons.1 hz with rfl | hz
  ·exact hl.1
  ·exact hl.2 z (Option.mem_toList.1 hz)
 case round =>
  rintro j hj G W hU hlW hlG
  have hix:l.length - 1 - j < l.length:=by omega
  obtain ⟨h,q,c,lt,rt,hy,hS⟩:=HC.out.2.2.2.2.1 _ (List.getElem_mem hix)
  have hdrop:l.drop (l.length - (j+1))=l[l.length - 1 - j] :: l.drop (l.length - j):=by
   rw [show l.length - (j+1)=l.length - 1 - j by omega,List.drop_eq_getElem_cons hix,show l.length - 1 - j+1=l.length - j by omega]
  have hch2:=HC.out.2.2.2.2.2.1.drop (l.length - (j+1))
  rw [hdrop] at hch2
  obtain ⟨⟨h',q',c',lt',rt',hy',hside⟩,hch3⟩:=hch2
  rw [hy] at hy'
  injection hy' with k1 k2 k3 k4 k5
  subst k1 k2 k3 k4 k5
  have hcn:=Tr.up_cnt (g:=gOf s St) HC.out.2.2.2.2.2.2.1 hch3
  have hlen:(l.drop (l.length - j)).length≤40:=by rw [List.length_drop]; omega
  have hsnd:((l.drop (l.length - j)).foldr (Tr.up (gOf s St)) u0).2≤50:=by
   have:∀ k:List (Tr × Int),(∀ y∈k,StpL s y)→(k.foldr (Tr.up (gOf s St)) u0).2=u0.2+k.length:=by
    intro k
    induction k with
    | nil=>intro _; simp
    | cons z k ih =>
     intro hk
     obtain ⟨h1,q1,c1,l1,r1,hz,-⟩:=hk z (by simp)
     rw [List.foldr_cons,Tr.up_two ⟨h1,q1,c1,l1,r1,hz⟩,ih (fun y hy=>hk y (by simp [hy])),List.length_cons]
     omega
   rw [this _ (fun y hy=>HC.out.2.2.2.2.1 y (List.mem_of_mem_drop hy))]
   have:=HC.out.1
   omega
  obtain ⟨sd,hsd⟩:∃ sd,sd=(l[l.length - 1 - j]).2:=⟨_,rfl⟩
  have hye:l[l.length - 1 - j]=(Tr.node h q c lt rt,sd):=by rw [← hy,hsd]
  rw [← hsd] at hside
  have hxs:xsS l j=#[.int .i64 ((l.length - 1 - j:Nat):Int),.agg #[.int .i64 h,.int .i64 c,.int .i64 q,.int .i64 lt.hd,.int .i64 rt.hd,.int .i64 ((lt.cnt+rt.cnt:Nat):Int),.int .i64 sd]]:=by
   unfold xsS
   rw [List.getD_eq_getElem?_getD,List.getElem?_eq_getElem hix]
   show #[_,stepA (l[l.length - 1 - j])]=_
   rw [hye]; rfl
  rw [hxs]
  rw [hye] at hdrop
  clear hye hxs hy hsd hch3
  obtain ⟨cn,hcne⟩:∃ cn:Int,((lt.cnt+rt.cnt:Nat):Int)=cn:=⟨_,rfl⟩
  rw [hcne]
  have HCNE:Hid (((lt.cnt+rt.cnt:Nat):Int)=cn):=hcne
  have HU:Hid (CJ n0 F0 gv0 mv0 B b3 b5 cb tb p it s St old had l u0 more gone0 j G W):=hU
  have HLG:Hid (x.heap.size+1∉G):=hlG
  have HLW:Hid _:=hlW
  have HD:Hid _:=hdrop
  have HSS:Hid (Stp s h c q lt rt∧((l.drop (l.length - j)).foldr (Tr.up (gOf s St)) u0).2≤50∧(l.drop (l.length - j)).length≤40):=⟨hS,hsnd,hlen⟩
  have HSD:Hid _:=hside
  have HCN:Hid _:=hcn
  clear hU hlG hdrop hS hcne hsnd hlen hlW hside hcn
  gi_wp2
  refine ⟨(Turned.refl _ _).alloc _,fun W2 h2=>?_⟩
  have hU2:=(HU.out.keep ((Turned.refl [] _).alloc _) (by simp)).keep h2 (fun z hz hm=>by simp at hz; subst hz; exact HLG.out hm)
  have hb7:=h2.heap (blk_new W _) (by have:=HLW.out; simp; omega)
  have h7:W.heap.size < W2.heap.size:=lt_of_heap hb7
  obtain ⟨F',gv,mv,s',m,root,err,rfl,hc,ho,n5,nSi⟩:=hU2.ex
  have hbx:Bxs b3 b5 W.heap.size cb more h c q lt.hd rt.hd cn sd W2:=⟨hU2.h3,hU2.h5,hb7⟩
  have hBW:B≤W2.heap.size:=by have:=HC.out.2.2.2.2.2.2.2; have:=HLW.out; omega
  -- which blocks are which
  have q3:b3∉gv.ownBlock.toList∧b3∉mv.ownBlock.toList∧b3∉F'∧b3≠cb:=by
   refine ⟨fun hm=>?_,fun hm=>?_,poolAt_other hc.at_ hU2.h3 (by decide),other_type hU2.h3 hc.obj (by decide)⟩
   ·obtain ⟨cs,hcs⟩:=hc.gr.type (Option.mem_toList.1 hm); exact other_type hU2.h3 hcs (by decide) rfl
   ·obtain ⟨cs,hcs⟩:=hc.mr.type (Option.mem_toList.1 hm); exact other_type hU2.h3 hcs (by decide) rfl
  have q5:b5∉gv.ownBlock.toList∧b5∉mv.ownBlock.toList∧b5∉F'∧b5≠cb:=by
   refine ⟨fun hm=>n5 (by simp [lsts]; exact .inl (Option.mem_toList.1 hm)),fun hm=>n5 (by simp [lsts]; exact .inr (Option.mem_toList.1 hm)),poolAt_other hc.at_ hU2.h5 (by decide),other_type hU2.h5 hc.obj (by decide)⟩
  have q7:W.heap.size∉gv.ownBlock.toList∧W.heap.size∉mv.ownBlock.toList∧W.heap.size∉F'∧W.heap.size≠cb:=by
   refine ⟨fun hm=>?_,fun hm=>?_,poolAt_other hc.at_ hb7 (by decide),other_type hb7 hc.obj (by decide)⟩
   ·obtain ⟨cs,hcs⟩:=hc.gr.type (Option.mem_toList.1 hm); exact other_type hb7 hcs (by decide) rfl
   ·obtain ⟨cs,hcs⟩:=hc.mr.type (Option.mem_toList.1 hm); exact other_type hb7 hcs (by decide) rfl
  have HQ:Hid (b3 < W2.heap.size∧b5 < W2.heap.size):=⟨lt_of_heap hU2.h3,lt_of_heap hU2.h5⟩
  have HQ3:Hid _:=q3
  have HQ5:Hid _:=q5
  have HQ7:Hid _:=q7
  have HG:Hid (CG B W2 cb tb p F' s' root old had gv mv (gone0 ++ (l.drop (l.length - j)).reverse.map Tr.hdS) (Tr.mades (gOf s St) m) err):=hc
  have HO:Hid (OkU s St it s' m root err ((l.drop (l.length - j)).foldr (Tr.up (gOf s St)) u0)):=ho
  have HN5:Hid (b5∉lsts gv mv):=n5
  have HSI:Hid _:=nSi
  have HNW:Hid (n0≤W2.heap.size):=by have:=HN0.out; have:=HLW.out; show n0≤W2.heap.size; omega
  have HBX:Hid _:=hbx
  have HBW:Hid _:=hBW
  have HH7:Hid _:=h7
  clear hU2 h2 hb7 hc ho n5 nSi hbx hBW q3 q5 q7 h7
  generalize W.heap.size=b7 at *
  gi_wp2
  rename_i KK HKK
  have keepB:∀ (z:World) {L:List Nat} {z':World},Bxs b3 b5 b7 cb more h c q lt.hd rt.hd cn sd z→Turned L z z'→(∀ k,k∈L→k∈gv.ownBlock.toList∨k=cb∨k∈mv.ownBlock.toList∨k∈F')→Bxs b3 b5 b7 cb more h c q lt.hd rt.hd cn sd z':=fun z L z' hb ht hk=>by
   obtain ⟨a1,a2,a3,a4⟩:=HQ3.out
   obtain ⟨b1,b2,b3',b4⟩:=HQ5.out
   obtain ⟨c1,c2,c3,c4⟩:=HQ7.out
   refine hb.keep ht (fun hm=>?_) (fun hm=>?_) (fun hm=>?_)
   ·rcases hk _ hm with h | h | h | h
    ·exact a1 h
    ·exact a4 h
    ·exact a2 h
    ·exact a3 h
   ·rcases hk _ hm with h | h | h | h
    ·exact b1 h
    ·exact b4 h
    ·exact b2 h
    ·exact b3' h
   ·rcases hk _ hm with h | h | h | h
    ·exact c1 h
    ·exact c4 h
    ·exact c2 h
    ·exact c3 h
  have HKB:Hid _:=keepB
  clear keepB
  refine climb_r3 (b3:=b3) (b7:=b7) (cb:=cb) (h:=h) (gv:=gv) (Ph:=WPh W2 (Bxs b3 b5 b7 cb more h c q lt.hd rt.hd cn sd) B cb 8 9 gv (gone0 ++ (l.drop (l.length - j)).reverse.map Tr.hdS) h) rfl rfl rfl ?_ ?_ ⟨HKB.out _ HBX.out (Turned.refl [] _).drew (by simp),(Turned.refl _ _).drew⟩ (wph_l0 (fun x y hx ht=>HKB.out x hx ht (by simp))) (wph_l1 HG.out HBW.out ?_ (fun x y hx ht=>HKB.out x hx ht (fun k hk=>.inl hk))) (wph_l2 HG.out (fun x y hx ht=>HKB.out x hx ht (fun k hk=>by simp at hk; exact .inr (.inl hk)))) ?_
  ·intro g u z hz
   have hb:=hz.a
   exact ⟨by rw [cell_at hb.1]; rfl,by rw [cell_at hb.2.2]; rfl⟩
  ·intro g u z hz hg
   have hh:z.heap[cb]?=some (chObj tb root old had gv mv err):=by
    match g,hz,hg with
    | 0,hz,_=>exact (HG.out.still hz.2).obj
    | 1,hz,_=>exact (HG.out.still hz.2.1).obj
   have c5:z.cell? ⟨cb,5,none⟩=some gv:=by rw [cell_at hh]; rfl
   obtain ⟨ga,gc,hg'⟩:=HG.out.gr.form
   rw [hg'] at c5 ⊢
   unfold pa
   go_simp
  ·have:=HSS.out.2.2; have:=HC.out.2.1; simp; omega
  ·rintro a2 X u hs2 hd2 hoff hph
   obtain ⟨hbX,gv',hcX,htX,hgv'⟩:=wph_end HG.out hph
   clear hph
   obtain ⟨ag2,xb,xc,xd,hW,hN,hhd,htwo,hrp⟩:=step_ready (St:=St) (root:=root) (more:=more) (u:=(l.drop (l.length - j)).foldr (Tr.up (gOf s St)) u0) HSS.out.1 HO.out.mkd.ct HSD.out HCN.out HC.out.2.2.2.1
   rw [HCNE.out] at hW
   have hszX:W2.heap.size≤X.heap.size:=htX.size
   have hkA:∀ x y,Bxs b3 b5 b7 cb more h c q lt.hd rt.hd cn sd x→Turned [] x y→Bxs b3 b5 b7 cb more h c q lt.hd rt.hd cn sd y:=fun x y hx ht=>HKB.out x hx ht (by simp)
   refine HKK _ _ ?_
   refine wpIn_then ?_
   refine climb_r4 (b3:=b3) (b5:=b5) (b7:=b7) (cb:=cb) (q:=q) (f:=c) (lh:=lt.hd) (rh:=rt.hd) (cn:=cn) (sd:=sd) (root:=root) (more:=more) (ag2:=ag2) (Ph:=CPh X (Bxs b3 b5 b7 cb more h c q lt.hd rt.hd cn sd) (fun y=>∃ F2 mv' s2 m2 root2 err2,CG B y cb tb p F2 s2 root2 old had gv' mv' ((gone0 ++ (l.drop (l.length - j)).reverse.map Tr.hdS) ++ [h]) (Tr.mades (gOf s St) m2) err2∧OkU s St it s2 m2 root2 err2 (Tr.up (gOf s St) (Tr.node h q c lt rt,sd) ((l.drop (l.length - j)).foldr (Tr.up (gOf s St)) u0))∧Turned (cb :: (mv.ownBlock.toList ++ F')) X y∧Wider F' F2 X∧(∀ g,mv'.ownBlock=some g→mv.ownBlock=some g∨X.heap.size≤g))) (hs2.trans rfl) ((hoff 3 (by decide)).trans rfl) ((hoff 5 (by decide)).trans rfl) ((hoff 7 (by decide)).trans rfl) ?_ ?_ ?_ ⟨hkA _ _ hbX (Turned.refl _ _).drew,(Turned.refl _ _).drew⟩ ?_ ?_ ?_
   ·intro g u z hz
    have hb:=hz.ax
    exact ⟨by rw [cell_at hb.1]; rfl,by rw [cell_at hb.2.2]; rfl,by rw [cell_at hb.2.1]; rfl⟩
   ·intro g u z hz
    have hb:=hz.ax
    obtain ⟨⟨t0,t1,t2,t3,t4,t5,t6⟩,-⟩:=cells7 hb.2.2
    unfold pa
    go_simp
   ·intro g u z hz hg
    have hh:z.heap[cb]?=some (chObj tb root old had gv' mv err):=by
     match g,hz,hg with
     | 0,hz,_=>exact (hcX.still hz.2).obj
     | 1,hz,_=>exact (hcX.still hz.2).obj
    rw [cell_at hh]; rfl
   ·intro u z hz
    refine (hW z).mono ?_
    rintro e w' ⟨rfl,ht⟩
    exact ⟨rfl,hkA _ _ hz.1 ht,hz.2.trans ht⟩
   ·intro u z hz
    have htz:Turned [] X z:=hz.2
    have hszz:=htz.size
    refine (cTakeU (t':=(Tr.up (gOf s St) (Tr.node h q c lt rt,sd) ((l.drop (l.length - j)).foldr (Tr.up (gOf s St)) u0)).1) (hcX.still htz) HO.out (by have:=HBW.out; omega) HC.out.2.2.1 (by have:=HSS.out.2.1; omega) hN hhd (fun _ hr hR=>hrp hr hR)).mono ?_
    rintro e w' ⟨rfl,F2,mv',s2,m2,root2,err2,hc2,ho2,ht2,hW2,hmv2⟩
    refine ⟨rfl,HKB.out z hz.1 ht2 (fun k hk=>?_),F2,mv',s2,m2,root2,err2,hc2,?_,?_,?_,?_⟩
    ·simp only [List.mem_cons,List.mem_append] at hk
     rcases hk with h | h | h
     ·exact .inr (.inl h)
     ·exact .inr (.inr (.inl h))
     ·exact .inr (.inr (.inr h))
    ·rw [← htwo] at ho2; exact ho2
    ·exact (htz.mono (by simp)).trans ht2
    ·exact fun z' hz'=>(hW2 z' hz').imp id (fun h=>by omega)
    ·exact fun g hg=>(hmv2 g hg).imp id (fun h=>by omega)
   ·rintro a3 Y u3 hs3 hd3 hoff3 ⟨hbY,F2,mv',s2,m2,root2,err2,hc2,ho2,ht2,hW2,hmv2⟩
    have HA3:Hid _:=hoff3
    clear hoff3
    have hTY:Turned (b3 :: b5 :: tb :: cb :: (lsts gv mv ++ F')) W2 Y:=(htX.mono (fun z hz=>by simp only [List.mem_cons,List.mem_append,lsts] at hz ⊢; rcases hz with h | h; exact .inr (.inr (.inr (.inl h))); exact .inr (.inr (.inr (.inr (.inl (.inl h))))))).trans (ht2.mono (fun z hz=>by simp only [List.mem_cons,List.mem_append,lsts] at hz ⊢; rcases hz with h | h | h; exact .inr (.inr (.inr (.inl h))); exact .inr (.inr (.inr (.inr (.inl (.inr h))))); exact .inr (.inr (.inr (.inr (.inr h))))))
    refine ⟨hTY,b3 :: b5 :: tb :: cb :: (lsts gv' mv' ++ F2),⟨⟨F2,gv',mv',s2,m2,root2,err2,rfl,?_,?_,?_,HSI.out.trans (n1:=W2.heap.size) ⟨fun z hz=>(hW2 z hz).imp id (fun h=>by omega),fun g hg=>hgv' g hg,fun g hg=>(hmv2 g hg).imp id (fun h=>by omega)⟩ HNW.out⟩,hbY.1,hbY.2.1⟩,?_⟩
    ·rw [HD.out]
     simpa [Tr.hdS,Tr.hd] using hc2
    ·rw [HD.out,List.foldr_cons]
     exact ho2
    ·intro hm
     have h5:=HQ.out.2
     rcases mem_lsts.1 hm with hm | hm
     ·rcases hgv' _ hm with h | h
      ·exact HN5.out (mem_lsts.2 (.inl h))
      ·omega
     ·rcases hmv2 _ hm with h | h
      ·exact HN5.out (mem_lsts.2 (.inr h))
      ·omega
    ·intro z hz
     simp only [List.mem_cons,List.mem_append,lsts,Option.mem_toList] at hz ⊢
     rcases hz with h | h | h | h | (h | h) | h
     ·exact .inl (.inl h)
     ·exact .inl (.inr (.inl h))
     ·exact .inl (.inr (.inr (.inl h)))
     ·exact .inl (.inr (.inr (.inr (.inl h))))
     ·rcases hgv' _ h with h | h
      ·exact .inl (.inr (.inr (.inr (.inr (.inl (.inl h))))))
      ·exact .inr h
     ·rcases hmv2 _ h with h | h
      ·exact .inl (.inr (.inr (.inr (.inr (.inl (.inr h))))))
      ·exact .inr (by omega)
     ·rcases hW2 _ h with h | h
      ·exact .inl (.inr (.inr (.inr (.inr (.inr h)))))
      ·exact .inr (by omega)
 case done =>
  intro W G' hU hW hPW hT hK
  exact HK.out _ _ _ G' rfl rfl hU hW (by simpa using hT) hK (Nat.le_refl _)
end
end Go.Proofs.YtloljphbdfjgdaaGreatDoor
/- Package trie's climb, alone: whole. -/
namespace Go.Proofs.YtloljphbdfjgdaaGreatDoor
open Go.RowKit
theorem SR.type {B:Nat} {w:World} {v:Value} {l:List (Tr × Int)} (h:SR B w v l) {g:Nat} (hg:v.ownBlock=some g):∃ cs,w.heap[g]?=some (.cells cs 153 (0,0)):=by
 rcases h.own.2 with ⟨h0,_⟩ | ⟨g',c,cs,hv,_,hh,_⟩
 ·rw [h0] at hg; cases hg
 ·rw [hv] at hg; cases hg; exact ⟨cs,hh⟩
set_option maxRecDepth 100000 in
set_option maxHeartbeats 1600000 in
theorem cClimb {w:World} {B B2 cb tb p it m:Nat} {F:List Nat} {s s':PSt} {St:List Nat} {root old err more:Int} {had:Bool} {gv mv v:Value} {gone0:List Int} {l:List (Tr × Int)} {u0:Tr × Nat} {e:Tr} (hC:CG B w cb tb p F s' root old had gv mv gone0 (Tr.mades (gOf s St) m) err) (hO:OkU s St it s' m root err u0) (hsr:SR B2 w v l)
  (hl:l.length≤40) (hu0:u0.2≤10) (hg0:gone0.length≤10) (hit:it≤900000000) (hmore:more≤1) (hst:∀ y∈l,StpL s y) (hch:Tr.Chn e l) (hcnt:(u0.1.cnt:Int)=e.cnt+more) (hB:B≤w.heap.size) :
  Calls Tryz.prog 47 #[.pointer (some ⟨cb,0,none⟩),v,.int .i64 more] w fun e w'=>e=.returned (.tuple #[])∧∃ F' gv' mv' s2 m2 root2 err2,CG B w' cb tb p F' s2 root2 old had gv' mv' (gone0 ++ l.reverse.map Tr.hdS) (Tr.mades (gOf s St) m2) err2∧OkU s St it s2 m2 root2 err2 (l.foldr (Tr.up (gOf s St)) u0)∧Turned (cb :: (lsts gv mv ++ F)) w w'∧Wider F F' w∧(∀ g,gv'.ownBlock=some g→gv.ownBlock=some g∨w.heap.size≤g)∧(∀ g,mv'.ownBlock=some g→mv.ownBlock=some g∨w.heap.size≤g):=by
 obtain ⟨va,vc,rfl⟩:=hsr.form
 have HC:Hid (CG B w cb tb p F s' root old had gv mv gone0 (Tr.mades (gOf s St) m) err):=hC
 have HO:Hid (OkU s St it s' m root err u0):=hO
 have HS:Hid (SR B2 w (.slice va l.length vc) l):=hsr
 have HR:Hid (u0.2≤10∧gone0.length≤10∧it≤900000000∧more≤1∧(∀ y∈l,StpL s y)∧Tr.Chn e l∧(u0.1.cnt:Int)=e.cnt+more∧B≤w.heap.size):=⟨hu0,hg0,hit,hmore,hst,hch,hcnt,hB⟩
 clear hC hO hsr hu0 hg0 hit hmore hst hch hcnt hB
 refine calls_marks Tryz.func47 rfl ?_
 simp only [Tryz.ntmps47,List.size_toArray,List.length_cons,List.length_nil,Nat.reduceAdd,Nat.reduceSub,Array.replicate_succ,Array.replicate_zero,List.push_toArray,List.append_toArray,List.nil_append,List.cons_append]
 go_wp2_with (go_at_call 79; refine (cBackS _ _ _ _).mono ?_; rintro e w3 ⟨rfl,rfl⟩)
 obtain ⟨hu0,hg0,hit,hmore,hst,hch,hcnt,hB⟩:=HR.out
 have hC:=HC.out
 have hFlt:∀ z,z∈F→z < w.heap.size:=fun z hz=>poolLaws.lt hC.at_ z hz
 have hcb:=lt_of_heap hC.obj
 have htb:=lt_of_heap hC.tr
 have hsr:=HS.out
 obtain ⟨w3,hw3⟩:∃ w3,w3=((w.alloc (.cells #[.pointer (some ⟨cb,0,none⟩)] 175 (0,0))).alloc (.cells #[.int .i64 more] 3 (0,0))).alloc (.cells #[.slice va l.length vc] 130 (0,0)):=⟨_,rfl⟩
 have t3:Turned [] w w3:=by rw [hw3]; exact (((Turned.refl _ _).alloc _).alloc _).alloc _
 have k3:w3.heap[w.heap.size]?=some (.cells #[.pointer (some ⟨cb,0,none⟩)] 175 (0,0)):=by rw [hw3]; exact blk_old (blk_old (blk_new _ _) _) _
 have k5:w3.heap[w.heap.size+1]?=some (.cells #[.int .i64 more] 3 (0,0)):=by
  rw [hw3]; refine blk_old ?_ _
  have:=blk_new (w.alloc (.cells #[.pointer (some ⟨cb,0,none⟩)] 175 (0,0))) (.cells #[.int .i64 more] 3 (0,0))
  rwa [World.size_alloc] at this
 have k8:w3.heap[w.heap.size+1+1]?=some (.cells #[.slice va l.length vc] 130 (0,0)):=by
  rw [hw3]
  have:=blk_new ((w.alloc (.cells #[.pointer (some ⟨cb,0,none⟩)] 175 (0,0))).alloc (.cells #[.int .i64 more] 3 (0,0))) (.cells #[.slice va l.length vc] 130 (0,0))
  rwa [World.size_alloc,World.size_alloc] at this
 have hsz:w3.heap.size=w.heap.size+3:=by rw [hw3]; simp
 refine climb_loop (F0:=F) (gv0:=gv) (mv0:=mv) (b3:=w.heap.size) (b5:=w.heap.size+1) (bx:=w.heap.size+1+1) (v:=.slice va l.length vc) (B:=B) (B2:=B2) (l:=l) (u0:=u0) (more:=more) (gone0:=gone0) (e:=e) (s:=s) (St:=St) (it:=it) (old:=old) (had:=had) (cb:=cb) (tb:=tb) (p:=p) (G:=w.heap.size :: (w.heap.size+1) :: tb :: cb :: (lsts gv mv ++ F)) rfl rfl rfl rfl rfl hl hu0 hg0 hit hmore hst hch hcnt ⟨by rw [← hw3]; exact k8,by rw [← hw3]; exact hsr.still t3⟩ ?_ (by rw [← hw3]; omega) (n0:=w.heap.size) (by rw [← hw3]; omega) ?_ ?_
 ·rw [← hw3]
  refine ⟨⟨F,gv,mv,s',m,root,err,rfl,by simpa using hC.still t3,by simpa using HO.out,fun hm=>?_,Since.refl⟩,k3,k5⟩
  rcases mem_lsts.1 hm with h | h
  ·have:=(hC.gr.fresh h).2; omega
  ·have:=(hC.mr.fresh h).2; omega
 ·intro z hz hm
  simp only [List.mem_cons,List.mem_append,Option.mem_toList] at hz
  rcases List.mem_cons.1 hm with e | hm
  ·subst e
   rcases hz with h | h | h | h | (h | h) | h
   ·omega
   ·omega
   ·omega
   ·omega
   ·have:=(hC.gr.fresh h).2; omega
   ·have:=(hC.mr.fresh h).2; omega
   ·have:=hFlt _ h; omega
  ·have e:=Option.mem_toList.1 hm
   have hz2:=(hsr.fresh e).2
   obtain ⟨cs,hcs⟩:=hsr.type e
   rcases hz with h | h | h | h | (h | h) | h
   ·omega
   ·omega
   ·subst h; exact other_type hcs hC.tr (by decide) rfl
   ·subst h; exact other_type hcs hC.obj (by decide) rfl
   ·obtain ⟨cs',h'⟩:=hC.gr.type h; exact other_type hcs h' (by decide) rfl
   ·obtain ⟨cs',h'⟩:=hC.mr.type h; exact other_type hcs h' (by decide) rfl
   ·exact poolAt_other hC.at_ hcs (by decide) h
 ·intro a' y D G' hs hd hU hW hTy hKD hDle
  rw [← hw3] at hW hTy hDle
  obtain ⟨F',gv',mv',s2,m2,root2,err2,rfl,hc2,ho2,n5,nSi⟩:=hU.ex
  rw [show l.length - l.length=0 by omega] at hc2 ho2
  simp only [List.drop_zero] at hc2 ho2
  have hG0:∀ z,z∈w.heap.size :: (w.heap.size+1) :: tb :: cb :: (lsts gv mv ++ F)→z∈cb :: (lsts gv mv ++ F)∨w.heap.size≤z∨z=tb:=fun z hz=>by
   simp only [List.mem_cons,List.mem_append] at hz ⊢
   rcases hz with h | h | h | h
   ·exact .inr (.inl (by omega))
   ·exact .inr (.inl (by omega))
   ·exact .inr (.inr h)
   ·exact .inl h
  have hTw:Turned (cb :: (lsts gv mv ++ F)) w y:=by
   refine Turned.drop (x:=tb) (Turned.inner (l:=tb :: cb :: (lsts gv mv ++ F)) (t3.mono (by simp)) hTy (fun z hz=>?_)) (hc2.tr.trans hC.tr.symm)
   rcases hG0 z hz with h | h | h
   ·exact .inl (List.mem_cons_of_mem _ h)
   ·exact .inr h
   ·exact .inl (by simp [h])
  have nD:∀ {cs:Array Value} {T:TypeId} {z:Nat},y.heap[z]?=some (.cells cs T (0,0))→z≠D:=fun hz e=>by subst e; rw [hKD] at hz; cases hz
  have hput:Turned [D] y (y.putObj D (.deferred none)):=turned_put _
  have hcF:=hc2.keep hput (by simpa using nD hc2.obj) (by simpa using nD hc2.tr) (fun z hz hm=>by simp at hz; subst hz; exact poolAt_noDeferred hc2.at_ hm hKD) (fun g hg=>by obtain ⟨cs,h⟩:=hc2.gr.type hg; simpa using nD h) (fun g hg=>by obtain ⟨cs,h⟩:=hc2.mr.type hg; simpa using nD h)
  refine marks_end hKD (results_none rfl _ _ _) hd ⟨rfl,F',gv',mv',s2,m2,root2,err2,hcF,ho2,hTw.inner hput (fun z hz=>by simp at hz; omega),nSi.f,nSi.g,nSi.m⟩
end Go.Proofs.YtloljphbdfjgdaaGreatDoor
/- A frame, spelled out. -/
namespace Go.Proofs.YtloljphbdfjgdaaGreatDoor
open Go.RowKit
def lit41 (c:Nat→Value):Array Value:=#[c 0,c 1,c 2,c 3,c 4,c 5,c 6,c 7,c 8,c 9,c 10,c 11,c 12,c 13,c 14,c 15,c 16,c 17,c 18,c 19,c 20,c 21,c 22,c 23,c 24,c 25,c 26,c 27,c 28,c 29,c 30,c 31,c 32,c 33,c 34,c 35,c 36,c 37,c 38,c 39,c 40]
set_option maxRecDepth 100000 in
theorem lit41_eq (c:Nat→Value):lit41 c=((List.range 41).map c).toArray:=by rfl
theorem expand41 {a:Act} (hs:a.tmps.size=41) (hd:a.defers=[]):∃ c:Nat→Value,a=⟨lit41 c,[]⟩∧∀ s,c s=a.eval (.tmp s):=by
 refine ⟨fun s=>a.tmps.getD s undef,?_,fun s=>rfl⟩
 obtain ⟨t,d⟩:=a
 simp only at hs hd
 subst hd
 congr 1
 rw [lit41_eq]
 refine Array.ext (by simp [hs]) fun i h1 h2=>?_
 simp [Array.getD,h1]
theorem expand41d {a:Act} {ds:List Deferred} (hs:a.tmps.size=41) (hd:a.defers=ds):∃ c:Nat→Value,a=⟨lit41 c,ds⟩∧∀ s,c s=a.eval (.tmp s):=by
 refine ⟨fun s=>a.tmps.getD s undef,?_,fun s=>rfl⟩
 obtain ⟨t,d⟩:=a
 simp only at hs hd
 subst hd
 congr 1
 rw [lit41_eq]
 refine Array.ext (by simp [hs]) fun i h1 h2=>?_
 simp [Array.getD,h1]
end Go.Proofs.YtloljphbdfjgdaaGreatDoor
/- Package trie's end, alone: the loop that gives back. -/
namespace Go.Proofs.YtloljphbdfjgdaaGreatDoor
open Go.RowKit Go.Shelf
attribute [local go_sem] Oper.semAt_some
structure EJ (n0:Nat) (F0:List Nat) (b1 cb tb p it:Nat) (o:Obj) (l:List Int) (s:PSt) (St:List Nat) (j:Nat) (G:List Nat) (w:World):Prop where
 ex:∃ F' s' St',G=b1 :: cb :: tb :: F'∧PoolAt w p F' s'∧Gave s s' St St' it (l.drop (l.length - j))∧(∀ z,z∈F'→z∈F0∨n0≤z)
 h1:w.heap[b1]?=some (.cells #[.pointer (some ⟨cb,0,none⟩)] 175 (0,0))
 ho:w.heap[cb]?=some o
 hT:w.heap[tb]?=some (.cells #[.pointer (some ⟨p,0,none⟩)] 96 (0,0))
section
variable {n0:Nat} {F0:List Nat} {x:World} {b1 b2 bx cb tb p B it:Nat} {v:Value} {l:List Int} {F:List Nat} {s:PSt} {St:List Nat} {a:Act} {Q:Exit→Act→World→Prop} {root old err:Int} {had:Bool} {gv mv:Value}
theorem EJ.keep {o:Obj} {j:Nat} {G L:List Nat} {w w':World} (h:EJ n0 F0 b1 cb tb p it o l s St j G w) (ht:Turned L w w') (hL:∀ x,x∈L→x∉G):EJ n0 F0 b1 cb tb p it o l s St j G w':=by
 obtain ⟨F',s',St',rfl,hA,hg,hw⟩:=h.ex
 exact ⟨⟨F',s',St',rfl,poolLaws.keep hA ht (fun x hx hm=>hL x hx (by simp [hm])),hg,hw⟩,ht.heap h.h1 (fun hm=>hL _ hm (by simp)),ht.heap h.ho (fun hm=>hL _ hm (by simp)),ht.heap h.hT (fun hm=>hL _ hm (by simp))⟩
theorem EJ.lt {o:Obj} {j:Nat} {G:List Nat} {w:World} (h:EJ n0 F0 b1 cb tb p it o l s St j G w):∀ z,z∈G→z < w.heap.size:=by
 obtain ⟨F',s',St',rfl,hA,hg,hw⟩:=h.ex
 intro z hz
 simp only [List.mem_cons] at hz
 rcases hz with rfl | rfl | rfl | hz
 ·exact lt_of_heap h.h1
 ·exact lt_of_heap h.ho
 ·exact lt_of_heap h.hT
 ·exact poolLaws.lt hA z hz
def EPh (W:World) (A T:World→Prop):Nat→(Nat→Value)→World→Prop
 | 0,_,x=>A x∧Turned [] W x
 | _,_,x=>A x∧T x
theorem EPh.ax {W x:World} {A T:World→Prop} {g:Nat} {u:Nat→Value} (h:EPh W A T g u x):A x:=by
 match g,h with
 | 0,h=>exact h.1
 | _+1,h=>exact h.1
set_option maxRecDepth 100000 in
set_option maxHeartbeats 1600000 in
theorem end_loop (hs:a.tmps.size=41) (hd:a.defers=[]) (x1:a.eval (.tmp 1)=.pointer (some ⟨b1,0,none⟩)) (x2:a.eval (.tmp 2)=.pointer (some ⟨b2,0,none⟩)) (x20:a.eval (.tmp 20)=.func (.func 103) #[] #[.pointer (some ⟨bx,0,none⟩)])
  (hl:l.length≤10000) {G:List Nat} (hP:PreI bx B v l x) (hJ:EJ n0 F0 b1 cb tb p it (chObj tb root old had gv mv err) l s St 0 G x) (hX:∀ z,z∈G→z∉bx :: v.ownBlock.toList) (hn0:n0≤x.heap.size) (hc:∀ y∈l,∃ n,Ct s y n) (hnd:l.Nodup) (hit:it+l.length+1≤1000000000)
  (hK:∀ a' y D G',a'.tmps.size=41→a'.defers=[markD D]→a'.eval (.tmp 1)=.pointer (some ⟨b1,0,none⟩)→a'.eval (.tmp 2)=.pointer (some ⟨b2,0,none⟩)→EJ n0 F0 b1 cb tb p it (chObj tb root old had gv mv err) l s St l.length G' y→Turned G x y→y.heap[D]?=some (.deferred (some []))→x.heap.size≤D→Q .normal a' y):(atc Tryz.f44.body [1,1,0,1,0]).wp Tryz.prog Q a x:=by
 obtain ⟨cc,hcc,hce⟩:=expand41 hs hd
 have g1:=(hce 1).trans x1
 have g2:=(hce 2).trans x2
 have g20:=(hce 20).trans x20
 clear hce hs hd x1 x2 x20
 subst hcc
 conv=>arg 2; whnf
 simp only [lit41,g1,g2,g20]
 clear g1 g2 g20
 have HK:Hid _:=hK
 have HX:Hid (∀ z,z∈G→z∉bx :: v.ownBlock.toList):=hX
 have HP:Hid (PreI bx B v l x):=hP
 have HJ:Hid (EJ n0 F0 b1 cb tb p it (chObj tb root old had gv mv err) l s St 0 G x):=hJ
 have HC:Hid ((∀ y∈l,∃ n,Ct s y n)∧l.Nodup∧it+l.length+1≤1000000000∧n0≤x.heap.size):=⟨hc,hnd,hit,hn0⟩
 clear hK hX hP hJ hc hnd hit hn0
 refine wp_range (N:=l.length) (xs:=xsI l) (F:=[]) (R:=bx :: v.ownBlock.toList) (Pre:=PreI bx B v l) (G:=G)
  (I:=EJ n0 F0 b1 cb tb p it (chObj tb root old had gv mv err) l s St) (Ix:=fun _ _ _=>False) rfl (enters_of Tryz.func103 (by kernel_rfl) rfl) (iterI (by omega)) (fun j=>rfl) (fun h1 h2 h3=>h1.keep h2 h3) (fun h=>h.lt) (fun h _=>h.elim) ?keepP HJ.out HP.out (fun z hz=>⟨by simp,HX.out z hz⟩) (by simp) ?hR ?round ?done (fun c j W _ h=>h.elim)
 case keepP =>
  intro w2 w3 L h ht hL
  have hl:=HP.out.lt
  exact h.keep ht (fun hm=>by have:=hL _ hm; omega) (fun g hg hm=>by have:=hL _ hm; have:=hl.2 g hg; omega)
 case hR =>
  intro z hz
  have hl:=HP.out.lt
  rcases List.mem_cons.1 hz with rfl | hz
  ·exact hl.1
  ·exact hl.2 z (Option.mem_toList.1 hz)
 case round =>
  rintro j hj G W hU hlW hlG
  have hix:l.length - 1 - j < l.length:=by omega
  have hxs:xsI l j=#[.int .i64 ((l.length - 1 - j:Nat):Int),.int .i64 l[l.length - 1 - j]]:=by
   unfold xsI
   rw [List.getD_eq_getElem?_getD,List.getElem?_eq_getElem hix]
   rfl
  rw [hxs]
  have hdrop:l.drop (l.length - (j+1))=l[l.length - 1 - j] :: l.drop (l.length - j):=by
   rw [show l.length - (j+1)=l.length - 1 - j by omega,List.drop_eq_getElem_cons hix,show l.length - 1 - j+1=l.length - j by omega]
  obtain ⟨nn,hn0⟩:=HC.out.1 _ (List.getElem_mem hix)
  have hnot:l[l.length - 1 - j]∉l.drop (l.length - j):=by
   have h2:(l.drop (l.length - (j+1))).Nodup:=HC.out.2.1.sublist (List.drop_sublist _ _)
   rw [hdrop] at h2
   exact (List.nodup_cons.1 h2).1
  have hln:(l.drop (l.length - j)).length=j:=by rw [List.length_drop]; omega
  generalize l[l.length - 1 - j]=hh at *
  have HU:Hid _:=hU
  have HLG:Hid (x.heap.size+1∉G):=hlG
  have HLW:Hid _:=hlW
  have HD:Hid _:=hdrop
  have HN:Hid (Ct s hh nn∧hh∉l.drop (l.length - j)∧(l.drop (l.length - j)).length=j):=⟨hn0,hnot,hln⟩
  clear hxs hU hlG hdrop hn0 hnot hln hlW
  gi_wp2
  refine ⟨Turned.refl _ _,fun W2 h2=>?_⟩
  have hU2:=HU.out.keep h2 (fun z hz hm=>by simp at hz; subst hz; exact HLG.out hm)
  have hsz2:=h2.size
  obtain ⟨F',s',St',rfl,hA,hg,hw⟩:=hU2.ex
  have HNW:Hid (n0≤W2.heap.size):=by show n0≤_; have:=HC.out.2.2.2; have:=HLW.out; omega
  have HG:Hid _:=hg
  have HW:Hid _:=hw
  have HU2:Hid (EJ n0 F0 b1 cb tb p it (chObj tb root old had gv mv err) l s St j (b1 :: cb :: tb :: F') W2):=hU2
  have HA:Hid (PoolAt W2 p F' s'):=hA
  clear hU2 hg hw h2 hA hsz2
  gi_wp2
  refine wpIn_then ?_
  have n1:b1∉F':=poolAt_other HA.out HU2.out.h1 (by decide)
  have n2:cb∉F':=poolAt_other HA.out HU2.out.ho (by decide)
  have n3:tb∉F':=poolAt_other HA.out HU2.out.hT (by decide)
  refine end_r5 (b1:=b1) (cb:=cb) (tb:=tb) (p:=p) (h:=hh) (Ph:=EPh W2 (fun y=>y.heap[b1]?=some (.cells #[.pointer (some ⟨cb,0,none⟩)] 175 (0,0))∧y.heap[cb]?=some (chObj tb root old had gv mv err)∧y.heap[tb]?=some (.cells #[.pointer (some ⟨p,0,none⟩)] 96 (0,0))) (fun y=>Turned F' W2 y∧∃ F2 s2 St2,PoolAt y p F2 s2∧Wider F' F2 W2∧Gave s s2 St St2 it (hh :: l.drop (l.length - j)))) rfl rfl rfl ?_ ⟨⟨HU2.out.h1,HU2.out.ho,HU2.out.hT⟩,(Turned.refl _ _).drew⟩ ?_ ?_
  ·intro g u z hz
   have hb:=hz.ax
   exact ⟨by rw [cell_at hb.1]; rfl,by rw [cell_at hb.2.1]; rfl,by rw [cell_at hb.2.1]; rfl,by rw [cell_at hb.2.2]; rfl⟩
  ·intro u z hz
   have htz:Turned [] W2 z:=hz.2
   refine (cGive (HA.out.still htz) HG.out (by rw [HN.out.2.2]; have:=HC.out.2.2.1; omega) (HG.out.ct _ _ HN.out.1 HN.out.2.1)).mono ?_
   rintro e w' ⟨rfl,ht,F2,s2,St2,hA2,hW2,hg2⟩
   exact ⟨rfl,⟨ht.heap hz.1.1 n1,ht.heap hz.1.2.1 n2,ht.heap hz.1.2.2 n3⟩,(htz.mono (by simp)).trans ht,F2,s2,St2,hA2,(fun k hk=>(hW2 k hk).imp id (Nat.le_trans htz.size)),hg2⟩
  ·rintro a3 Y u3 hs3 hd3 hoff3 ⟨hbY,htY,F2,s2,St2,hA2,hW2,hg2⟩
   refine ⟨htY.mono (fun z hz=>by simp [hz]),b1 :: cb :: tb :: F2,⟨⟨F2,s2,St2,rfl,hA2,by rw [HD.out]; exact hg2,fun z hz=>?_⟩,hbY.1,hbY.2.1,hbY.2.2⟩,fun z hz=>?_⟩
   ·rcases hW2 z hz with h | h
    ·exact HW.out z h
    ·exact .inr (by have:=HNW.out; omega)
   ·simp only [List.mem_cons] at hz ⊢
    rcases hz with h | h | h | h
    ·exact .inl (.inl h)
    ·exact .inl (.inr (.inl h))
    ·exact .inl (.inr (.inr (.inl h)))
    ·rcases hW2 z h with h' | h'
     ·exact .inl (.inr (.inr (.inr h')))
     ·exact .inr h'
 case done =>
  intro W G' hU hW hPW hT hK
  exact HK.out _ _ _ G' rfl rfl rfl rfl hU (by simpa using hT) hK (Nat.le_refl _)
end
end Go.Proofs.YtloljphbdfjgdaaGreatDoor
/- Package trie's end, alone: whole. -/
namespace Go.Proofs.YtloljphbdfjgdaaGreatDoor
open Go.RowKit
abbrev edit (root old:Int) (had:Bool) (gv mv:Value):Value:=.agg #[.int .i64 root,.int .i64 old,.bool had,gv,mv]
section
variable {w:World} {B cb tb p it m:Nat} {F:List Nat} {s s':PSt} {St:List Nat} {root old err:Int} {had:Bool} {gv mv:Value} {gone made:List Int}
set_option maxRecDepth 100000 in
set_option maxHeartbeats 1600000 in
theorem cEndOk (hC:CG B w cb tb p F s' root old had gv mv gone made 0):Calls Tryz.prog 44 #[.pointer (some ⟨cb,0,none⟩)] w fun e w'=>e=.returned (.tuple #[edit root old had gv mv,.int .i64 0])∧Turned [] w w':=by
 obtain ⟨ga,gc,hg⟩:=hC.gr.form
 obtain ⟨ma,mc,hm⟩:=hC.mr.form
 have ho:=hC.obj
 have lcb:=lt_of_heap ho
 clear hC
 generalize gone.length=gl at *
 generalize made.length=ml at *
 subst hg hm
 have c2:w.cell? ⟨cb,2,none⟩=some (.int .i64 root):=by rw [cell_at ho]; rfl
 have c3:w.cell? ⟨cb,3,none⟩=some (.int .i64 old):=by rw [cell_at ho]; rfl
 have c4:w.cell? ⟨cb,4,none⟩=some (.bool had):=by rw [cell_at ho]; rfl
 have c5:w.cell? ⟨cb,5,none⟩=some (.slice ga gl gc):=by rw [cell_at ho]; rfl
 have c6:w.cell? ⟨cb,6,none⟩=some (.slice ma ml mc):=by rw [cell_at ho]; rfl
 have c7:w.cell? ⟨cb,7,none⟩=some (.int .i64 0):=by rw [cell_at ho]; rfl
 clear ho
 refine calls_marks Tryz.func44 rfl ?_
 simp only [Tryz.ntmps44,List.size_toArray,List.length_cons,List.length_nil,Nat.reduceAdd,Nat.reduceSub,Array.replicate_succ,Array.replicate_zero,List.push_toArray,List.append_toArray,List.nil_append,List.cons_append]
 go_wp2
 refine marks_plain (v:=.tuple #[edit root old had (.slice ga gl gc) (.slice ma ml mc),.int .i64 0]) ?_ rfl ⟨rfl,((Turned.refl _ _).alloc _).alloc _⟩
 simp [results,Tryz.results44,go_sem]
structure Back (s s2:PSt) (St St2:List Nat) (it m:Nat):Prop where
 pv:PV s2 St2 (it+m+m)
 n:s2.n=s.n
 faults:s2.faults=s.faults
 room:St2.length=St.length
 ct:∀ h x,Ct s h x→Ct s2 h x
theorem Back.of {s2:PSt} {St2:List Nat} (hV:PV s St it) (hM:MK s St it m s') (hG:Gave s' s2 (St.drop m) St2 (it+m) (Tr.mades (gOf s St) m)):Back s s2 St St2 it m:=by
 have hl:(Tr.mades (gOf s St) m).length=m:=by simp [Tr.mades]
 refine ⟨by have:=hG.pv; rwa [hl] at this,hG.n.trans hM.n,hG.faults.trans hM.faults,?_,fun h x hx=>hG.ct h x (hM.ct h x hx) (fun hm=>?_)⟩
 ·have:=hG.room
  rw [hl,List.length_drop] at this
  have:=hM.le
  omega
 ·simp only [Tr.mades,List.mem_map,List.mem_range] at hm
  obtain ⟨j,hj,rfl⟩:=hm
  have:=hM.le
  exact gOf_fresh hV (by omega) x hx
set_option maxRecDepth 100000 in
set_option maxHeartbeats 1600000 in
theorem cEndFail (hC:CG B w cb tb p F s' root old had gv mv gone (Tr.mades (gOf s St) m) 102) (hV:PV s St it) (hM:MK s St it m s') (hm:m≤1000) (hit:it≤900000000):Calls Tryz.prog 44 #[.pointer (some ⟨cb,0,none⟩)] w fun e w'=>e=.returned (.tuple #[edit 0 0 false (.slice none 0 0) (.slice none 0 0),.int .i64 102])∧Turned F w w'∧∃ F' s2 St2,PoolAt w' p F' s2∧Wider F F' w∧w'.heap[tb]?=w.heap[tb]?∧Back s s2 St St2 it m:=by
 have hml:(Tr.mades (gOf s St) m).length=m:=by simp [Tr.mades]
 obtain ⟨ma,mc,hmv⟩:=hC.mr.form
 have ho:=hC.obj
 have lcb:=lt_of_heap ho
 have HC:Hid _:=hC
 have HV:Hid (PV s St it∧MK s St it m s'∧m≤1000∧it≤900000000):=⟨hV,hM,hm,hit⟩
 have HL:Hid _:=hml
 have c6:w.cell? ⟨cb,6,none⟩=some (.slice ma m mc):=by rw [cell_at ho,← hml,← hmv]; rfl
 have c7:w.cell? ⟨cb,7,none⟩=some (.int .i64 102):=by rw [cell_at ho]; rfl
 have HMV:Hid (mv=.slice ma m mc):=by rw [← hml]; exact hmv
 clear ho hC hV hM hm hit hml hmv
 refine calls_marks Tryz.func44 rfl ?_
 simp only [Tryz.ntmps44,List.size_toArray,List.length_cons,List.length_nil,Nat.reduceAdd,Nat.reduceSub,Array.replicate_succ,Array.replicate_zero,List.push_toArray,List.append_toArray,List.nil_append,List.cons_append]
 go_wp2_with (go_at_call 74; refine (cBackI _ _ _ _).mono ?_; rintro e w3 ⟨rfl,rfl⟩)
 obtain ⟨hV,hM,hm,hit⟩:=HV.out
 have hC:=HC.out
 have hFlt:∀ z,z∈F→z < w.heap.size:=fun z hz=>poolLaws.lt hC.at_ z hz
 have htb:=lt_of_heap hC.tr
 obtain ⟨w3,hw3⟩:∃ w3,w3=((w.alloc (.cells #[.pointer (some ⟨cb,0,none⟩)] 175 (0,0))).alloc (.cells #[.int .i64 0,.int .i64 0,.bool false,.slice none 0 0,.slice none 0 0] 40 (0,0))).alloc (.cells #[.slice ma m mc] 38 (0,0)):=⟨_,rfl⟩
 have t3:Turned [] w w3:=by rw [hw3]; exact (((Turned.refl _ _).alloc _).alloc _).alloc _
 have k1:w3.heap[w.heap.size]?=some (.cells #[.pointer (some ⟨cb,0,none⟩)] 175 (0,0)):=by rw [hw3]; exact blk_old (blk_old (blk_new _ _) _) _
 have k2:w3.heap[w.heap.size+1]?=some (.cells #[.int .i64 0,.int .i64 0,.bool false,.slice none 0 0,.slice none 0 0] 40 (0,0)):=by
  rw [hw3]; refine blk_old ?_ _
  have:=blk_new (w.alloc (.cells #[.pointer (some ⟨cb,0,none⟩)] 175 (0,0))) (.cells #[.int .i64 0,.int .i64 0,.bool false,.slice none 0 0,.slice none 0 0] 40 (0,0))
  rwa [World.size_alloc] at this
 have k8:w3.heap[w.heap.size+1+1]?=some (.cells #[.slice ma m mc] 38 (0,0)):=by
  rw [hw3]
  have:=blk_new ((w.alloc (.cells #[.pointer (some ⟨cb,0,none⟩)] 175 (0,0))).alloc (.cells #[.int .i64 0,.int .i64 0,.bool false,.slice none 0 0,.slice none 0 0] 40 (0,0))) (.cells #[.slice ma m mc] 38 (0,0))
  rwa [World.size_alloc,World.size_alloc] at this
 have hsz:w3.heap.size=w.heap.size+3:=by rw [hw3]; simp
 have hmr:IR B w (.slice ma m mc) (Tr.mades (gOf s St) m):=by rw [← HMV.out]; exact hC.mr
 refine end_loop (n0:=w.heap.size) (F0:=F) (b1:=w.heap.size) (b2:=w.heap.size+1) (bx:=w.heap.size+1+1) (B:=B) (v:=.slice ma m mc) (l:=Tr.mades (gOf s St) m) (cb:=cb) (tb:=tb) (p:=p) (it:=it+m) (root:=root) (old:=old) (had:=had) (gv:=gv) (mv:=mv) (err:=102) (s:=s') (St:=St.drop m) (G:=w.heap.size :: cb :: tb :: F) rfl rfl rfl rfl rfl (by rw [HL.out]; omega) ⟨by rw [← hw3]; exact k8,by rw [← hw3]; exact hmr.keep t3 (by simp)⟩ ?_ ?_ (by rw [← hw3]; omega) ?_ (mades_nodup hV hM.le) (by rw [HL.out]; omega) ?_
 ·rw [← hw3]
  exact ⟨⟨F,s',St.drop m,rfl,hC.at_.still t3,by simp; exact Gave.nil hM.pv,fun z hz=>.inl hz⟩,k1,t3.heap hC.obj (by simp),t3.heap hC.tr (by simp)⟩
 ·intro z hz hm
  simp only [List.mem_cons] at hz
  rcases List.mem_cons.1 hm with e | hm
  ·subst e
   rcases hz with h | h | h | h
   ·omega
   ·omega
   ·omega
   ·have:=hFlt _ h; omega
  ·have e:=Option.mem_toList.1 hm
   have hz2:=(hmr.fresh e).2
   obtain ⟨cs,hcs⟩:=hmr.type e
   rcases hz with h | h | h | h
   ·omega
   ·subst h; exact other_type hcs hC.obj (by decide) rfl
   ·subst h; exact other_type hcs hC.tr (by decide) rfl
   ·exact poolAt_other hC.at_ hcs (by decide) h
 ·intro y hy
  simp only [Tr.mades,List.mem_map,List.mem_range] at hy
  obtain ⟨j,hj,rfl⟩:=hy
  exact hM.alive j hj
 ·intro a' y D G' hs hd x1 x2 hU hTy hKD hDle
  rw [← hw3] at hTy hDle
  obtain ⟨F',s2,St2,rfl,hA2,hg2,hw2⟩:=hU.ex
  rw [show ∀ n:Nat,n - n=0 from fun n=>by omega] at hg2
  simp only [List.drop_zero] at hg2
  have hB2:=Back.of hV hM hg2
  have hTw:Turned F w y:=by
   refine Turned.drop (x:=tb) (Turned.drop (x:=cb) (Turned.inner (l:=cb :: tb :: F) (t3.mono (by simp)) hTy (fun z hz=>?_)) (hU.ho.trans hC.obj.symm)) (hU.hT.trans hC.tr.symm)
   simp only [List.mem_cons] at hz ⊢
   rcases hz with h | h
   ·exact .inr (by omega)
   ·exact .inl h
  have hb2:y.heap[w.heap.size+1]?=some (.cells #[.int .i64 0,.int .i64 0,.bool false,.slice none 0 0,.slice none 0 0] 40 (0,0)):=hTy.heap k2 (fun hm=>by
   simp only [List.mem_cons] at hm
   rcases hm with h | h | h | h
   ·omega
   ·omega
   ·omega
   ·have:=hFlt _ h; omega)
  have nD:∀ {cs:Array Value} {T:TypeId} {z:Nat},y.heap[z]?=some (.cells cs T (0,0))→z≠D:=fun hz e=>by subst e; rw [hKD] at hz; cases hz
  obtain ⟨cc,hcc,hce⟩:=expand41d hs hd
  have g1:=(hce 1).trans x1
  have g2:=(hce 2).trans x2
  have HF:Hid (PoolAt y p F' s2∧(∀ z,z∈F'→z∈F∨w.heap.size≤z)∧Back s s2 St St2 it m∧Turned F w y∧w.heap.size+3≤D∧y.heap[D]?=some (.deferred (some []))∧y.heap[w.heap.size+1]?=some (.cells #[.int .i64 0,.int .i64 0,.bool false,.slice none 0 0,.slice none 0 0] 40 (0,0))∧y.heap[tb]?=w.heap[tb]?):=⟨hA2,hw2,hB2,hTw,by omega,hKD,hb2,hU.hT.trans hC.tr.symm⟩
  obtain ⟨q1,-⟩:=cells1 hU.h1
  have q7:y.cell? ⟨cb,7,none⟩=some (.int .i64 102):=by rw [cell_at hU.ho]; rfl
  have e0:y.cell? ⟨w.heap.size+1,0,none⟩=some (.int .i64 0):=by rw [cell_at hb2]; rfl
  have e1:y.cell? ⟨w.heap.size+1,1,none⟩=some (.int .i64 0):=by rw [cell_at hb2]; rfl
  have e2:y.cell? ⟨w.heap.size+1,2,none⟩=some (.bool false):=by rw [cell_at hb2]; rfl
  have e3:y.cell? ⟨w.heap.size+1,3,none⟩=some (.slice none 0 0):=by rw [cell_at hb2]; rfl
  have e4:y.cell? ⟨w.heap.size+1,4,none⟩=some (.slice none 0 0):=by rw [cell_at hb2]; rfl
  have z0:=froz_at hb2 0
  have z1:=froz_at hb2 1
  have z2:=froz_at hb2 2
  have z3:=froz_at hb2 3
  have z4:=froz_at hb2 4
  have nc:cb≠w.heap.size+1:=by omega
  have nb:w.heap.size≠w.heap.size+1:=by omega
  clear hce hs hd x1 x2 hU hTy hKD hDle hA2 hg2 hw2 hB2 hTw hb2 nD k1 k2 k8 t3 hw3 hsz hmr hC hV hM c6 c7
  subst hcc
  simp only [lit41,g1,g2]
  clear g1 g2
  go_wp2
  go_region
  obtain ⟨z,hz⟩:∃ z,z=(((((y.setCell ⟨w.heap.size+1,0,none⟩ (.int .i64 0)).setCell ⟨w.heap.size+1,1,none⟩ (.int .i64 0)).setCell ⟨w.heap.size+1,2,none⟩ (.bool false)).setCell ⟨w.heap.size+1,3,none⟩ (.slice none 0 0)).setCell ⟨w.heap.size+1,4,none⟩ (.slice none 0 0)).drew:=⟨_,rfl⟩
  obtain ⟨hA2,hw2,hB2,hTw,hD3,hKD,hb2,htb2⟩:=HF.out
  have hzb:z.heap[w.heap.size+1]?=some (.cells #[.int .i64 0,.int .i64 0,.bool false,.slice none 0 0,.slice none 0 0] 40 (0,0)):=by
   rw [hz]; exact blk_set (blk_set (blk_set (blk_set (blk_set hb2 0 _) 1 _) 2 _) 3 _) 4 _
  have htz:Turned [w.heap.size+1] y z:=by
   rw [hz]; exact ((((((Turned.refl _ _).set (.inl (by simp)) _ _).set (.inl (by simp)) _ _).set (.inl (by simp)) _ _).set (.inl (by simp)) _ _).set (.inl (by simp)) _ _).drew
  rw [← hz]
  have HZ:Hid (z.heap[w.heap.size+1]?=some (.cells #[.int .i64 0,.int .i64 0,.bool false,.slice none 0 0,.slice none 0 0] 40 (0,0))∧Turned [w.heap.size+1] y z):=⟨hzb,htz⟩
  clear hz hA2 hw2 hB2 hTw hD3 hKD hb2 htb2 hzb htz e0 e1 e2 e3 e4 z0 z1 z2 z3 z4 q1 q7
  go_wp2
  obtain ⟨hA2,hw2,hB2,hTw,hD3,hKD,hb2,htb2⟩:=HF.out
  obtain ⟨hzb,htz⟩:=HZ.out
  have hKz:z.heap[D]?=some (.deferred (some [])):=htz.heap hKD (by simp; omega)
  have hput:Turned [w.heap.size+1,D] y (z.putObj D (.deferred none)):=(htz.mono (by simp)).trans ((turned_put _).mono (by simp))
  have hzp:(z.putObj D (.deferred none)).heap[w.heap.size+1]?=some (.cells #[.int .i64 0,.int .i64 0,.bool false,.slice none 0 0,.slice none 0 0] 40 (0,0)):=(World.putObj_heap_other (by omega)).trans hzb
  refine marks_ret (v:=.tuple #[edit 0 0 false (.slice none 0 0) (.slice none 0 0),.int .i64 102]) hKz ?_ rfl ⟨rfl,hTw.inner hput (fun z hz=>by simp at hz; omega),F',s2,St2,poolLaws.keep hA2 hput (fun k hk hm=>?_),hw2,?_,hB2⟩
  ·have e0:(z.putObj D (.deferred none)).cell? ⟨w.heap.size+1,0,none⟩=some (.int .i64 0):=by rw [cell_at hzp]; rfl
   have e1:(z.putObj D (.deferred none)).cell? ⟨w.heap.size+1,1,none⟩=some (.int .i64 0):=by rw [cell_at hzp]; rfl
   have e2:(z.putObj D (.deferred none)).cell? ⟨w.heap.size+1,2,none⟩=some (.bool false):=by rw [cell_at hzp]; rfl
   have e3:(z.putObj D (.deferred none)).cell? ⟨w.heap.size+1,3,none⟩=some (.slice none 0 0):=by rw [cell_at hzp]; rfl
   have e4:(z.putObj D (.deferred none)).cell? ⟨w.heap.size+1,4,none⟩=some (.slice none 0 0):=by rw [cell_at hzp]; rfl
   simp [results,Tryz.results44,go_sem,e0,e1,e2,e3,e4]
  ·simp at hk
   rcases hk with rfl | rfl
   ·exact poolAt_other hA2 hb2 (by decide) hm
   ·exact poolAt_noDeferred hA2 hm hKD
  ·rw [← htb2]
   exact hput.block tb (by have:=hTw.size; omega) (by simp; omega)
end
end Go.Proofs.YtloljphbdfjgdaaGreatDoor
/- A frame, spelled out. -/
namespace Go.Proofs.YtloljphbdfjgdaaGreatDoor
open Go.RowKit
def lit49 (c:Nat→Value):Array Value:=#[c 0,c 1,c 2,c 3,c 4,c 5,c 6,c 7,c 8,c 9,c 10,c 11,c 12,c 13,c 14,c 15,c 16,c 17,c 18,c 19,c 20,c 21,c 22,c 23,c 24,c 25,c 26,c 27,c 28,c 29,c 30,c 31,c 32,c 33,c 34,c 35,c 36,c 37,c 38,c 39,c 40,c 41,c 42,c 43,c 44,c 45,c 46,c 47,c 48]
set_option maxRecDepth 100000 in
theorem lit49_eq (c:Nat→Value):lit49 c=((List.range 49).map c).toArray:=by rfl
theorem expand49 {a:Act} (hs:a.tmps.size=49) (hd:a.defers=[]):∃ c:Nat→Value,a=⟨lit49 c,[]⟩∧∀ s,c s=a.eval (.tmp s):=by
 refine ⟨fun s=>a.tmps.getD s undef,?_,fun s=>rfl⟩
 obtain ⟨t,d⟩:=a
 simp only at hs hd
 subst hd
 congr 1
 rw [lit49_eq]
 refine Array.ext (by simp [hs]) fun i h1 h2=>?_
 simp [Array.getD,h1]
end Go.Proofs.YtloljphbdfjgdaaGreatDoor

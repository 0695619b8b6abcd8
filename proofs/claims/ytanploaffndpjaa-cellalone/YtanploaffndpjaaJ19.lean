/- Of the proof. -/
import Derived.Test.YtanploaffndpjaaJ18
set_option maxRecDepth 100000
set_option linter.unusedSimpArgs false
set_option linter.unusedVariables false
namespace Go.Proofs.Ytanploaffndpjaa
open Go Go.Blind Go.Conc
def Ii:List (Option Nat):=[some 39,some 40,some 41,some 42,some 43,some 44,some 45,some 46]
abbrev Gs:Type:=Nat×Nat×Option Addr×Nat×List (Nat×Obj)
def pM (R b2 tb tl tc:Nat)(γ:Gs):Nat→Value
 | 0=>.pointer (some ⟨R,0,none⟩)
 | 1=>.pointer (some ⟨b2,1,none⟩)
 | 2=>.slice (some ⟨tb,0,none⟩) tl tc
 | 3=>.pointer (some ⟨γ.1,0,none⟩)
 | 4=>.pointer (some ⟨b2,3,none⟩)
 | 5=>.int .i64 0
 | 6=>.int .i64 20000
 | _=>.tuple #[]
section
variable {Y:aN}{Fin:bH}{s:Ring}{b:aJ}{arr ab cap:Nat}{cur:Array Value}{bs:List (Bq Y)}{σ:Y.σ}{k:Nat}{E:List (Nat×Obj)}{S:ai}{M:Nat→Prop}{w:World}
def yG (Y:aN)(Fin:bH)(R N arr ab cap:Nat)(cur:Array Value)(bs:List (Bq Y))(σ:Y.σ)(E:List (Nat×Obj))(ts:List Int)(pe:Ps Y)(S0:ai)(M0:Nat→Prop)(γ:Gs)(f:Array Bool)(S:ai)(M:Nat→Prop)(w:World):Prop :=
 (on f 3=true→on f 2=true)∧(on f 2=true→on f 1=true)∧(on f 6=true→on f 5=true)∧(on f 5=true→on f 4=true)∧(on f 7=true→∀ j,j < 7→on f j=true) ∧
  if on f 7 then GDone Y Fin R N arr ab cap cur E pe S M w else S=S0∧(∀ c,M0 c→M c)∧(on f 3=true→mW γ.1 γ.2.1 ts γ.2.2.1 γ.2.2.2.1 γ.2.2.2.2)∧Mm Try.prog M w ((if on f 3 then (γ.1,gP ts.length γ.2.2.1 γ.2.2.2.1 (-1+1)) :: γ.2.2.2.2 else []) ++ ((E ++ books ab cur bs) ++ Y.sh σ)) (halves bs)
variable {m b2 tb tc:Nat}{ts:List Int}{wv:Value}{fz:Nat×Nat}{pe:Ps Y}{a0:Act}{Q:aZ}
theorem SV (hs:a0.tmps.size=58)(h2:a0.eval (.tmp 2)=.pointer (some ⟨b2,0,none⟩))(h7:a0.eval (.tmp 7)=.pointer (some ⟨b.R,0,none⟩))(hb2:(b2,iN wv (.slice (some ⟨tb,0,none⟩) ts.length tc))∈E)(htb:(tb,Obj.cells (Tu.ints ts).toArray 3 fz)∈E)(hne:ts≠[])(hn2:ts.length≤1000000)(h8:bs.length≤8)(fK:Way 20000 m ⟨bs.map Bq.pure,σ,k,ts,-1⟩ pe)(h:GA Y Fin s b arr ab cap cur bs σ k E S M w)
  (hQ:∀ a w M' S',a.tmps.size=58→a.defers=a0.defers→(∀ x:Nat,x < 39→a.eval (.tmp x)=a0.eval (.tmp x))→GDone Y Fin b.R b.n arr ab cap cur E pe S' M' w→Q .normal S' M' a w) :
  aM Try.prog true 20 .normal (.region 10 (opsOf 10 Try.f20.body) true) Q S M a0 w:=by
 refine jy af Ii (by rw [hs];kernel_rfl) (Γ:=Gs) (pM b.R b2 tb ts.length tc) (fun γ f S' M' w=>yG Y Fin b.R b.n arr ab cap cur bs σ E ts pe S M γ f S' M' w) (0,0,none,0,[]) (fun w1 hr=>?_) (fun i' hi γ f' S' M' a w o ho hg hM hoi az hC=>?_) (fun γ f' S' M' a w hall hM hC=>?_)
 ·unfold yG
  simp only [kW]
  refine ⟨(fun h=>by cases h),(fun h=>by cases h),(fun h=>by cases h),(fun h=>by cases h),(fun h=>by cases h),?_⟩
  simp only [Bool.false_eq_true,if_false,List.nil_append]
  exact ⟨trivial,fun _ h=>h,(fun h=>h.elim),oq (h.mem.rely hr)⟩
 ·have hsz:f'.size=8:=hM.size
  have hw:=jd (a:=a) (ops:=(opsOf 10 Try.f20.body)) hg
  have hlt:i' < 8:=hi
  obtain ⟨k3,k2,k6,k5,k7,hC⟩:=hC
  have Bn:on f' 7=false:=Bool.eq_false_iff.2 fun h=>by
   by_cases e:i'=7
   ·subst e;rw [hoi] at h;cases h
   ·have:=k7 h i' ag;rw [hoi] at this;cases this
  rw [Bn] at hC
  simp only [Bool.false_eq_true,if_false] at hC
  obtain ⟨rfl,hup,hg3,hmm⟩:=hC
  obtain ⟨jb,hjb⟩:∃ jb:Nat,(((if on f' 3 then (γ.1,gP ts.length γ.2.2.1 γ.2.2.2.1 (-1+1)) :: γ.2.2.2.2 else []) ++ ((E ++ books ab cur bs) ++ Y.sh σ)) ++ halves bs)[jb]?=some (b2,iN wv (.slice (some ⟨tb,0,none⟩) ts.length tc)):=List.mem_iff_getElem?.1 (by simp [hb2])
  have again:∀ {γ':Gs} {w1:World} {M1:Nat→Prop},i'≠7→(i'≠3∨on f' 2=true)→(i'≠2∨on f' 1=true)→(i'≠6∨on f' 5=true)→(i'≠5∨on f' 4=true)→(∀ c,M c→M1 c)→(on (f'.setIfInBounds i' true) 3=true→mW γ'.1 γ'.2.1 ts γ'.2.2.1 γ'.2.2.2.1 γ'.2.2.2.2)→Mm Try.prog M1 w1 ((if on (f'.setIfInBounds i' true) 3 then (γ'.1,gP ts.length γ'.2.2.1 γ'.2.2.2.1 (-1+1)) :: γ'.2.2.2.2 else []) ++ ((E ++ books ab cur bs) ++ Y.sh σ)) (halves bs)→yG Y Fin b.R b.n arr ab cap cur bs σ E ts pe S' M γ' (f'.setIfInBounds i' true) S' M1 w1:=by
   intro γ' w1 M1 e7 e3 e2 e6 e5 fC hg3' hm1
   have mono:∀ j,on f' j=true→on (f'.setIfInBounds i' true) j=true:=fun j hj=>by
    by_cases e:i'=j
    ·subst e;exact bP ag
    ·rw [aB e];exact hj
   have back:∀ j,i'≠j→on (f'.setIfInBounds i' true) j=true→on f' j=true:=fun j e hj=>by rw [aB e] at hj;exact hj
   refine ⟨fun h=>?_,fun h=>?_,fun h=>?_,fun h=>?_,fun h=>?_,?_⟩
   ·exact e3.elim (fun e=>mono 2 (k3 (back 3 e h))) (mono 2)
   ·exact e2.elim (fun e=>mono 1 (k2 (back 2 e h))) (mono 1)
   ·exact e6.elim (fun e=>mono 5 (k6 (back 6 e h))) (mono 5)
   ·exact e5.elim (fun e=>mono 4 (k5 (back 5 e h))) (mono 4)
   ·have:=back 7 e7 h;rw [Bn] at this;cases this
   ·rw [aB e7,Bn]
    simp only [Bool.false_eq_true,if_false]
    exact ⟨trivial,fC,hg3',hm1⟩
  have still:∀ w1 x,i'≠3→i'≠7→(i'≠2∨on f' 1=true)→(i'≠6∨on f' 5=true)→(i'≠5∨on f' 4=true)→x=pM b.R b2 tb ts.length tc γ i'→∀ M1,(∀ c,M c→M1 c)→Mm Try.prog M1 w1 ((if on f' 3 then (γ.1,gP ts.length γ.2.2.1 γ.2.2.2.1 (-1+1)) :: γ.2.2.2.2 else []) ++ ((E ++ books ab cur bs) ++ Y.sh σ)) (halves bs)→∃ γ':Gs,a.put o.dst x=a.put o.dst (pM b.R b2 tb ts.length tc γ' i')∧(∀ j,on f' j=true→pM b.R b2 tb ts.length tc γ' j=pM b.R b2 tb ts.length tc γ j)∧yG Y Fin b.R b.n arr ab cap cur bs σ E ts pe S' M γ' (f'.setIfInBounds i' true) S' M1 w1:=by
   intro w1 x e3 e7 e2 e6 e5 hx M1 fC hm1
   refine ⟨γ,by rw [hx],fun _ _=>rfl,again e7 (.inl e3) e2 e6 e5 fC ?_ ?_⟩
   ·rw [aB e3];exact hg3
   ·rw [aB e3];exact hm1
  rcases (by omega:i'=0∨i'=1∨i'=2∨i'=3∨i'=4∨i'=5∨i'=6∨i'=7) with rfl | rfl | rfl | rfl | rfl | rfl | rfl | rfl
  ·exact aS ae ho hw (bK (x:=.tmp 7) (aC af ho) ((hM.slot ae).trans h7)) hmm fun w1=>still w1 _ ae ae (.inl ae) (.inl ae) (.inl ae) rfl _ hup
  ·exact aS ae ho hw (bZ (t:=39) (x:=.tmp 2) (k:=1) (fo:=1) (aC af ho) ((hM.slot ae).trans h2) af) hmm fun w1=>still w1 _ ae ae (.inl ae) (.inl ae) (.inl ae) rfl _ hup
  ·exact eU ae ho hw (t:=29) (x:=.tmp 40) (aC af ho) (n:=jb) (b:=b2) (k:=1) (hM.val 1 40 rfl (az 1 af)) hmm hjb (v:=.slice (some ⟨tb,0,none⟩) ts.length tc) rfl af fun w1=>still w1 _ ae ae (.inr (az 1 af)) (.inl ae) (.inl ae) rfl _ hup
  ·rw [hoi] at hmm
   simp only [Bool.false_eq_true,if_false,List.nil_append] at hmm
   refine nU ae ho hw (args:=#[.tmp 41]) (ats:=#[29]) (aC af ho) Try.func30 af af (ys:=#[.slice (some ⟨tb,0,none⟩) ts.length tc]) (by simp [hM.val 2 41 rfl (az 2 af),pM]) (SH (tb:=tb) (cap:=tc) (fz:=fz) (aO ((aO (htb)))) hne hn2 hmm _) fun e S2 M2 w2 hd=>?_
   obtain ⟨rfl,dF,ob,g,ao,c,TB,rfl,hO,hm2⟩:=hd
   refine ⟨_,rfl,(ob,g,ao,c,TB),rfl,fun j hj=>?_,again ae (.inr (az 2 af)) (.inl ae) (.inl ae) (.inl ae) (fun c hc=>dF c (hup c hc)) (fun _=>hO) ?_⟩
   ·match j,hj with
    | 3,hj=>rw [hoi] at hj;cases hj
    | 0,_=>rfl
    | 1,_=>rfl
    | 2,_=>rfl
    | 4,_=>rfl
    | 5,_=>rfl
    | 6,_=>rfl
    | n+7,_=>rfl
   ·rw [bP ag]
    exact hm2
  ·exact aS ae ho hw (bZ (t:=39) (x:=.tmp 2) (k:=3) (fo:=3) (aC af ho) ((hM.slot ae).trans h2) af) hmm fun w1=>still w1 _ ae ae (.inl ae) (.inl ae) (.inl ae) rfl _ hup
  ·exact eU ae ho hw (t:=3) (x:=.tmp 43) (aC af ho) (n:=jb) (b:=b2) (k:=3) (hM.val 4 43 rfl (az 4 af)) hmm hjb (v:=.int .i64 0) rfl af fun w1=>still w1 _ ae ae (.inl ae) (.inl ae) (.inr (az 4 af)) rfl _ hup
  ·refine nU ae ho hw (args:=#[.tmp 44]) (ats:=#[3]) (aC af ho) Try.func31 af af (ys:=#[.int .i64 0]) (by simp [hM.val 5 44 rfl (az 5 af),pM]) (sP (f:=31) af ⟨_,Try.func31⟩ (fun y hy=>by rw [Array.mem_singleton.1 hy];exact Old.int _ _) hmm [] (fun b hb=>by cases hb) (y:=.int .i64 20000) (Old.int _ _) (fun v _ _=>(PZ v).mono fun e v' q=>⟨q.1,fun b hb=>by cases hb⟩) _) fun e S2 M2 w2 hd=>?_
   obtain ⟨rfl,⟨rfl,hm2⟩,dF⟩:=hd
   exact ⟨_,rfl,still w2 _ ae ae (.inl ae) (.inr (az 5 af)) (.inl ae) rfl _ (fun c hc=>dF c (hup c hc)) hm2⟩
  ·have d3:=az 3 af
   have d6:=az 6 af
   have hO:=hg3 d3
   rw [d3] at hmm
   have hH:GA Y Fin s b arr ab cap cur bs σ k ((γ.1,gP ts.length γ.2.2.1 γ.2.2.2.1 (-1+1)) :: (γ.2.2.2.2 ++ E)) S' M' w:=h.with hup (hmm.perm (List.Perm.of_eq (by simp only [if_true,List.append_assoc,List.cons_append,List.nil_append])))
   refine nU ae ho hw (args:=#[.tmp 39,.tmp 42,.tmp 45]) (ats:=#[88,104,3]) (aC af ho) Try.func29 af af (ys:=#[.pointer (some ⟨b.R,0,none⟩),.pointer (some ⟨γ.1,0,none⟩),.int .i64 ((20000:Nat):Int)]) (by simp [hM.val 0 39 rfl (az 0 af),hM.val 3 42 rfl d3,hM.val 6 45 rfl d6,pM]) (SS (u:=20000) ae h8 hO fK hH) fun e S2 M2 w2 hd=>?_
   obtain ⟨rfl,hD⟩:=hd
   refine ⟨_,rfl,γ,rfl,fun _ _=>rfl,?_⟩
   have all:∀ j,j < 7→on f' j=true:=fun j hj=>by
    rcases (by omega:j=0∨j=1∨j=2∨j=3∨j=4∨j=5∨j=6) with rfl | rfl | rfl | rfl | rfl | rfl | rfl
    ·exact az 0 af
    ·exact k2 (k3 d3)
    ·exact k3 d3
    ·exact d3
    ·exact k5 (k6 d6)
    ·exact k6 d6
    ·exact d6
   have mono:∀ j,j < 7→on (f'.setIfInBounds 7 true) j=true:=fun j hj=>by rw [aB ag];exact all j hj
   refine ⟨fun _=>mono 2 ae,fun _=>mono 1 ae,fun _=>mono 5 ae,fun _=>mono 4 ae,fun _=>mono,?_⟩
   rw [bP ag]
   exact hD
 ·obtain ⟨k3,k2,k6,k5,k7,hC⟩:=hC
  rw [hall 7 ae] at hC
  exact hQ a w M' S' (hM.fV.trans hs) hM.defers (fun x hx=>hM.slot (by
   unfold Ii
   simp only [List.mem_cons,Option.some.injEq,List.not_mem_nil,or_false,reduceCtorEq]
   omega)) hC
end
theorem Bo {l1 l2:List (Nat×Obj)}(h:((l1 ++ l2).map Prod.fst).Nodup){p q:Nat×Obj}(hp:p∈l1)(hq:q∈l2):p.1≠q.1:=fun e=>by
 rw [List.map_append] at h
 exact (List.nodup_append.1 h).2.2 _ (List.mem_map_of_mem hp) _ (List.mem_map_of_mem hq) e
structure SX (Y:aN)(Fin:bH)(E0:List (Nat×Obj))(pe:Ps Y)(s:Ring)(b:aJ)(v:Value)(A:List (Nat×Obj))(bs:List (Bq Y))(X:List (Nat×Obj))(S:ai)(M:Nat→Prop)(w:World):Prop where
 row:Row 46 1 v bs.length (bs.map fun x=>x.k.ans) A
 pure:bs.map Bq.pure=pe.bs
 ok:∀ x∈bs,x.Ok b.R
 stop:S=aK Try.prog Fin s
 hE:s.E=(G2 b 0 True).env Try.prog
 fine:b.dL
 gone:∀ i,i≠0→i < s.size→s.O i=none
 n:s.size=b.n+1
 mem:Mm Try.prog M w X []
 old:∀ p∈E0,p∈X
 sh:∀ p∈Y.sh pe.σ,p∈X
 told:∀ p∈A,p∈X
 rows:∀ x∈bs,∀ p∈x.A,p∈X
def Ij (Y:aN)(Fin:bH)(E0:List (Nat×Obj))(pe:Ps Y):fu:=fun e S M w =>
 ∃ s b v A bs X,e=.returned (.tuple #[.agg (dA v pe.k false).toArray,.int .i64 0])∧SX Y Fin E0 pe s b v A bs X S M w
section
variable {Y:aN}{Fin:bH}{s:Ring}{b:aJ}{arr ab cap:Nat}{cur:Array Value}{bs:List (Bq Y)}{σ:Y.σ}{k:Nat}{E E0:List (Nat×Obj)}{S:ai}{M:Nat→Prop}{w:World}{m b2 b4 tb tc:Nat}{ts:List Int}{wv:Value}{fz:Nat×Nat}{pe:Ps Y}{a:Act}
theorem run_end (hs:a.tmps.size=58)(hd:a.defers=[])(h2:a.eval (.tmp 2)=.pointer (some ⟨b2,0,none⟩))(h4:a.eval (.tmp 4)=.pointer (some ⟨b4,0,none⟩))(h7:a.eval (.tmp 7)=.pointer (some ⟨b.R,0,none⟩))(hb2:(b2,iN wv (.slice (some ⟨tb,0,none⟩) ts.length tc))∈E)(hb4:(b4,bC (.slice none 0 0) 0 false)∈E)(htb:(tb,Obj.cells (Tu.ints ts).toArray 3 fz)∈E)(hE0:∀ p∈E0,p∈E∧p.1≠b4)(hne:ts≠[])(hn2:ts.length≤1000000)(h8:bs.length≤8)(Ze:pe.bs.length≤8)(hN:b.n=pe.bs.length)(fK:Way 20000 m ⟨bs.map Bq.pure,σ,k,ts,-1⟩ pe)(hdone:∀ x∈pe.bs,x.left=0∧x.own=0∧x.st=none)(h:GA Y Fin s b arr ab cap cur bs σ k E S M w) :
  aM Try.prog true 20 .normal (.seq (.region 10 (opsOf 10 Try.f20.body) true) (.seq (.region 11 (opsOf 11 Try.f20.body) false) (.seq (.region 12 (opsOf 12 Try.f20.body) false) (.seq (.region 13 (opsOf 13 Try.f20.body) false) (.seq (.region 14 (opsOf 14 Try.f20.body) false) .ret))))) (rE Try.prog 20 Try.f20 (Ij Y Fin E0 pe)) S M a w:=by
 refine ak (SV hs h2 h7 hb2 htb hne hn2 h8 fK h fun a1 w M1 S1 hs1 hd1 hk1 hD=>?_)
 obtain ⟨s1,b1,jk,E1,hsub,AY,hN1,hp1,hG⟩:=hD
 have g4:a1.eval (.tmp 4)=.pointer (some ⟨b4,0,none⟩):=(hk1 4 ae).trans h4
 have g7:a1.eval (.tmp 7)=.pointer (some ⟨b1.R,0,none⟩):=by rw [AY];exact (hk1 7 ae).trans h7
 have gd:a1.defers=[]:=hd1.trans hd
 have hl1:jk.length=pe.bs.length:=by rw [← hp1,List.length_map]
 have hd2:∀ x∈jk,x.k.left=0∧x.k.own=0∧x.w.st=none:=fun x hx=>hdone x.pure (by rw [← hp1];exact List.mem_map_of_mem hx)
 clear hk1 hd1
 obtain ⟨hS,hE,hf,hq,hz,hv0,hv1,hv4,hbn,hcr,hok,hm,jW,ji⟩:=id hG
 subst hS
 have hany:(jk.map Bq.k).any Bk.ready=false:=by
  rw [List.any_eq_false]
  intro y hy
  obtain ⟨x,hx,rfl⟩:=List.mem_map.1 hy
  unfold Bk.ready nX
  rw [(hd2 x hx).1]
  simp
 refine ak (kG [0,1,2] (kM (v:=.pointer (some ⟨b1.R,0,none⟩)) 47 7 hm fun w hm=>?_))
 refine kC (d:=some 48) (args:=#[.tmp 47]) (ats:=#[88]) Try.func32 (ys:=#[.pointer (some ⟨b1.R,0,none⟩)]) (by simp only [List.map_toArray,List.map_cons,List.map_nil];exact iM eV) (bG (QB hE hf hq (bs:=jk.map Bq.k) (by rw [List.length_map];exact hv0) (by rw [List.length_map];omega) hG.yn hm) fun e S2 M2 w hq2=>?_)
 obtain ⟨rfl,rfl,dF,hm⟩:=hq2
 rw [hany]
 refine kS (v:=.bool false) 10 48 hm fun w hm=>aA ?_
 have hG2:=hG.with dF hm
 clear hG jW
 refine ak (kG [0,1] (kM (v:=.pointer (some ⟨b1.R,0,none⟩)) 49 7 hm fun w hm=>?_))
 refine kC (d:=some 50) (args:=#[.tmp 49]) (ats:=#[88]) Try.func33 (ys:=#[.pointer (some ⟨b1.R,0,none⟩)]) (by simp only [List.map_toArray,List.map_cons,List.map_nil];exact iM eV) (bG (RA ag (fun x hx=>(hd2 x hx).1) (hG2.rely hm)) fun e S3 M3 w hq3=>?_)
 obtain ⟨rfl,hG3⟩:=hq3
 have vY:=hG3.stop
 subst vY
 have hm:=hG3.mem
 have eE:({ s1 with E:=(G0 b1 0).env Try.prog }:Ring)=s1:=by rw [← hE]
 have hO:∀ i,i≠0→i < s1.size→s1.O i=none:=fun i hi hlt=>by
  have hsz:=hcr.size
  rw [List.length_map] at hsz
  obtain ⟨x,hx⟩:∃ x,jk[i - 1]?=some x:=⟨_,List.getElem?_eq_getElem (show i - 1 < jk.length by omega)⟩
  have:=hcr.gone (i - 1) x.w (by rw [List.getElem?_map,hx];rfl) (hd2 x (List.mem_of_getElem? hx)).2.2
  rw [show i - 1+1=i by omega] at this
  exact this
 have hnn:b1.n < s1.size:=by
  have hsz:=hcr.size
  rw [List.length_map] at hsz
  omega
 have hsn:s1.size=b1.n+1:=by
  have hsz:=hcr.size
  rw [List.length_map] at hsz
  omega
 have hw:=NH (P:=Try.prog) (Fin:=Fin) (s:=s1) (b:=b1) hf hO hnn
 rw [eE,hq] at hw
 refine aA (ak (kG [0,1,2,3] (kM (v:=.pointer (some ⟨b1.R,0,none⟩)) 51 7 hm fun w hm=>?_)))
 refine kN 52 51 hm fun w hm=>kP (fo:=2) (off:=0) 53 99 52 2 hm fun w hm=>kC (d:=some 54) (args:=#[.tmp 53]) (ats:=#[97]) Try.func34 (ys:=#[.pointer (some ⟨b1.R,2,none⟩)]) (by simp only [List.map_toArray,List.map_cons,List.map_nil];exact iM eV) (EZ (bG (Nu Try.Au (R:=b1.R) (q:=2) (7 * b1.n+1)) fun e S4 M4 w4 hq4=>?_) hw)
 obtain ⟨rfl,rfl,rfl,rfl⟩:=hq4
 have hW:GW Y Fin { s1 with E:=(G2 b1 0 True).env Try.prog } b1 arr ab cap cur jk pe.σ pe.k E1 _ _ _:=⟨rfl,rfl,hf,hq,hv0,hv4,hok,hm,ji⟩
 refine aA (ak (kG [0,1,2,3,4] (kM (v:=.pointer (some ⟨b1.R,0,none⟩)) 55 7 hm fun w hm=>?_)))
 refine kM (v:=.bool false) 56 10 hm fun w hm=>kC (d:=some 57) (args:=#[.tmp 55,.tmp 56]) (ats:=#[88,4]) Try.func35 (ys:=#[.pointer (some ⟨b1.R,0,none⟩),.bool false]) (by simp only [List.map_toArray,List.map_cons,List.map_nil];exact tK eV eV) (bG (Rp (cut:=false) ag (fun x hx=>(hd2 x hx).2.1) (hW.with (fun _ hc=>hc) hm)) fun e S5 M5 w SY=>?_)
 obtain ⟨v,A,more,rfl,hrow,Ik⟩:=SY
 have hm:=Ik.mem
 have yH:(b4,bC (.slice none 0 0) 0 false)∈E1:=hsub _ hb4
 obtain ⟨l1,l2,hl⟩:=List.append_of_mem (show (b4,bC (.slice none 0 0) 0 false)∈((A ++ (more ++ E1)) ++ books ab cur jk) ++ Y.sh pe.σ from aO ((aO ((bR ((bR (yH))))))))
 have hnd:=hm.nodup
 have hm2:Mm Try.prog _ _ ((b4,bC (.slice none 0 0) 0 false) :: (l1 ++ l2)) (halves jk):=hm.perm (by rw [hl];exact List.perm_middle)
 have hS5:=Ik.stop
 refine lX ae (d:=none) (t:=43) (x:=.tmp 4) (y:=.tmp 57) eI (n:=0) (b:=b4) eV (vs:=dA v pe.k false) eV hm2 rfl rfl af (tL (tF hrow)) fun w hm2=>?_
 rw [bV]
 refine kR (d:=some 5) (p:=.assign (.const (.int .i64 0))) (fun o ho=>eB (v:=.int .i64 0) ho rfl) hm2 fun w hm2=>?_
 refine aA (eG ?_)
 have hh:halves jk=[]:=by
  unfold halves
  rw [List.flatMap_eq_nil_iff]
  intro x hx
  unfold Bq.half
  rw [(hd2 x hx).2.2]
  rfl
 rw [hh] at hm2 hnd
 have keep:∀ p,p∈((A ++ (more ++ E1)) ++ books ab cur jk) ++ Y.sh pe.σ→p.1≠b4→p∈(b4,bC v pe.k false) :: (l1 ++ l2):=fun p hp hne=>by
  rw [hl] at hp
  rcases List.mem_append.1 hp with q | q
  ·exact List.mem_cons_of_mem _ (aO (q))
  ·rcases List.mem_cons.1 q with q | q
   ·exact absurd (congrArg Prod.fst q) hne
   ·exact List.mem_cons_of_mem _ (bR (q))
 have Bp:((((A ++ (more ++ E1)) ++ books ab cur jk) ++ Y.sh pe.σ).map Prod.fst).Nodup:=by simpa using hnd
 have Br:(((A ++ (more ++ E1)) ++ books ab cur jk).map Prod.fst).Nodup:=by rw [List.map_append] at Bp;exact (List.nodup_append.1 Bp).1
 have S7:((A ++ (more ++ E1)).map Prod.fst).Nodup:=by rw [List.map_append] at Br;exact (List.nodup_append.1 Br).1
 have Il:Mm Try.prog _ _ ((b4,bC v pe.k false) :: (l1 ++ l2)) []:=hm2
 refine fT (QH (sl:=4) (tm:=5) (t:=43) (b:=b4) (vs:=dA v pe.k false) (e:=43) (fz:=(0,0)) rfl (by simp only [bO];exact gd) eV (v:=.int .i64 0) eV af af Il (aO ((List.mem_cons_self ..))) fun w1 hr=>⟨{ s1 with E:=(G2 b1 0 True).env Try.prog },b1,v,A,jk,(b4,bC v pe.k false) :: (l1 ++ l2),rfl,⟨hrow,hp1,hok,hS5,rfl,hf,hO,hsn,Il.rely hr,fun p hp=>?_,fun p hp=>?_,fun p hp=>?_,fun x hx p hp=>?_⟩⟩)
 ·exact keep p (aO ((aO ((bR ((bR ((hsub p (hE0 p hp).1))))))))) (hE0 p hp).2
 ·exact keep p (bR (hp)) fun e=>Bo Bp (p:=(b4,bC (.slice none 0 0) 0 false)) (aO ((bR ((bR (yH)))))) hp e.symm
 ·exact keep p (aO ((aO ((aO (hp)))))) fun e=>Bo S7 hp (q:=(b4,bC (.slice none 0 0) 0 false)) (bR (yH)) e
 ·have hb:p∈books ab cur jk:=List.mem_cons_of_mem _ (List.mem_flatMap.2 ⟨x,hx,List.mem_cons_of_mem _ hp⟩)
  exact keep p (aO ((bR (hb)))) fun e=>Bo Br (p:=(b4,bC (.slice none 0 0) 0 false)) (bR ((bR (yH)))) hb e.symm
end
end Go.Proofs.Ytanploaffndpjaa
namespace Go.Blind
open Go.Conc Go.RowKit
section
variable {P:Program}{Fin:bH}{s:Ring}{fn:FuncId}{kd:CallKind}{Q:aZ}{S:ai}{M:Nat→Prop}{a:Act}{w:World}{ops:Array Oper}{i:Nat}{d:Option Tmp}{rest:List Nat}
theorem S8 (hkd:kd≠.early){t e:TypeId}{dir:ChanDir}(hi:aV ops i d (.makeChan t (.const (.int .i64 0))))(ht:P.underlying t=some (.chan dir e))(hz:(P.info? e).isSome=true)(hfix:∀ c τ τ' o,(∀ o,¬ s.E.at_ τ c o)→¬ s.E.at_ τ' c o)
  (h:∀ c w1,ay P M w w1→aG P true fn kd ops rest Q (aK P Fin (s.more c)) M (a.put d (.chan (some c))) w1):aG P true fn kd ops (i :: rest) Q (aK P Fin s) M a w:=by
 obtain ⟨o,ho,rfl,hop,hw⟩:=hi.at a
 exact dx (AU hkd ho hw hop ht hz hfix h)
theorem Ta (hkd:kd≠.early){t:TypeId}{x:Operand}(hi:aV ops i d (.box t x)){c:Array Value}(hx:(a.eval x).cells=c)(hE:s.E=oZ Fin.out)(h1:s.size=1){q n:Nat}(hq:q+1 < c.size)(hc:lay c q 0 0=c)
  (h:∀ R w1,ay P M w w1→aG P true fn kd ops rest Q (aK P Fin { s with E:=(GH (aJ.first Fin.out R q n c t) 0 0).env P }) M (a.put d (.pointer (some ⟨R,0,none⟩))) w1):aG P true fn kd ops (i :: rest) Q (aK P Fin s) M a w:=by
 obtain ⟨o,ho,rfl,hop,hw⟩:=hi.at a
 have e1:execOp a.eval o=(do pure (Next.value (← Instr.box t (a.eval x)))):=by
  unfold execOp
  rw [hop]
 have hr:∀ w1:World,(Instr.box t (a.eval x)).run P w1=.ok (.pointer (some ⟨w1.heap.size,0,none⟩)) (w1.alloc (.cells c t (0,0))):=fun w1=>by
  simp [Instr.box,newVar,newRow,hx]
 refine dx (su (NU (ob:=.cells c t (0,0)) hkd ho hw (fun w1=>⟨by rw [e1,Sem.run_bind,hr];rfl,listed_nil ?_⟩) h) (NS hE h1 hq hc))
 rw [e1,Sem.events_bind,hr]
 show (Instr.box t (a.eval x)).events P w1 #[]=#[]
 simp [Instr.box,newVar,newRow]
theorem Bt {t t':TypeId}{x:Operand}(hx:a.eval x=.int .i64 0):∀ o:Oper,o.op=.binOp .neq t x (.const (.int .i64 0)) t'→dn P a o (.bool false):=fun o hop w1=>by
 have e:execOp a.eval o=(do pure (Next.value (← (do eqGuard .neq t x (.const (.int .i64 0)) (.int .i64 0) (.int .i64 0);binOp .neq t (.int .i64 0) (.int .i64 0))))):=by
  unfold execOp
  rw [hop,← hx]
  rfl
 have hg:eqGuard .neq t x (.const (.int .i64 0)) (.int .i64 0) (.int .i64 0)=Pure.pure ():=rfl
 have hb:binOp .neq t (.int .i64 0) (.int .i64 0)=Pure.pure (.bool false):=by simp [binOp,Op.intCmp]
 rw [e,hg,hb]
 exact ⟨rfl,rfl⟩
theorem Tc {b:aJ}(hf:b.dL)(hn:b.n≤100){c:Code}(h:aM P true fn kd c Q (aK P Fin { s with E:=(G0 b 0).env P }) M a w):aM P true fn kd c Q (aK P Fin { s with E:=(GH b b.n 0).env P }) M a w:=fun fb kk cs hb hk hc=>(h fb kk cs hb hk hc).mono fun M g w=>NF hf hn
end
end Go.Blind
namespace Go.Proofs.Ytanploaffndpjaa
open Go Go.Blind Go.Conc
theorem Td:Try.f20.body=some (.seq (.region 0 (opsOf 0 Try.f20.body) false) (.seq (.seq (.region 1 (opsOf 1 Try.f20.body) false) (.seq (.region 2 (opsOf 2 Try.f20.body) false) (.cond (.tmp 14) (.seq (.region 3 (opsOf 3 Try.f20.body) false) .ret) .skip))) (.seq (.region 4 (opsOf 4 Try.f20.body) false) (.seq (.seq (.region 5 (opsOf 5 Try.f20.body) false) (.block 0 (.loop (.seq (.region 6 (opsOf 6 Try.f20.body) false) (.seq (.cond (.tmp 24) .skip (.exit 0)) (.seq (.block 1 (.seq (.region 7 (opsOf 7 Try.f20.body) false) (.region 8 (opsOf 8 Try.f20.body) true))) (.region 9 (opsOf 9 Try.f20.body) false))))))) (.seq (.region 10 (opsOf 10 Try.f20.body) true) (.seq (.region 11 (opsOf 11 Try.f20.body) false) (.seq (.region 12 (opsOf 12 Try.f20.body) false) (.seq (.region 13 (opsOf 13 Try.f20.body) false) (.seq (.region 14 (opsOf 14 Try.f20.body) false) .ret))))))))):=by kernel_rfl
section
variable {Y:aN}{Fin:bH}{s:Ring}{σ:Y.σ}{E0:List (Nat×Obj)}{S:ai}{M:Nat→Prop}{w:World}{m wb wc tb tc nn:Nat}{lY:Array Value}{ts:List Int}{pN fz:Nat×Nat}{pe:Ps Y}{css:List (List Y.Call)}{t:TypeId}{vd rc:Value}{f:FuncId}{aD:Func}{enc:Y.Call→List Value}
structure NI (Y:aN)(Fin:bH)(σ:Y.σ)(E1:List (Nat×Obj))(css:List (List Y.Call))(nn wb wc b2 b4 arr R:Nat)(t:TypeId)(vd:Value)(i:Nat)(S:ai)(M:Nat→Prop)(a:Act)(w:World):Prop where
 size:a.tmps.size=58
 defers:a.defers=[]
 s1:a.eval (.tmp 1)=.iface t vd
 s2:a.eval (.tmp 2)=.pointer (some ⟨b2,0,none⟩)
 s4:a.eval (.tmp 4)=.pointer (some ⟨b4,0,none⟩)
 s7:a.eval (.tmp 7)=.pointer (some ⟨R,0,none⟩)
 Zf:a.eval (.tmp 21)=.slice (some ⟨wb,0,none⟩) css.length wc
 Zg:a.eval (.tmp 22)=.int .i64 (css.length:Nat)
 Zh:a.eval (.tmp 23)=.int .i64 (i:Nat)
 le:i≤css.length
 ha:∃ s b v A bs E',b.R=R∧b.n=css.length∧bs.length=i∧bs.map Bq.pure=(css.take i).map (fun cs=>pJ cs 0 nn)∧HA Y Fin s b arr v A bs σ (E1 ++ E') S M w
structure Bu {Y:aN}(enc:Y.Call→List Value)(css:List (List Y.Call))(ts:List Int)(wb:Nat)(lY:Array Value)(pN:Nat×Nat)(tb:Nat)(fz:Nat×Nat)(E0:List (Nat×Obj)):Prop where
 work:(wb,Obj.cells lY 22 pN)∈E0
 size:lY.size=css.length
 calls:∀ (i:Nat) cs,css[i]?=some cs→∃ cb cap eS fz,lY[i]?=some (.slice (some ⟨cb,0,none⟩) cs.length cap)∧(cb,Obj.cells (cs.flatMap enc).toArray eS fz)∈E0
 turns:(tb,Obj.cells (Tu.ints ts).toArray 3 fz)∈E0
theorem Ti (gW:∀ (i:Nat)(p:Post),p.q=2→p.ob=aR p false false→∀ wb,pE Y p wb ((i:Nat):Int) t vd rc f aD enc)(hen:Bg enc)(h1:1≤css.length)(h8:css.length≤8)(hcs:∀ cs∈css,cs≠[]∧cs.length≤64)(hC:Bu enc css ts wb lY pN tb fz E0)(hne:ts≠[])(hn2:ts.length≤1000000)(hpl:pe.bs.length=css.length)(fK:Way 20000 m ⟨css.map (fun cs=>pJ cs 0 nn),σ,0,ts,-1⟩ pe)(hdone:∀ x∈pe.bs,x.left=0∧x.own=0∧x.st=none)(hE:s.E=oZ Fin.out)(hsz:s.size=1)(hO:s.O 0=none)(hm:Mm Try.prog M w (E0 ++ Y.sh σ) []) :
  bn Try.prog true 20 #[.agg #[.slice (some ⟨wb,0,none⟩) css.length wc,.slice (some ⟨tb,0,none⟩) ts.length tc,.slice none 0 0,.int .i64 0],.iface t vd] (Ij Y Fin E0 pe) (aK Try.prog Fin s) M w:=by
 refine eQ Try.func20 Td ?_
 obtain ⟨a,ha,hs,hd,he⟩:=entered Try.func20 #[.agg #[.slice (some ⟨wb,0,none⟩) css.length wc,.slice (some ⟨tb,0,none⟩) ts.length tc,.slice none 0 0,.int .i64 0],.iface t vd] .normal (N:=58) rfl (by show 2≤58;decide)
 have h0:=he 0 _ rfl
 have h1':=he 1 _ rfl
 rw [← ha]
 clear ha he
 refine ak (kG [0,1,2] (je ae (d:=some 2) (t:=39) (x:=.tmp 0) eI (cells:=#[.slice (some ⟨wb,0,none⟩) css.length wc,.slice (some ⟨tb,0,none⟩) ts.length tc,.slice none 0 0,.int .i64 0]) ((congrArg Value.cells (show _=Value.agg #[.slice (some ⟨wb,0,none⟩) css.length wc,.slice (some ⟨tb,0,none⟩) ts.length tc,.slice none 0 0,.int .i64 0] from h0)).trans rfl) hm fun b2 w hm=>?_))
 refine kX ae (d:=some 4) (t:=43) eI (z:=.agg (dA (.slice none 0 0) 0 false).toArray) af hm fun b4 w hm=>?_
 have hm:Mm Try.prog _ _ (((b2,iN (.slice (some ⟨wb,0,none⟩) css.length wc) (.slice (some ⟨tb,0,none⟩) ts.length tc)) :: (b4,bC (.slice none 0 0) 0 false) :: E0 ++ ([] ++ [])) ++ Y.sh σ) []:=hm.perm (by
  have h:=List.perm_append_comm (l₁:=E0 ++ Y.sh σ) (l₂:=[(b2,iN (.slice (some ⟨wb,0,none⟩) css.length wc) (.slice (some ⟨tb,0,none⟩) ts.length tc)),(b4,bC (.slice none 0 0) 0 false)])
  simp only [List.append_assoc,List.cons_append,List.nil_append,List.append_nil] at h ⊢
  exact h)
 have Tj:∀ p∈E0,p.1≠b4:=fun p hp e=>by
  have hn:=hm.nodup
  simp only [List.append_nil,List.map_append,List.map_cons,List.cons_append] at hn
  have:=(List.nodup_cons.1 (List.nodup_cons.1 hn).2).1
  exact this (aO ((by rw [← e];exact List.mem_map_of_mem hp)))
 refine kR (d:=some 5) (p:=.assign (.const (.int .i64 0))) (fun o ho=>eB (v:=.int .i64 0) ho rfl) hm fun w hm=>?_
 refine aA (ak (ak (kG [0,1,2] (vW ae (d:=some 11) (t:=39) (x:=.tmp 2) eI (n:=0) (b:=b2) (off:=0) eV hm rfl (vs:=[.slice (some ⟨wb,0,none⟩) css.length wc,.slice (some ⟨tb,0,none⟩) ts.length tc,.slice none 0 0,.int .i64 0]) (fun j v hj=>by rw [Nat.zero_add];simpa using hj) af af fun w hm=>?_))))
 have hlow:∀ p∈E0,p.1 < w.heap.size:=fun p hp=>(Array.getElem?_eq_some_iff.1 (hm.own p (aO ((aO ((List.mem_cons_of_mem _ (List.mem_cons_of_mem _ hp))))))).2).1
 have Im:∀ u∈lY,∃ cb l cap,u=.slice (some ⟨cb,0,none⟩) l cap∧cb < w.heap.size∧l≤64:=fun u hu=>by
  obtain ⟨i,hi,rfl⟩:=Array.mem_iff_getElem.1 hu
  obtain ⟨cs,hcs1⟩:∃ cs,css[i]?=some cs:=⟨_,List.getElem?_eq_getElem (by rw [← hC.size];exact hi)⟩
  obtain ⟨cb,cap,eS,fz,q1,q2⟩:=hC.calls i cs hcs1
  rw [Array.getElem?_eq_getElem hi] at q1
  exact ⟨cb,cs.length,cap,Option.some.inj q1,hlow _ q2,(hcs cs (List.mem_of_getElem? hcs1)).2⟩
 refine kC (d:=some 12) (args:=#[.tmp 11]) (ats:=#[39]) Try.func25 (ys:=#[.agg #[.slice (some ⟨wb,0,none⟩) css.length wc,.slice (some ⟨tb,0,none⟩) ts.length tc,.slice none 0 0,.int .i64 0]]) (by simp only [List.map_toArray,List.map_cons,List.map_nil];exact iM eV) (bG (sP (f:=25) af ⟨_,Try.func25⟩ (fun y hy=>by
  rw [Array.mem_singleton.1 hy]
  refine Old.agg fun x hx=>?_
  simp only [List.mem_toArray,List.mem_cons,List.not_mem_nil,or_false] at hx
  rcases hx with rfl | rfl | rfl | rfl
  ·exact Old.slice (hlow _ hC.work)
  ·exact Old.slice (hlow _ hC.turns)
  ·exact Old.bX _ _
  ·exact Old.int _ _) hm [wb] (fun b hb=>by
  rw [List.mem_singleton.1 hb]
  exact ⟨lY,22,pN,aO ((aO ((List.mem_cons_of_mem _ (List.mem_cons_of_mem _ hC.work))))),fun u hu=>by
   obtain ⟨cb,l,cap,rfl,q,_⟩:=Im u hu
   exact Old.slice q⟩) (y:=.int .i64 0) (Old.int _ _) (fun v hvs hv=>(P4 v wb css.length wc (.slice (some ⟨tb,0,none⟩) ts.length tc) (.slice none 0 0) ⟨_,_,_,rfl⟩ ⟨_,_,_,rfl⟩ h1 h8 (fun j hj=>by
   have hvw:v.heap[wb]?=some (.cells lY 22 pN):=(hv wb (List.mem_singleton.2 rfl)).trans (hm.own _ (aO ((aO ((List.mem_cons_of_mem _ (List.mem_cons_of_mem _ hC.work))))))).2
   obtain ⟨cs,hcs1⟩:∃ cs,css[j]?=some cs:=⟨_,List.getElem?_eq_getElem hj⟩
   obtain ⟨cb,cap,eS,fz,q1,q2⟩:=hC.calls j cs hcs1
   exact ⟨_,_,_,cell_of hvw q1,(hcs cs (List.mem_of_getElem? hcs1)).2⟩)).mono fun e v' q=>⟨q.1,fun b hb=>q.2 b (by
   rw [List.mem_singleton.1 hb,hvs]
   exact hlow _ hC.work)⟩) _) fun e S1 M1 w hq=>?_)
 obtain ⟨hS1,⟨rfl,hm⟩,fC⟩:=hq
 rw [hS1]
 refine kS (v:=.int .i64 0) 6 12 hm fun w hm=>aA (ak (kG [0,1] (kM (v:=.int .i64 0) 13 6 hm fun w hm=>?_)))
 refine kR (d:=some 14) (Bt (t:=25) (t':=25) (x:=.tmp 13) eV) hm fun w hm=>?_
 refine aA (kF eV ?_)
 refine bS (ak (kG [0,1,2,3] (S8 ae (d:=some 17) (t:=89) (e:=133) (dir:=.both) eI af af (by rw [hE];exact fun _ _ _ _ _ h=>h) fun arr w1 hr=>?_)))
 replace hm:=hm.rely hr
 clear hr
 refine kR (d:=some 18) (v:=.agg #[.slice none 0 0,.chan (some arr),.int .u64 0,.int .u32 0,.int .i64 0]) (p:=.build 99 #[(1,.tmp 17)]) (fun o ho=>ik ho (vs:=[(1,.chan (some arr))]) (by simp only [List.map_cons,List.map_nil];exact congrArg (fun x=>[(1,x)]) eV) af) hm fun w hm=>?_
 refine Ta ae (d:=some 19) (t:=99) (x:=.tmp 18) eI (c:=#[.slice none 0 0,.chan (some arr),.int .u64 0,.int .u32 0,.int .i64 0]) ((congrArg Value.cells (show _=Value.agg #[.slice none 0 0,.chan (some arr),.int .u64 0,.int .u32 0,.int .i64 0] from eV)).trans rfl) (s:=s.more arr) hE hsz (q:=2) (n:=css.length) (by show 3 < 5;decide) rfl fun R w1 hr=>?_
 replace hm:=hm.rely hr
 clear hr
 refine kS (v:=.pointer (some ⟨R,0,none⟩)) 7 19 hm fun w hm=>aA (ak (ak (kG [0,1,2,3] (kP (fo:=0) (off:=0) 20 39 2 0 hm fun w hm=>?_))))
 refine kL (d:=some 21) (t:=37) (x:=.tmp 20) (n:=0) (b:=b2) (k:=0) eV hm rfl (v:=.slice (some ⟨wb,0,none⟩) css.length wc) rfl fun w hm=>?_
 refine kR (d:=some 22) (gN (t:=37) (x:=.tmp 21) (ad:=some ⟨wb,0,none⟩) (len:=css.length) (cap:=wc) af eV) hm fun w hm=>?_
 refine kR (d:=some 23) (p:=.move (.const (.int .i64 0))) (fun o ho=>bK (v:=.int .i64 ((0:Nat):Int)) ho rfl) hm fun w hm=>?_
 refine aA (eH (kE (X:=Nat) (r:=InvImage (· < ·) (fun i=>css.length - i)) (InvImage.wf _ Nat.lt_wfRel.wf) (fun i S M a w=>NI Y Fin σ ((b2,iN (.slice (some ⟨wb,0,none⟩) css.length wc) (.slice (some ⟨tb,0,none⟩) ts.length tc)) :: (b4,bC (.slice none 0 0) 0 false) :: E0) css nn wb wc b2 b4 arr R t vd i S M a w) 0 ?_ fun i S M a w hI=>?_))
 ·refine ⟨by simp only [size_put];exact hs,by simp only [bO];exact hd,(by rw [eN,eN,eN,eN,eN,eN,eN,eN,eN,eN,eN,eN,eN,eN,eN,eN];exact h1'),eV,eV,eV,eV,eV,eV,Nat.zero_le _,{ s.more arr with E:=(GH (aJ.first Fin.out R 2 css.length #[.slice none 0 0,.chan (some arr),.int .u64 0,.int .u32 0,.int .i64 0] 99) 0 0).env Try.prog },aJ.first Fin.out R 2 css.length #[.slice none 0 0,.chan (some arr),.int .u64 0,.int .u32 0,.int .i64 0] 99,.slice none 0 0,[],[],[],rfl,rfl,rfl,rfl,⟨rfl,rfl,⟨fun h=>h,by show 3 < 5;decide⟩,rfl,rfl,rfl,⟨rfl,.inl ⟨rfl,rfl,rfl⟩⟩,rfl,rfl,⟨hsz,hO,?_,?_,?_,⟨List.mem_cons_self ..,?_⟩,fun _=>⟨?_,?_⟩⟩,?_,?_,?_⟩⟩
  ·intro i k q hi;simp at hi
  ·intro i k hi;simp at hi
  ·intro k hk;cases hk
  ·intro k hk;cases hk
  ·intro i k hi;simp at hi
  ·intro i l k k' _ hi;simp at hi
  ·intro x hx;cases hx
  ·rw [List.append_nil];exact hm
  ·intro x hx;cases hx
 clear hm hs hd h0 h1' fC hS1 hE hsz hO Im hlow
 obtain ⟨hs,hd,h1',h2,h4,h7,h21,h22,h23,hle,s,b,v,A,bs,E',hbR,hbN,hbl,hbp,hH⟩:=hI
 obtain ⟨hS,hE,hf,hq,hz,hv0,hrow,hv1,hv4,hcr,hok,hm,jW⟩:=id hH
 subst hS
 refine ak (kG [0] (kR (d:=some 24) (jC (t:=3) (t':=3) (x:=.tmp 23) (y:=(.tmp 22)) (k:=((i:Nat):Int)) (m:=((css.length:Nat):Int)) h23 h22) hm fun w hm=>?_))
 refine aA ?_
 by_cases hi:i < css.length
 ·have hdec:decide (((i:Nat):Int) < ((css.length:Nat):Int))=true:=by simp [hi]
  refine ak (kY (by rw [eP];exact congrArg Value.bool hdec) ?_)
  refine bS ?_
  obtain ⟨cs,hcs1⟩:∃ cs,css[i]?=some cs:=⟨_,List.getElem?_eq_getElem hi⟩
  obtain ⟨cb,cap,eS,Zi,q1,q2⟩:=hC.calls i cs hcs1
  have hin:∀ p∈E0,p∈(((b2,iN (.slice (some ⟨wb,0,none⟩) css.length wc) (.slice (some ⟨tb,0,none⟩) ts.length tc)) :: (b4,bC (.slice none 0 0) 0 false) :: E0) ++ E'):=fun p hp=>aO ((List.mem_cons_of_mem _ (List.mem_cons_of_mem _ hp)))
  obtain ⟨jw,iK⟩:=List.mem_iff_getElem?.1 (show (wb,Obj.cells lY 22 pN)∈((((b2,iN (.slice (some ⟨wb,0,none⟩) css.length wc) (.slice (some ⟨tb,0,none⟩) ts.length tc)) :: (b4,bC (.slice none 0 0) 0 false) :: E0) ++ E') ++ (A ++ bs.flatMap Bq.mem)) ++ Y.sh σ from aO ((aO ((hin _ hC.work)))))
  refine ak (eH (ak (kG [0,1,2,3,4] (kM (v:=.int .i64 (i:Nat)) 25 23 hm fun w hm=>?_))))
  refine kR (d:=some 26) (p:=.indexAddr 37 (.tmp 21) (.tmp 23)) (fun o ho=>iI (ad:=⟨wb,0,none⟩) (len:=css.length) (cap:=wc) (k:=.i64) (i:=(i:Nat)) (sz:=1) ho eV eV ⟨ag,ag⟩ af af) hm fun w hm=>?_
  refine kL (d:=some 27) (t:=22) (x:=.tmp 26) (n:=jw) (b:=wb) (k:=i) (by rw [eP,if_pos rfl,Int.toNat_natCast,Nat.mul_one,Addr.add_mid,Nat.zero_add]) hm (by rw [List.getElem?_append_left (List.getElem?_eq_some_iff.1 iK).1];exact iK) (v:=.slice (some ⟨cb,0,none⟩) cs.length cap) q1 fun w hm=>?_
  refine kS (v:=.int .i64 (i:Nat)) 8 25 hm fun w hm=>kS (v:=.slice (some ⟨cb,0,none⟩) cs.length cap) 9 27 hm fun w hm=>aA (R7 (i:=i) (n:=nn) (gW i) hen bJ (by rw [eN,eN,eN,eN,eN,eN];exact h1') eV (by rw [hbR];exact eV) eV eV (hb2:=aO ((List.mem_cons_self ..))) (hcb:=hin _ q2) (hcs cs (List.mem_of_getElem? hcs1)).1 (hcs cs (List.mem_of_getElem? hcs1)).2 ag (hH.with (fun _ hc=>hc) hm) fun a1 w M1 S1 hs1 hd1 hk1 hD=>?_)
  obtain ⟨s1,b1,v1,A1,x1,E1,p1,p2,p3,hH1⟩:=hD
  have g1:a1.eval (.tmp 1)=.iface t vd:=(hk1 1 ae).trans (by rw [eN,eN,eN,eN,eN,eN];exact h1')
  have g2:a1.eval (.tmp 2)=.pointer (some ⟨b2,0,none⟩):=(hk1 2 ae).trans eV
  have g4:a1.eval (.tmp 4)=.pointer (some ⟨b4,0,none⟩):=(hk1 4 ae).trans eV
  have g7:a1.eval (.tmp 7)=.pointer (some ⟨R,0,none⟩):=(hk1 7 ae).trans eV
  have g21:a1.eval (.tmp 21)=.slice (some ⟨wb,0,none⟩) css.length wc:=(hk1 21 ae).trans eV
  have g22:a1.eval (.tmp 22)=.int .i64 (css.length:Nat):=(hk1 22 ae).trans eV
  have g23:a1.eval (.tmp 23)=.int .i64 (i:Nat):=(hk1 23 ae).trans eV
  have gd:a1.defers=[]:=hd1.trans bJ
  have hm:=hH1.mem
  have hS1:=hH1.stop
  subst hS1
  refine kG [0,1] (kR (d:=some 38) (mM (t:=3) (t':=3) (x:=.tmp 23) (k:=i) ag g23) hm fun w hm=>?_)
  refine kM (v:=.int .i64 ((i+1:Nat):Int)) 23 38 hm fun w hm=>aA (⟨i+1,by show css.length - (i+1) < css.length - i;omega,by simp only [size_put];exact hs1,by simp only [bO];exact gd,eV,eV,eV,eV,eV,eV,eV,hi,s1,b1,v1,A1,bs ++ [x1],E' ++ E1,p2.trans hbR,p3.trans hbN,by rw [List.length_append,hbl];rfl,?_,?_⟩)
  ·rw [List.map_append,hbp,List.take_add_one,hcs1,List.map_append]
   show _ ++ [x1.pure]=_ ++ [pJ cs 0 nn]
   rw [p1]
  ·rw [← List.append_assoc]
   exact hH1.with (fun _ hc=>hc) hm
 ·have hdec:decide (((i:Nat):Int) < ((css.length:Nat):Int))=false:=by simp [hi]
  refine ak (kF (by rw [eP];exact congrArg Value.bool hdec) ?_)
  refine lG ?_
  simp only [Bool.false_eq_true,↓reduceIte,if_true]
  have hin:i=css.length:=by omega
  subst hin
  rw [List.take_of_length_le (Nat.le_refl _)] at hbp
  have Tm:bs.length=b.n:=hbl.trans hbN.symm
  have eE:({ s with E:=(GH b b.n 0).env Try.prog }:Ring)=s:=by rw [← Tm,← hE]
  rcases hrow.2 with ⟨_,e0,_⟩ | ⟨ab,cp,cur,rfl,rfl,hcp,hmx,hcsz,htk⟩
  ·omega
  have hG:GA Y Fin { s with E:=(G0 b 0).env Try.prog } b arr ab cp cur bs σ 0 (((b2,iN (.slice (some ⟨wb,0,none⟩) css.length wc) (.slice (some ⟨tb,0,none⟩) ts.length tc)) :: (b4,bC (.slice none 0 0) 0 false) :: E0) ++ E') (aK Try.prog Fin { s with E:=(G0 b 0).env Try.prog }) _ _:=⟨rfl,rfl,hf,hq,hz,hv0,hv1,hv4,ag,hcr.env _,hok,hm,jW,fun j x hx=>by
   have hj:=(List.getElem?_eq_some_iff.1 hx).1
   have h3:(bs.map fun x:Bq Y=>Value.pointer (some ⟨x.k.bb,0,none⟩))[j]?=some (.pointer (some ⟨x.k.bb,0,none⟩)):=by rw [List.getElem?_map,hx];rfl
   rw [← htk,List.getElem?_take_of_lt ag] at h3
   simpa using h3⟩
  rw [← eE]
  refine Tc hf ag ?_
  exact run_end (wv:=.slice (some ⟨wb,0,none⟩) css.length wc) (m:=m) bJ bJ eV eV (by rw [hbR];exact eV) (aO ((List.mem_cons_self ..))) (aO ((List.mem_cons_of_mem _ (List.mem_cons_self ..)))) (aO ((List.mem_cons_of_mem _ (List.mem_cons_of_mem _ hC.turns)))) (fun p hp=>⟨aO ((List.mem_cons_of_mem _ (List.mem_cons_of_mem _ hp))),Tj p hp⟩) hne hn2 ag ag ag (by rw [hbp];exact fK) hdone hG
end
end Go.Proofs.Ytanploaffndpjaa
namespace Go.Proofs.Ytanploaffndpjaa
open Go Go.Blind Go.Conc
section
variable (cb ab:Nat)(hne:cb≠ab)
def Bv:Ps (cellL cb ab hne):=⟨[⟨1,0,0,0,0,false,0,[],some (none,[(5:Nat)]),10⟩,⟨1,0,0,0,0,false,0,[],some (none,[(9:Nat)]),10⟩],(0:Nat),0,[0,1,1,0,0],-1⟩
def Bw:Ps (cellL cb ab hne):=⟨[⟨1,0,1,1,1,false,0,[],some (some ((5:Nat),some (0:Nat)),[]),9⟩,⟨1,0,0,0,0,false,0,[],some (none,[(9:Nat)]),10⟩],(0:Nat),1,[1,1,0,0],((0:Nat):Int)⟩
def By:Ps (cellL cb ab hne):=⟨[⟨1,0,1,1,1,false,0,[],some (some ((5:Nat),some (0:Nat)),[]),9⟩,⟨1,0,1,2,1,false,0,[],some (some ((9:Nat),some (0:Nat)),[]),9⟩],(0:Nat),2,[1,0,0],((1:Nat):Int)⟩
def Bz:Ps (cellL cb ab hne):=⟨[⟨1,0,1,1,1,false,0,[],some (some ((5:Nat),some (0:Nat)),[]),9⟩,⟨0,0,2,2,0,false,1,aW ((2:Nat):Int) ((3:Nat):Int) ((2:Nat):Int) false ((9:Nat):Int) 0 0,none,8⟩],(9:Nat),3,[0,0],((1:Nat):Int)⟩
def BA:Ps (cellL cb ab hne):=⟨[⟨1,0,2,1,2,false,0,[],some (some ((5:Nat),none),[]),8⟩,⟨0,0,2,2,0,false,1,aW ((2:Nat):Int) ((3:Nat):Int) ((2:Nat):Int) false ((9:Nat):Int) 0 0,none,8⟩],(9:Nat),4,[0],((0:Nat):Int)⟩
def iO:Ps (cellL cb ab hne):=⟨[⟨0,0,3,1,0,false,1,aW ((1:Nat):Int) ((5:Nat):Int) ((3:Nat):Int) false ((9:Nat):Int) 0 0,none,7⟩,⟨0,0,2,2,0,false,1,aW ((2:Nat):Int) ((3:Nat):Int) ((2:Nat):Int) false ((9:Nat):Int) 0 0,none,8⟩],(9:Nat),5,[],((0:Nat):Int)⟩
theorem Tn:tJ 20000 (Bv cb ab hne) (Bw cb ab hne):=by
 have e:(Bv cb ab hne).fF=[0,1]:=by kernel_rfl
 refine ⟨by show (0:Nat) < 20000;decide,by rw [e];simp,(⟨1,0,0,0,0,false,0,[],some (none,[(5:Nat)]),10⟩:Pb (cellL cb ab hne)),(⟨1,0,1,1,1,false,0,[],some (some ((5:Nat),some (0:Nat)),[]),9⟩:Pb (cellL cb ab hne)),(0:Nat),af,.inl ⟨_,(some ((5:Nat),some (0:Nat)),[]),_,rfl,rfl,af,af⟩,by show (0:Nat) < 1000000;decide,by show (0:Nat) < 1000000;decide,by show (0:Nat) < 1000000;decide,by show (0:Int) < 1;decide,by show (1:Int) < 1000000;decide,af⟩
theorem Tp:tJ 20000 (Bw cb ab hne) (By cb ab hne):=by
 have e:(Bw cb ab hne).fF=[0,1]:=by kernel_rfl
 refine ⟨by show (1:Nat) < 20000;decide,by rw [e];simp,(⟨1,0,0,0,0,false,0,[],some (none,[(9:Nat)]),10⟩:Pb (cellL cb ab hne)),(⟨1,0,1,2,1,false,0,[],some (some ((9:Nat),some (0:Nat)),[]),9⟩:Pb (cellL cb ab hne)),(0:Nat),af,.inl ⟨_,(some ((9:Nat),some (0:Nat)),[]),_,rfl,rfl,af,af⟩,by show (0:Nat) < 1000000;decide,by show (0:Nat) < 1000000;decide,by show (0:Nat) < 1000000;decide,by show (0:Int) < 1;decide,by show (1:Int) < 1000000;decide,af⟩
theorem Tw:tJ 20000 (By cb ab hne) (Bz cb ab hne):=by
 have e:(By cb ab hne).fF=[0,1]:=by kernel_rfl
 refine ⟨by show (2:Nat) < 20000;decide,by rw [e];simp,(⟨1,0,1,2,1,false,0,[],some (some ((9:Nat),some (0:Nat)),[]),9⟩:Pb (cellL cb ab hne)),(⟨0,0,2,2,0,false,1,aW ((2:Nat):Int) ((3:Nat):Int) ((2:Nat):Int) false ((9:Nat):Int) 0 0,none,8⟩:Pb (cellL cb ab hne)),(9:Nat),af,.inr ⟨_,none,_,false,((9:Nat):Int),0,0,rfl,rfl,af,af⟩,by show (1:Nat) < 1000000;decide,by show (1:Nat) < 1000000;decide,by show (0:Nat) < 1000000;decide,by show (0:Int) < 1;decide,by show (1:Int) < 1000000;decide,af⟩
theorem Tx:tJ 20000 (Bz cb ab hne) (BA cb ab hne):=by
 have e:(Bz cb ab hne).fF=[0]:=by kernel_rfl
 refine ⟨by show (3:Nat) < 20000;decide,by rw [e];simp,(⟨1,0,1,1,1,false,0,[],some (some ((5:Nat),some (0:Nat)),[]),9⟩:Pb (cellL cb ab hne)),(⟨1,0,2,1,2,false,0,[],some (some ((5:Nat),none),[]),8⟩:Pb (cellL cb ab hne)),(9:Nat),af,.inl ⟨_,(some ((5:Nat),none),[]),_,rfl,rfl,af,af⟩,by show (1:Nat) < 1000000;decide,by show (1:Nat) < 1000000;decide,by show (0:Nat) < 1000000;decide,by show (0:Int) < 1;decide,by show (1:Int) < 1000000;decide,af⟩
theorem Ty:tJ 20000 (BA cb ab hne) (iO cb ab hne):=by
 have e:(BA cb ab hne).fF=[0]:=by kernel_rfl
 refine ⟨by show (4:Nat) < 20000;decide,by rw [e];simp,(⟨1,0,2,1,2,false,0,[],some (some ((5:Nat),none),[]),8⟩:Pb (cellL cb ab hne)),(⟨0,0,3,1,0,false,1,aW ((1:Nat):Int) ((5:Nat):Int) ((3:Nat):Int) false ((9:Nat):Int) 0 0,none,7⟩:Pb (cellL cb ab hne)),(9:Nat),af,.inr ⟨_,none,_,false,((9:Nat):Int),0,0,rfl,rfl,af,af⟩,by show (2:Nat) < 1000000;decide,by show (2:Nat) < 1000000;decide,by show (0:Nat) < 1000000;decide,by show (0:Int) < 1;decide,by show (1:Int) < 1000000;decide,af⟩
theorem Tz:Way 20000 5 (Bv cb ab hne) (iO cb ab hne) :=
 ⟨_,Tn cb ab hne,_,Tp cb ab hne,_,Tw cb ab hne,_,Tx cb ab hne,_,Ty cb ab hne,rfl,.inr af⟩
theorem TA:∀ x∈(iO cb ab hne).bs,x.left=0∧x.own=0∧x.st=none:=by
 intro x hx
 unfold iO at hx
 rcases List.mem_cons.1 hx with rfl | hx
 ·exact ⟨rfl,rfl,rfl⟩
 ·rw [List.mem_singleton.1 hx]
  exact ⟨rfl,rfl,rfl⟩
end
end Go.Proofs.Ytanploaffndpjaa
namespace Go.Blind
open Go.Conc Go.RowKit
section
variable {P:Program}{S:ai}{M:Nat→Prop}{a:Act}{w:World}
theorem jY {x:Operand}{ix:Nat}{vs:Array Value}{v:Value}(hx:a.eval x=.tuple vs)(hv:vs[ix]?=some v):∀ o:Oper,o.op=.extract x ix→dn P a o v:=fun o hop w1=>by
 have e:execOp a.eval o=Pure.pure (Next.value v):=by
  unfold execOp
  rw [hop]
  simp only [hx,Instr.extract,hv]
  rfl
 rw [e]
 exact ⟨rfl,rfl⟩
theorem Io {x:Operand}{t:TypeId}{v:Value}(hx:a.eval x=v)(hk:∀ w1,(Instr.makeInterface t v).run P w1=.ok (.iface t v) w1∧(Instr.makeInterface t v).events P w1 #[]=#[]):∀ o:Oper,o.op=.makeInterface t x→dn P a o (.iface t v):=fun o hop w1=>by
 have e:execOp a.eval o=(do pure (Next.value (← Instr.makeInterface t v))):=by
  unfold execOp
  rw [hop]
  simp only [hx]
 rw [e]
 exact ⟨by rw [Sem.run_bind,(hk w1).1];rfl,by rw [Sem.events_bind,(hk w1).1,(hk w1).2];rfl⟩
theorem TC {t t':TypeId}{x y:Operand}{k c:Int}(hx:a.eval x=.int .i64 k)(hy:a.eval y=.int .i64 c):∀ o:Oper,o.op=.binOp .gtr t x y t'→dn P a o (.bool (decide (c < k))):=fun o hop w1=>by
 have e:execOp a.eval o=(do pure (Next.value (← (do eqGuard .gtr t x y (.int .i64 k) (.int .i64 c);binOp .gtr t (.int .i64 k) (.int .i64 c))))):=by
  unfold execOp
  rw [hop,← hx,← hy]
 have hg:eqGuard .gtr t x y (.int .i64 k) (.int .i64 c)=Pure.pure ():=rfl
 have hb:binOp .gtr t (.int .i64 k) (.int .i64 c)=Pure.pure (.bool (decide (c < k))):=by simp [binOp,Op.intCmp]
 rw [e,hg,hb]
 exact ⟨rfl,rfl⟩
theorem TD {f:FuncId}{aD:Func}{R:fu}{l r:List (Nat×Obj)}{sl t1 t2:Tmp}{t:TypeId}{b:Nat}{vs:List Value}{e:TypeId}{fz:Nat×Nat}(hr:aD.results=#[.cell sl t,.tmp t1,.tmp t2])(hd:a.defers=[])(hs:a.eval (.tmp sl)=.pointer (some ⟨b,0,none⟩)){v u:Value}(hv:a.eval (.tmp t1)=v)(hu:a.eval (.tmp t2)=u)(hud:(P.underlying t).map TypeDesc.isRow=some true)(hi:(P.info? t).map (·.size)=some vs.length)(hm:Mm P M w l r)(hb:(b,Obj.cells vs.toArray e fz)∈l ++ r)(h:∀ w1,ay P M w w1→R (.returned (.tuple #[.agg vs.toArray,v,u])) S M w1):kH P f aD R S M a w:=by
 refine ⟨hd,fun w1 hrel=>?_⟩
 have hg:=(hm.rely hrel).all hb
 have hs':(a.tmps[sl]?).getD undef=.pointer (some ⟨b,0,none⟩):=by rw [← Array.getD_eq_getD_getElem?];exact hs
 have hv':(a.tmps[t1]?).getD undef=v:=by rw [← Array.getD_eq_getD_getElem?];exact hv
 have hu':(a.tmps[t2]?).getD undef=u:=by rw [← Array.getD_eq_getD_getElem?];exact hu
 refine ⟨.tuple #[.agg vs.toArray,v,u],M,w1,(results aD a.tmps).events P w1 #[],Prod.ext ((Sem.runT_fst _ _ _ _).trans ?_) rfl,sw fun ev he=>?_,h w1 hrel⟩
 ·simp [results,hr,hs',hv',hu',asAddr,sG hud hi hg.2]
 ·have he:=iG he
  have e3:(results aD a.tmps).events P w1 #[]=(loadVar t ⟨b,0,none⟩).events P w1 #[]:=by
   simp [results,hr,hs',asAddr,sG hud hi hg.2]
  rw [e3] at he
  obtain ⟨ad,h1,h2,h3⟩:=AV hud hi hg.2 ev he
  exact ⟨ad,h1,h2,h3 ▸ hg.1⟩
theorem BB {α:Type}(l:List α){a:α}(h:a∈l):∃ l',l.Perm (a :: l')∧∀ b∈l,b≠a→b∈l':=by
 obtain ⟨s,t,rfl⟩:=List.append_of_mem h
 refine ⟨s ++ t,List.perm_middle,fun b hb hne=>?_⟩
 rcases List.mem_append.1 hb with q | q
 ·exact aO (q)
 ·rcases List.mem_cons.1 q with q | q
  ·exact absurd q hne
  ·exact bR (q)
theorem yI {b b':Nat}{c c':Array Value}{e e':TypeId}{fz BC:Nat×Nat}(h:e≠e'):(b,Obj.cells c e fz)≠(b',Obj.cells c' e' BC):=fun q=>by
 injection q with _ q
 injection q with _ q _
 exact h q
theorem Ip {e e':TypeId}{size n:Nat}{v:Value}{xs:List Value}{A:List (Nat×Obj)}(h:Row e size v n xs A)(hne:e≠e'){b:Nat}{c:Array Value}{fz:Nat×Nat}:∀ p∈A,p≠(b,Obj.cells c e' fz):=fun p hp=>by
 rcases h.2 with ⟨_,_,rfl⟩ | ⟨g,cap,cur,_,rfl,_⟩
 ·cases hp
 ·rw [List.mem_singleton.1 hp]
  exact yI hne
theorem TE {α:Type}{X X1 X2 X3:List α}{x p c d:α}(h1:X.Perm (p :: X1))(h2:X1.Perm (c :: X2))(h3:X2.Perm (d :: X3)):(x :: X).Perm (p :: x :: c :: d :: X3) :=
 ((h1.trans ((h2.trans (h3.cons c)).cons p)).cons x).trans (List.Perm.swap _ _ _)
theorem TF {α:Type}{L:List α}{x y a c:α}:((((L ++ [x]) ++ [y]) ++ [a]) ++ [c]).Perm ((L ++ [x,y]) ++ [c,a]):=by
 classical
 exact List.perm_iff_count.2 fun u=>by
  simp only [List.count_append,List.count_cons,List.count_nil]
  omega
end
end Go.Blind
namespace Go.Proofs.Ytanploaffndpjaa
open Go Go.Blind Go.Conc
theorem TG:Try.f10.body=some (.seq (.region 0 (opsOf 0 Try.f10.body) false) (.seq (.region 1 (opsOf 1 Try.f10.body) false) (.seq (.seq (.region 2 (opsOf 2 Try.f10.body) false) (.cond (.tmp 20) (.seq (.region 3 (opsOf 3 Try.f10.body) false) .ret) .skip)) (.seq (.seq (.region 4 (opsOf 4 Try.f10.body) false) (.cond (.tmp 26) (.seq (.region 5 (opsOf 5 Try.f10.body) false) .ret) .skip)) (.seq (.seq (.region 6 (opsOf 6 Try.f10.body) false) (.block 0 (.loop (.seq (.region 7 (opsOf 7 Try.f10.body) false) (.seq (.cond (.tmp 31) .skip (.exit 0)) (.seq (.block 1 (.seq (.region 8 (opsOf 8 Try.f10.body) false) (.region 9 (opsOf 9 Try.f10.body) false))) (.region 10 (opsOf 10 Try.f10.body) false))))))) (.seq (.region 11 (opsOf 11 Try.f10.body) false) (.seq (.seq (.region 12 (opsOf 12 Try.f10.body) false) (.cond (.tmp 53) (.seq (.region 13 (opsOf 13 Try.f10.body) false) .ret) .skip)) (.seq (.region 14 (opsOf 14 Try.f10.body) true) .ret)))))))):=by kernel_rfl
structure TH (Fin:bH)(L0:List (Nat×Obj))(vb:Nat)(v:Value)(S:ai)(M:Nat→Prop)(w:World):Prop where
 ex:∃ (cb ab:Nat) (hne:cb≠ab) (s:Ring) (b:aJ) (A:List (Nat×Obj)) (bs:List (Bq (cellL cb ab hne))) (X:List (Nat×Obj)),Row 46 1 v bs.length (bs.map fun x=>x.k.ans) A∧bs.map Bq.pure=(iO cb ab hne).bs∧(∀ x∈bs,x.Ok b.R)∧S=aK Try.prog Fin s∧s.E=(G2 b 0 True).env Try.prog∧b.dL∧(∀ i,i≠0→i < s.size→s.O i=none)∧s.size=b.n+1∧Mm Try.prog M w X []∧(∀ p∈L0,p∈X)∧(∀ p∈A,p∈X)∧(∀ x∈bs,∀ p∈x.A,p∈X)∧(vb,Obj.cells (Tu.ints [9]).toArray 3 (0,0))∈X
def TJ (Fin:bH)(L0:List (Nat×Obj)):fu:=fun e S M w =>
 ∃ vb v,e=.returned (.tuple #[.agg (dA v 5 false).toArray,.slice (some ⟨vb,0,none⟩) 1 1,.int .i64 0])∧TH Fin L0 vb v S M w
section
variable {Fin:bH}{s:Ring}{M:Nat→Prop}{w:World}{L0:List (Nat×Obj)}{wb wc tb tc:Nat}{lY:Array Value}{pN fz:Nat×Nat}
theorem TK (hC:∀ cb ab hne,Bu (Y:=cellL cb ab hne) dR [[(5:Nat)],[(9:Nat)]] [0,1,1,0,0] wb lY pN tb fz L0)(hE:s.E=oZ Fin.out)(hsz:s.size=1)(hO:s.O 0=none)(hm:Mm Try.prog M w L0 []) :
  bn Try.prog true 10 #[.int .i64 ((1:Nat):Int),.slice none 0 0,.agg #[.slice (some ⟨wb,0,none⟩) 2 wc,.slice (some ⟨tb,0,none⟩) 5 tc,.slice none 0 0,.int .i64 0]] (TJ Fin L0) (aK Try.prog Fin s) M w:=by
 refine eQ Try.func10 TG ?_
 obtain ⟨a,ha,hs,hd,he⟩:=entered Try.func10 #[.int .i64 ((1:Nat):Int),.slice none 0 0,.agg #[.slice (some ⟨wb,0,none⟩) 2 wc,.slice (some ⟨tb,0,none⟩) 5 tc,.slice none 0 0,.int .i64 0]] .normal (N:=59) rfl (by show 3≤59;decide)
 have h0:=he 0 _ rfl
 have h1:=he 1 _ rfl
 have h2:=he 2 _ rfl
 rw [← ha]
 clear ha he
 refine ak (kG [0,1,2,3] (je ae (d:=some 5) (t:=39) (x:=.tmp 2) eI (cells:=#[.slice (some ⟨wb,0,none⟩) 2 wc,.slice (some ⟨tb,0,none⟩) 5 tc,.slice none 0 0,.int .i64 0]) ((congrArg Value.cells (show _=Value.agg #[.slice (some ⟨wb,0,none⟩) 2 wc,.slice (some ⟨tb,0,none⟩) 5 tc,.slice none 0 0,.int .i64 0] from h2)).trans rfl) hm fun b5 w hm=>?_))
 refine kX ae (d:=some 6) (t:=43) eI (z:=.agg (dA (.slice none 0 0) 0 false).toArray) af hm fun b6 w hm=>?_
 refine kR (d:=some 7) (p:=.assign (.const (.slice none 0 0))) (fun o ho=>eB (v:=.slice none 0 0) ho rfl) hm fun w hm=>?_
 refine kR (d:=some 8) (p:=.assign (.const (.int .i64 0))) (fun o ho=>eB (v:=.int .i64 0) ho rfl) hm fun w hm=>?_
 refine aA (ak (kG [0,1,2,3,4,5,6] (kM (v:=.int .i64 ((1:Nat):Int)) 15 0 hm fun w hm=>?_)))
 refine kC (d:=some 16) (args:=#[.tmp 15]) (ats:=#[3]) Try.func5 (ys:=#[.int .i64 ((1:Nat):Int)]) (by simp only [List.map_toArray,List.map_cons,List.map_nil];exact iM eV) (bG (Ib (n:=1) ae ae hm _) fun e S1 M1 w hq=>?_)
 obtain ⟨hS1,fC,cb,ab,rfl,hm⟩:=hq
 rw [hS1]
 refine kM (v:=.tuple #[.pointer (some ⟨cb,0,none⟩),.int .i64 0]) 14 16 hm fun w hm=>kR (d:=some 17) (jY (x:=.tmp 14) (ix:=0) (vs:=#[.pointer (some ⟨cb,0,none⟩),.int .i64 0]) (v:=.pointer (some ⟨cb,0,none⟩)) eV rfl) hm fun w hm=>?_
 refine kR (d:=some 18) (jY (x:=.tmp 14) (ix:=1) (vs:=#[.pointer (some ⟨cb,0,none⟩),.int .i64 0]) (v:=.int .i64 0) eV rfl) hm fun w hm=>?_
 refine kS (v:=.pointer (some ⟨cb,0,none⟩)) 9 17 hm fun w hm=>kS (v:=.int .i64 0) 10 18 hm fun w hm=>aA (ak (ak (kG [0,1] (kM (v:=.int .i64 0) 19 10 hm fun w hm=>?_))))
 refine kR (d:=some 20) (Bt (t:=25) (t':=25) (x:=.tmp 19) eV) hm fun w hm=>?_
 refine aA (kF eV ?_)
 refine bS (ak (ak (kG [0,1,2,3] (kM (v:=.slice none 0 0) 23 1 hm fun w hm=>?_))))
 refine kR (d:=some 24) (gN (t:=29) (x:=.tmp 23) (ad:=none) (len:=0) (cap:=0) af eV) hm fun w hm=>?_
 refine kM (v:=.int .i64 ((1:Nat):Int)) 25 0 hm fun w hm=>kR (d:=some 26) (TC (t:=3) (t':=3) (x:=.tmp 24) (y:=.tmp 25) (k:=((0:Nat):Int)) (c:=((1:Nat):Int)) eV eV) hm fun w hm=>?_
 refine aA (kF eV ?_)
 refine bS (ak (ak (kG [0,1,2] (kM (v:=.slice none 0 0) 28 1 hm fun w hm=>?_))))
 refine kR (d:=some 29) (gN (t:=29) (x:=.tmp 28) (ad:=none) (len:=0) (cap:=0) af eV) hm fun w hm=>?_
 refine kR (d:=some 30) (p:=.move (.const (.int .i64 0))) (fun o ho=>bK (v:=.int .i64 ((0:Nat):Int)) ho rfl) hm fun w hm=>?_
 refine aA (eH ?_)
 have hab:cb≠ab:=fun e=>by
  have hn:=hm.nodup
  simp only [List.append_nil,List.map_append,List.map_cons,List.map_nil,List.append_assoc] at hn
  have:=(List.nodup_append.1 (List.nodup_append.1 (List.nodup_append.1 hn).2.1).2.1).2.1
  simp [e] at this
 refine kE (X:=Unit) (r:=fun _ _=>False) ⟨fun _=>⟨_,fun _ h=>h.elim⟩⟩ (fun _ S' M' a w=>S'=aK Try.prog Fin s∧(∀ c,M c→M' c)∧(a.tmps.size=59∧a.defers=[]∧a.eval (.tmp 5)=.pointer (some ⟨b5,0,none⟩)∧a.eval (.tmp 6)=.pointer (some ⟨b6,0,none⟩)∧a.eval (.tmp 9)=.pointer (some ⟨cb,0,none⟩)∧a.eval (.tmp 29)=.int .i64 ((0:Nat):Int)∧a.eval (.tmp 30)=.int .i64 ((0:Nat):Int))∧Mm Try.prog M' w ((L0 ++ [(b5,iN (.slice (some ⟨wb,0,none⟩) 2 wc) (.slice (some ⟨tb,0,none⟩) 5 tc)),(b6,bC (.slice none 0 0) 0 false)]) ++ (cellL cb ab hab).sh (0:Nat)) []) () ?_ fun _ S' M' a w hI=>?_
 ·exact ⟨rfl,fun c hc=>fC c (.inl (.inl hc)),⟨by simp only [size_put];exact hs,by simp only [bO];exact hd,eV,eV,eV,eV,eV⟩,hm.perm TF⟩
 clear hm hs hd h0 h1 h2 fC hS1
 obtain ⟨rfl,hup,⟨hs,hd,h5,h6,h9,TL,TM⟩,hm⟩:=hI
 have hfr:∀ p∈L0,p≠(b6,bC (.slice none 0 0) 0 false):=fun p hp e=>by
  have hn:=hm.nodup
  simp only [List.append_nil,List.map_append,List.append_assoc] at hn
  refine (List.nodup_append.1 hn).2.2 p.1 (List.mem_map.2 ⟨p,hp,rfl⟩) b6 ?_ (by rw [e])
  simp
 refine ak (kG [0] (kR (d:=some 31) (jC (t:=3) (t':=3) (x:=.tmp 30) (y:=(.tmp 29)) (k:=((0:Nat):Int)) (m:=((0:Nat):Int)) TM TL) hm fun w hm=>?_))
 refine aA (ak (kF eV ?_))
 refine lG ?_
 simp only [Bool.false_eq_true,↓reduceIte,if_true]
 refine ak (xe ?_)
 obtain ⟨j5,pG⟩:=List.mem_iff_getElem?.1 (show (b5,iN (.slice (some ⟨wb,0,none⟩) 2 wc) (.slice (some ⟨tb,0,none⟩) 5 tc))∈((L0 ++ [(b5,iN (.slice (some ⟨wb,0,none⟩) 2 wc) (.slice (some ⟨tb,0,none⟩) 5 tc)),(b6,bC (.slice none 0 0) 0 false)]) ++ (cellL cb ab hab).sh (0:Nat)) ++ [] by simp)
 rw [show List.range (opsOf 11 Try.f10.body).size=[0,1,2,3,4,5,6,7,8,9,10] by kernel_rfl]
 refine vW ae (d:=some 45) (t:=39) (x:=.tmp 5) eI (n:=j5) (b:=b5) (off:=0) eV hm pG (vs:=[.slice (some ⟨wb,0,none⟩) 2 wc,.slice (some ⟨tb,0,none⟩) 5 tc,.slice none 0 0,.int .i64 0]) (fun j v hj=>by rw [Nat.zero_add];simpa using hj) af af fun w hm=>?_
 refine kM (v:=.pointer (some ⟨cb,0,none⟩)) 46 9 hm fun w hm=>kR (d:=some 47) (v:=.agg #[.pointer (some ⟨cb,0,none⟩)]) (p:=.build 68 #[(0,.tmp 46)]) (fun o ho=>ik ho (vs:=[(0,.pointer (some ⟨cb,0,none⟩))]) (by simp only [List.map_cons,List.map_nil];exact congrArg (fun x=>[(0,x)]) eV) af) hm fun w hm=>?_
 refine kR (d:=some 48) (Io (t:=68) (x:=.tmp 47) (v:=.agg #[.pointer (some ⟨cb,0,none⟩)]) eV (fun w1=>⟨af,af⟩)) hm fun w hm=>?_
 refine kC (d:=some 49) (args:=#[.tmp 45,.tmp 48]) (ats:=#[39,86]) Try.func20 (ys:=#[.agg #[.slice (some ⟨wb,0,none⟩) 2 wc,.slice (some ⟨tb,0,none⟩) 5 tc,.slice none 0 0,.int .i64 0],.iface 68 (.agg #[.pointer (some ⟨cb,0,none⟩)])]) (by simp only [List.map_toArray,List.map_cons,List.map_nil];exact tK eV eV) (bG (Ti (Y:=cellL cb ab hab) (css:=[[(5:Nat)],[(9:Nat)]]) (ts:=[0,1,1,0,0]) (pe:=iO cb ab hab) (nn:=10) (m:=5) (σ:=(0:Nat)) (fun i p hp bF wb=>Sg bF) Sc ah ah (fun cs hcs=>by
  rcases List.mem_cons.1 hcs with rfl | hcs
  ·exact ⟨List.cons_ne_nil _ _,show 1≤64 by decide⟩
  ·rw [List.mem_singleton.1 hcs];exact ⟨List.cons_ne_nil _ _,show 1≤64 by decide⟩) (⟨aO ((hC cb ab hab).work),(hC cb ab hab).size,fun i cs hi=>by
  obtain ⟨c1,c2,c3,c4,q1,q2⟩:=(hC cb ab hab).calls i cs hi
  exact ⟨c1,c2,c3,c4,q1,aO (q2)⟩,aO ((hC cb ab hab).turns)⟩) ae ae rfl (by have:=Tz cb ab hab;exact this) (TA cb ab hab) hE hsz hO hm) fun e S2 M2 w hq2=>?_)
 obtain ⟨s2,bg,v,A,bs,X,rfl,hL⟩:=hq2
 have hm:=hL.mem
 have hS2:=hL.stop
 subst hS2
 refine kM (v:=.tuple #[.agg (dA v (iO cb ab hab).k false).toArray,.int .i64 0]) 44 49 hm fun w hm=>kR (d:=some 50) (jY (x:=.tmp 44) (ix:=0) (vs:=#[.agg (dA v (iO cb ab hab).k false).toArray,.int .i64 0]) (v:=.agg (dA v (iO cb ab hab).k false).toArray) eV rfl) hm fun w hm=>?_
 refine kR (d:=some 51) (jY (x:=.tmp 44) (ix:=1) (vs:=#[.agg (dA v (iO cb ab hab).k false).toArray,.int .i64 0]) (v:=.int .i64 0) eV rfl) hm fun w hm=>?_
 refine kX ae (d:=some 13) (t:=43) eI (z:=.agg (dA (.slice none 0 0) 0 false).toArray) af hm fun b13 w hm=>?_
 replace hm:=hm.perm List.perm_append_comm
 refine lX ae (d:=none) (t:=43) (x:=.tmp 13) (y:=.tmp 50) eI (n:=0) (b:=b13) eV (vs:=dA v (iO cb ab hab).k false) eV hm rfl rfl af (tL (tF hL.row)) fun w hm=>?_
 rw [bV]
 refine kS (v:=.int .i64 0) 10 51 hm fun w hm=>aA (ak (ak (kG [0,1] (kM (v:=.int .i64 0) 52 10 hm fun w hm=>?_))))
 refine kR (d:=some 53) (Bt (t:=25) (t':=25) (x:=.tmp 52) eV) hm fun w hm=>?_
 refine aA (kF eV ?_)
 refine bS ?_
 have hb6:(b6,bC (.slice none 0 0) 0 false)∈X:=hL.old _ (bR (ah))
 have hcb:(cb,Obj.cells #[.slice (some ⟨ab,0,none⟩) 1 1] 53 (0,0))∈X:=hL.sh _ (List.mem_cons_self ..)
 have hab':(ab,Obj.cells #[.int .i64 ((9:Nat):Int)] 62 (0,0))∈X:=hL.sh _ (List.mem_cons_of_mem _ (List.mem_cons_self ..))
 obtain ⟨X1,p1,k1⟩:=BB X hb6
 obtain ⟨X2,p2,k2⟩:=BB X1 (k1 _ hcb (yI ae))
 obtain ⟨X3,p3,k3⟩:=BB X2 (k2 _ (k1 _ hab' (yI ae)) (yI ae))
 have hin:∀ vb,∀ p∈X,p≠(b6,bC (.slice none 0 0) 0 false)→p∈((b6,bC v 5 false) :: (b13,bC v 5 false) :: ([(vb,.cells (Tu.ints [9]).toArray 3 (0,0))] ++ ((cb,.cells #[.slice (some ⟨ab,0,none⟩) 1 1] 53 (0,0)) :: (ab,.cells (Tu.ints [9]).toArray 62 (0,0)) :: X3))):=fun vb p hp hne=>by
  have q1:=k1 p hp hne
  refine List.mem_cons_of_mem _ (List.mem_cons_of_mem _ (bR (?_)))
  rcases Classical.em (p=(cb,Obj.cells #[.slice (some ⟨ab,0,none⟩) 1 1] 53 (0,0))) with e | e
  ·rw [e];exact List.mem_cons_self ..
  ·refine List.mem_cons_of_mem _ ?_
   rcases Classical.em (p=(ab,Obj.cells #[.int .i64 ((9:Nat):Int)] 62 (0,0))) with e' | e'
   ·rw [e'];exact List.mem_cons_self ..
   ·exact List.mem_cons_of_mem _ (k3 p (k2 p q1 e) e')
 have hm:Mm Try.prog _ _ ((b13,bC v 5 false) :: X) []:=hm
 have hm:Mm Try.prog _ _ ((b6,bC (.slice none 0 0) 0 false) :: (b13,bC v 5 false) :: ((cb,.cells #[.slice (some ⟨ab,0,none⟩) ([9]:List Int).length ([9]:List Int).length] 53 (0,0)) :: (ab,.cells (Tu.ints [9]).toArray 62 (0,0)) :: X3)) []:=hm.perm (TE p1 p2 p3)
 refine ak (SA (vs:=[9]) (k:=5) (tF hL.row) bJ eV eV eV ae hm fun a w M3 vb gs gd g6 g7 g8 Zj hm=>?_)
 refine eG ?_
 exact fT (TD (sl:=6) (t1:=7) (t2:=8) (t:=43) (b:=b6) (vs:=dA v 5 false) (e:=43) (fz:=(0,0)) rfl (gd.trans bJ) g6 g7 g8 af af hm (aO ((List.mem_cons_self ..))) fun w1 hr=>⟨vb,v,rfl,⟨⟨cb,ab,hab,s2,bg,A,bs,_,hL.row,hL.pure,hL.ok,rfl,hL.hE,hL.fine,hL.gone,hL.n,hm.rely hr,fun p hp=>hin vb p (hL.old p (aO (hp))) (hfr p hp),fun p hp=>hin vb p (hL.told p hp) (Ip hL.row ae p hp),fun x hx p hp=>hin vb p (hL.rows x hx p hp) (Ip (hL.ok x hx).row ae p hp),ah⟩⟩⟩)
end
end Go.Proofs.Ytanploaffndpjaa
namespace Go.Blind
open Go.Conc Go.RowKit
section
variable {P:Program}{main:Bool}{fn:FuncId}{kd:CallKind}{Q:aZ}{S:ai}{M:Nat→Prop}{a:Act}{w:World}{ops:Array Oper}{i:Nat}{d:Option Tmp}{rest:List Nat}{l r:List (Nat×Obj)}
theorem wm (hkd:kd≠.early){t e:TypeId}{n:Nat}{ys:Array (Nat×Operand)}(hi:bB ops a i d (.buildSlice t n ys)){us:List (Nat×Value)}{z:Value}{size:Nat}{cells:Array Value}(hy:ys.toList.map (fun q=>(q.1,a.eval q.2))=us)(hu:P.underlying t=some (.slice e))(hinfo:(P.info? e).map (fun i=>(i.zero,i.size))=some (some z,size))(hsmall:n * size≤2 ^ 24)(hpos:¬ n * size=0)(vQ:Instr.fill (fun i=>some (i * size,size)) ((Array.range (n * size)).map (z.cells[· % z.cells.size]!)) us=some cells)(hm:Mm P M w l r)
  (h:∀ b w1,Mm P (plus M b) w1 (l ++ [(b,.cells cells e (0,0))]) r→aG P main fn kd ops rest Q S (plus M b) (a.put d (.slice (some ⟨b,0,none⟩) n n)) w1):aG P main fn kd ops (i :: rest) Q S M a w:=by
 obtain ⟨o,ho,rfl,hop,hw⟩:=hi
 obtain ⟨inf,hi,hq⟩:=Option.map_eq_some_iff.1 hinfo
 simp only [Prod.mk.injEq] at hq
 have e1:execOp a.eval o=(do pure (Next.value (← Instr.buildSlice t n (ys.map fun q=>(q.1,a.eval q.2))))):=by
  unfold execOp
  rw [hop]
 have hl:(ys.map fun q=>(q.1,a.eval q.2)).toList=us:=by rw [Array.toList_map];exact hy
 have hsz:∀ w1:World,(sizeOf e).run P w1=.ok size w1:=fun w1=>by simp [sizeOf,typeInfo,hi,hq.2]
 have lS:∀ w1:World,(zeroValue e).run P w1=.ok z w1:=fun w1=>by simp [zeroValue,typeInfo,hi,hq.1]
 have hns:¬ n * size > 2 ^ 24:=Nat.not_lt.2 hsmall
 have hr:∀ w1:World,(Instr.buildSlice t n (ys.map fun q=>(q.1,a.eval q.2))).run P w1=.ok (.slice (some ⟨w1.heap.size,0,none⟩) n n) (w1.alloc (.cells cells e (0,0))):=fun w1=>by
  unfold Instr.buildSlice
  simp only [Sem.run_bind,run_underlying hu,Result.andThen_ok,hsz,if_neg hns,if_neg hpos,lS,Sem.run_pure,hl,vQ]
  rfl
 have hev:∀ w1:World,(Instr.buildSlice t n (ys.map fun q=>(q.1,a.eval q.2))).events P w1 #[]=#[]:=fun w1=>by
  unfold Instr.buildSlice
  simp only [Sem.events_bind,run_underlying hu,Result.evThen_ok,events_underlying,events_sizeOf,events_zeroValue,hsz,if_neg hns,if_neg hpos,lS,Sem.run_pure,Sem.events_pure,hl,vQ]
  rfl
 refine dx (jr hkd ho hw fun w1 hR K' hK=>?_)
 have hm1:=hm.rely hR
 have hlist:listed P fn a o w1=#[]:=listed_nil (by rw [e1,Sem.events_bind,hr];exact hev w1)
 rw [e1,Sem.run_bind,hr]
 exact hK _ _ _ (by rw [hlist];exact nP _) (h w1.heap.size _ (hm1.new _))
theorem Iq {i:Nat}{x u:Value}(h:x=u):[(i,x)]=[(i,u)]:=by rw [h]
theorem Ir {i j:Nat}{x y u v:Value}(h:x=u)(k:y=v):[(i,x),(j,y)]=[(i,u),(j,v)]:=by rw [h,k]
end
end Go.Blind
namespace Go.Proofs.Ytanploaffndpjaa
open Go Go.Blind Go.Conc
structure TN (Fin:bH)(L0:List (Nat×Obj))(b2 vb xb:Nat)(v:Value)(S:ai)(M:Nat→Prop)(w:World):Prop where
 ex:∃ (cb ab:Nat) (hne:cb≠ab) (s:Ring) (b:aJ) (A:List (Nat×Obj)) (bs:List (Bq (cellL cb ab hne))) (X:List (Nat×Obj)) (ar:Nat),Row 46 1 v bs.length (bs.map fun x=>x.k.ans) A∧bs.map Bq.pure=(iO cb ab hne).bs∧(∀ x∈bs,x.Ok b.R)∧S=aK Try.prog Fin s∧s.E=(G2 b 0 True).env Try.prog∧b.dL∧(∀ i,i≠0→i < s.size→s.O i=none)∧s.size=b.n+1∧Mm Try.prog M w X []∧(∀ p∈L0,p∈X)∧(∀ p∈A,p∈X)∧(∀ x∈bs,∀ p∈x.A,p∈X)∧(vb,Obj.cells (Tu.ints [9]).toArray 3 (0,0))∈X∧(b2,bC v 5 false)∈X∧(xb,Obj.cells #[.slice (some ⟨ar,0,none⟩) 3 3] 53 (0,0))∈X∧(ar,Obj.cells (Tu.ints [0,0,0]).toArray 62 (0,0))∈X
section
variable {Fin:bH}{s:Ring}{M:Nat→Prop}{w:World}{L0:List (Nat×Obj)}{a:Act}
theorem TP {REST:Code}{Q:aZ}(hs:a.tmps.size=109)(hd:a.defers=[])(hE:s.E=oZ Fin.out)(hsz:s.size=1)(hO:s.O 0=none)(hm:Mm Try.prog M w L0 [])
  (hQ:∀ a S M' w b2 vb xb v,a.tmps.size=109→a.defers=[]→a.eval (.tmp 2)=.pointer (some ⟨b2,0,none⟩)→a.eval (.tmp 3)=.slice (some ⟨vb,0,none⟩) 1 1→a.eval (.tmp 4)=.int .i64 0→a.eval (.tmp 5)=.pointer (some ⟨xb,0,none⟩)→a.eval (.tmp 6)=.int .i64 0→TN Fin L0 b2 vb xb v S M' w→aM Try.prog true 4 .normal REST Q S M' a w) :
  aM Try.prog true 4 .normal (.seq (.region 0 (opsOf 0 Try.f4.body) false) (.seq (.region 1 (opsOf 1 Try.f4.body) false) (.seq (.region 2 (opsOf 2 Try.f4.body) false) (.seq (.region 3 (opsOf 3 Try.f4.body) false) REST)))) Q (aK Try.prog Fin s) M a w:=by
 refine ak (kG [0] (kR (d:=some 0) (p:=.assign (.const (.bool false))) (fun o ho=>eB (v:=.bool false) ho rfl) hm fun w hm=>?_))
 refine aA (ak (kG [0,1,2,3,4,5,6,7,8] (kR (d:=some 11) (v:=.agg (dR 5).toArray) (p:=.build 32 #[(0,.const (.int .i64 6)),(2,.const (.int .i64 5))]) (fun o ho=>ik ho (vs:=[(0,.int .i64 6),(2,.int .i64 5)]) rfl af) hm fun w hm=>?_)))
 refine wm ae (d:=some 12) (t:=22) (e:=32) (n:=1) (ys:=#[(0,.tmp 11)]) (aV.at (show aV _ _ _ _ by unfold aV;kernel_rfl) _) (us:=[(0,.agg (dR 5).toArray)]) (z:=.agg #[.int .i64 0,.int .i64 0,.int .i64 0,.int .i64 0,.slice none 0 0]) (size:=5) (cells:=(dR 5).toArray) (Iq eV) af af ae ae af hm fun c1 w hm=>?_
 refine kR (d:=some 13) (v:=.agg (dR 9).toArray) (p:=.build 32 #[(0,.const (.int .i64 6)),(2,.const (.int .i64 9))]) (fun o ho=>ik ho (vs:=[(0,.int .i64 6),(2,.int .i64 9)]) rfl af) hm fun w hm=>?_
 refine wm ae (d:=some 14) (t:=22) (e:=32) (n:=1) (ys:=#[(0,.tmp 13)]) (aV.at (show aV _ _ _ _ by unfold aV;kernel_rfl) _) (us:=[(0,.agg (dR 9).toArray)]) (z:=.agg #[.int .i64 0,.int .i64 0,.int .i64 0,.int .i64 0,.slice none 0 0]) (size:=5) (cells:=(dR 9).toArray) (Iq eV) af af ae ae af hm fun c2 w hm=>?_
 refine wm ae (d:=some 15) (t:=37) (e:=22) (n:=2) (ys:=#[(0,.tmp 12),(1,.tmp 14)]) (aV.at (show aV _ _ _ _ by unfold aV;kernel_rfl) _) (us:=[(0,.slice (some ⟨c1,0,none⟩) 1 1),(1,.slice (some ⟨c2,0,none⟩) 1 1)]) (z:=.slice none 0 0) (size:=1) (cells:=#[.slice (some ⟨c1,0,none⟩) 1 1,.slice (some ⟨c2,0,none⟩) 1 1]) (Ir eV eV) af af ae ae af hm fun wb w hm=>?_
 refine wm ae (d:=some 16) (t:=29) (e:=3) (n:=5) (ys:=#[(0,.const (.int .i64 0)),(1,.const (.int .i64 1)),(2,.const (.int .i64 1)),(3,.const (.int .i64 0)),(4,.const (.int .i64 0))]) (aV.at (show aV _ _ _ _ by unfold aV;kernel_rfl) _) (us:=[(0,.int .i64 0),(1,.int .i64 1),(2,.int .i64 1),(3,.int .i64 0),(4,.int .i64 0)]) (z:=.int .i64 0) (size:=1) (cells:=(Tu.ints [0,1,1,0,0]).toArray) rfl af af ae ae af hm fun tb w hm=>?_
 refine kR (d:=some 17) (v:=.agg #[.slice (some ⟨wb,0,none⟩) 2 2,.slice (some ⟨tb,0,none⟩) 5 5,.slice none 0 0,.int .i64 0]) (p:=.build 39 #[(0,.tmp 15),(1,.tmp 16)]) (fun o ho=>ik ho (vs:=[(0,.slice (some ⟨wb,0,none⟩) 2 2),(1,.slice (some ⟨tb,0,none⟩) 5 5)]) (Ir eV eV) af) hm fun w hm=>?_
 refine kX ae (d:=some 1) (t:=39) eI (z:=.agg #[.slice none 0 0,.slice none 0 0,.slice none 0 0,.int .i64 0]) af hm fun b1 w hm=>?_
 replace hm:=hm.perm List.perm_append_comm
 refine lX ae (d:=none) (t:=39) (x:=.tmp 1) (y:=.tmp 17) eI (n:=0) (b:=b1) eV (vs:=[.slice (some ⟨wb,0,none⟩) 2 2,.slice (some ⟨tb,0,none⟩) 5 5,.slice none 0 0,.int .i64 0]) eV hm rfl rfl af (by simp [Value.oneCell']) fun w hm=>?_
 rw [bV]
 refine aA ?_
 replace hm:Mm Try.prog _ _ ((b1,iN (.slice (some ⟨wb,0,none⟩) 2 2) (.slice (some ⟨tb,0,none⟩) 5 5)) :: ((((L0 ++ [(c1,Obj.cells (dR 5).toArray 32 (0,0))]) ++ [(c2,Obj.cells (dR 9).toArray 32 (0,0))]) ++ [(wb,Obj.cells #[.slice (some ⟨c1,0,none⟩) 1 1,.slice (some ⟨c2,0,none⟩) 1 1] 22 (0,0))]) ++ [(tb,Obj.cells (Tu.ints [0,1,1,0,0]).toArray 3 (0,0))])) []:=hm
 have hC:∀ cb ab hne,Bu (Y:=cellL cb ab hne) dR [[(5:Nat)],[(9:Nat)]] [0,1,1,0,0] wb #[.slice (some ⟨c1,0,none⟩) 1 1,.slice (some ⟨c2,0,none⟩) 1 1] (0,0) tb (0,0) ((b1,iN (.slice (some ⟨wb,0,none⟩) 2 2) (.slice (some ⟨tb,0,none⟩) 5 5)) :: ((((L0 ++ [(c1,Obj.cells (dR 5).toArray 32 (0,0))]) ++ [(c2,Obj.cells (dR 9).toArray 32 (0,0))]) ++ [(wb,Obj.cells #[.slice (some ⟨c1,0,none⟩) 1 1,.slice (some ⟨c2,0,none⟩) 1 1] 22 (0,0))]) ++ [(tb,Obj.cells (Tu.ints [0,1,1,0,0]).toArray 3 (0,0))])):=fun cb ab hne=>by
  refine ⟨ah,rfl,fun i cs hi=>?_,ah⟩
  match i,hi with
  | 0,hi=>cases hi;exact ⟨c1,1,32,(0,0),rfl,show (c1,Obj.cells (dR 5).toArray _ _)∈_ by simp⟩
  | 1,hi=>cases hi;exact ⟨c2,1,32,(0,0),rfl,show (c2,Obj.cells (dR 9).toArray _ _)∈_ by simp⟩
  | n+2,hi=>cases hi
 refine ak (kG [0,1,2,3,4,5,6,7,8,9] (vW ae (d:=some 19) (t:=39) (x:=.tmp 1) eI (n:=0) (b:=b1) (off:=0) eV hm rfl (vs:=[.slice (some ⟨wb,0,none⟩) 2 2,.slice (some ⟨tb,0,none⟩) 5 5,.slice none 0 0,.int .i64 0]) (fun j v hj=>by rw [Nat.zero_add];simpa using hj) af af fun w hm=>?_))
 refine kC (d:=some 20) (args:=#[.const (.int .i64 1),.const (.slice none 0 0),.tmp 19]) (ats:=#[3,29,39]) Try.func10 (ys:=#[.int .i64 ((1:Nat):Int),.slice none 0 0,.agg #[.slice (some ⟨wb,0,none⟩) 2 2,.slice (some ⟨tb,0,none⟩) 5 5,.slice none 0 0,.int .i64 0]]) (by simp only [List.map_toArray,List.map_cons,List.map_nil];exact yB rfl rfl eV) (bG (TK hC hE hsz hO hm) fun e S2 M2 w hq=>?_)
 obtain ⟨vb,v,rfl,⟨cb,ab,hne,s2,bg,A,bs,X,hrow,BD,hok,rfl,hE2,wo,tT,hsn,hm,hold,hA,pP,hvb⟩⟩:=hq
 refine kM (v:=.tuple #[.agg (dA v 5 false).toArray,.slice (some ⟨vb,0,none⟩) 1 1,.int .i64 0]) 18 20 hm fun w hm=>kR (d:=some 21) (jY (x:=.tmp 18) (ix:=0) (vs:=#[.agg (dA v 5 false).toArray,.slice (some ⟨vb,0,none⟩) 1 1,.int .i64 0]) (v:=.agg (dA v 5 false).toArray) eV rfl) hm fun w hm=>?_
 refine kR (d:=some 22) (jY (x:=.tmp 18) (ix:=1) (vs:=#[.agg (dA v 5 false).toArray,.slice (some ⟨vb,0,none⟩) 1 1,.int .i64 0]) (v:=.slice (some ⟨vb,0,none⟩) 1 1) eV rfl) hm fun w hm=>?_
 refine kR (d:=some 23) (jY (x:=.tmp 18) (ix:=2) (vs:=#[.agg (dA v 5 false).toArray,.slice (some ⟨vb,0,none⟩) 1 1,.int .i64 0]) (v:=.int .i64 0) eV rfl) hm fun w hm=>?_
 refine kX ae (d:=some 2) (t:=43) eI (z:=.agg (dA (.slice none 0 0) 0 false).toArray) af hm fun b2 w hm=>?_
 replace hm:=hm.perm List.perm_append_comm
 refine lX ae (d:=none) (t:=43) (x:=.tmp 2) (y:=.tmp 21) eI (n:=0) (b:=b2) eV (vs:=dA v 5 false) eV hm rfl rfl af (tL (tF hrow)) fun w hm=>?_
 rw [bV]
 refine kS (v:=.slice (some ⟨vb,0,none⟩) 1 1) 3 22 hm fun w hm=>kS (v:=.int .i64 0) 4 23 hm fun w hm=>aA ?_
 replace hm:Mm Try.prog _ _ ((b2,bC v 5 false) :: X) []:=hm
 refine ak (kG [0,1,2,3,4,5] (kC (d:=some 25) (args:=#[.const (.int .i64 3)]) (ats:=#[3]) Try.func5 (ys:=#[.int .i64 ((3:Nat):Int)]) (by simp only [List.map_toArray,List.map_cons,List.map_nil];exact iM rfl) (bG (Ib (n:=3) ae ae hm _) fun e S1 M1 w hq=>?_)))
 obtain ⟨hS1,fC,xb,ar,rfl,hm⟩:=hq
 rw [hS1]
 refine kM (v:=.tuple #[.pointer (some ⟨xb,0,none⟩),.int .i64 0]) 24 25 hm fun w hm=>kR (d:=some 26) (jY (x:=.tmp 24) (ix:=0) (vs:=#[.pointer (some ⟨xb,0,none⟩),.int .i64 0]) (v:=.pointer (some ⟨xb,0,none⟩)) eV rfl) hm fun w hm=>?_
 refine kR (d:=some 27) (jY (x:=.tmp 24) (ix:=1) (vs:=#[.pointer (some ⟨xb,0,none⟩),.int .i64 0]) (v:=.int .i64 0) eV rfl) hm fun w hm=>?_
 refine kS (v:=.pointer (some ⟨xb,0,none⟩)) 5 26 hm fun w hm=>kS (v:=.int .i64 0) 6 27 hm fun w hm=>aA ?_
 exact hQ _ _ _ _ b2 vb xb v bJ bJ eV eV eV eV eV ⟨⟨cb,ab,hne,s2,bg,A,bs,_,ar,hrow,BD,hok,rfl,hE2,wo,tT,hsn,hm,fun p hp=>aO ((aO ((List.mem_cons_of_mem _ (hold p (by simp [hp])))))),fun p hp=>aO ((aO ((List.mem_cons_of_mem _ (hA p hp))))),fun x hx p hp=>aO ((aO ((List.mem_cons_of_mem _ (pP x hx p hp))))),aO ((aO ((List.mem_cons_of_mem _ hvb)))),aO ((aO ((List.mem_cons_self ..)))),bR ((List.mem_singleton.2 rfl)),aO ((bR ((List.mem_singleton.2 rfl))))⟩⟩
end
end Go.Proofs.Ytanploaffndpjaa

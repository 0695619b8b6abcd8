/- Of the proof. -/
import Derived.Test.YtanploaffndpjaaJ15
import GoSem.Claim
import Derived.Test.YtanploaffndpjaaProg
import Derived.WalkKit
import Derived.WalkSpells
import Derived.WalkLawsBesides
import Derived.Deep.OwnRows
import Derived.Laws.AppendOwnNone
set_option maxRecDepth 100000
set_option linter.unusedSimpArgs false
set_option linter.unusedVariables false
namespace Go.Proofs.Ytanploaffndpjaa
open Go Go.Blind Go.Conc
def GM:List (Option Nat):=[some 11,some 12,some 13,some 14,some 15,some 16,some 17,some 18,some 10,none]
abbrev Ga:Type:=Nat×Nat×Nat×Nat
def yx (c1 c2 arr:Nat):Array Value:=#[.chan (some c1),.chan (some c2),.chan (some arr),.bool false,.bool false]
def iA (c1 c2 arr:Nat):Obj:=.cells (yx c1 c2 arr) 115 (0,0)
def kV (v:Value):Obj:=.cells #[v] 111 (0,0)
def jV (R:Nat):Obj:=.cells #[.pointer (some ⟨R,0,none⟩)] 88 (0,0)
def tC (R arr:Nat)(γ:Ga):Nat→Value
 | 0=>.chan (some γ.1)
 | 1=>.chan (some γ.2.1)
 | 2=>.pointer (some ⟨R,0,none⟩)
 | 3=>.pointer (some ⟨R,0,none⟩)
 | 4=>.pointer (some ⟨R,1,none⟩)
 | 5=>.chan (some arr)
 | 6=>.agg (yx γ.1 γ.2.1 arr)
 | 7=>.pointer (some ⟨γ.2.2.1,0,none⟩)
 | 8=>.pointer (some ⟨γ.2.2.2,0,none⟩)
 | _=>undef
def oo (arr:Nat)(γ:Ga)(b7 b8 b9:Bool):List (Nat×Obj):=(if b7 then [(γ.2.2.1,iA γ.1 γ.2.1 arr)] else []) ++ (if b8 then [(γ.2.2.2,kV (if b9 then .pointer (some ⟨γ.2.2.1,0,none⟩) else .pointer none))] else [])
def GN (Fin:bH)(s:Ring)(M:Nat→Prop)(L r:List (Nat×Obj))(arr:Nat)(γ:Ga)(b0 b1 b6 b7 b8 b9:Bool)(S:ai)(M':Nat→Prop)(w:World):Prop :=
 ∃ eD:List Nat,S=aK Try.prog Fin { s with ch:=eD }∧eD.Perm ((if b0 then [γ.1] else []) ++ ((if b1 then [γ.2.1] else []) ++ s.ch))∧(b6=true→b0=true∧b1=true)∧(b7=true→b6=true)∧(b9=true→b7=true∧b8=true)∧(∀ c,M c→M' c)∧Mm Try.prog M' w (L ++ oo arr γ b7 b8 b9) r
section
variable {Fin:bH}{s:Ring}{b:aJ}{M:Nat→Prop}{a0:Act}{w:World}{L r:List (Nat×Obj)}{b5 arr kk:Nat}{Q:aZ}
theorem kW {n i:Nat}:on (Array.replicate n false) i=false:=by
 unfold on
 rw [Array.getD_eq_getD_getElem?,Array.getElem?_replicate]
 split <;> rfl
theorem oq {M:Nat→Prop}{w:World}{l r:List (Nat×Obj)}(hm:Mm Try.prog M w l r){n:Nat}:Mm Try.prog M { w with drawn:=n } l r:=⟨hm.own,hm.rd,hm.low,hm.aX,hm.base,hm.nodup⟩
theorem QG (hs:a0.tmps.size=39)(h5:a0.eval (.tmp 5)=.pointer (some ⟨b5,0,none⟩))(hE:s.E=(GH b kk 0).env Try.prog)(hf:b.dL)(hq:b.q=2)(hv1:b.c[1]?=some (.chan (some arr)))(hb5:(b5,jV b.R)∈L)(hm:Mm Try.prog M w L r)
  (hQ:∀ a w M' c1 c2 pb bp eD,a.tmps.size=39→a.defers=a0.defers→(∀ x:Nat,x < 10→a.eval (.tmp x)=a0.eval (.tmp x))→a.eval (.tmp 10)=.pointer (some ⟨bp,0,none⟩)→eD.Perm (c1 :: c2 :: s.ch)→(∀ c,M c→M' c)→Mm Try.prog M' w (L ++ [(pb,iA c1 c2 arr),(bp,kV (.pointer (some ⟨pb,0,none⟩)))]) r→Q .normal (aK Try.prog Fin { s with ch:=eD }) M' a w) :
  aM Try.prog true 26 .normal (.region 1 (opsOf 1 Try.f26.body) true) Q (aK Try.prog Fin s) M a0 w:=by
 refine jy af GM (by rw [hs];kernel_rfl) (Γ:=Ga) (tC b.R arr) (fun γ f S' M' w=>GN Fin s M L r arr γ (on f 0) (on f 1) (on f 6) (on f 7) (on f 8) (on f 9) S' M' w) (0,0,0,0) (fun w1 hr=>?_) (fun i hi γ f S' M' a w o ho hg hM hoi az hC=>?_) (fun γ f S' M' a w hall hM hC=>?_)
 ·simp only [kW]
  refine ⟨s.ch,rfl,List.Perm.refl _,(fun h=>by cases h),(fun h=>by cases h),(fun h=>by cases h),fun _ h=>h,?_⟩
  have:L ++ oo arr (0,0,0,0) false false false=L:=by simp [oo]
  rw [this]
  exact oq (hm.rely hr)
 ·have hsz:f.size=10:=hM.size
  have hw:=jd (a:=a) (ops:=(opsOf 1 Try.f26.body)) hg
  have hlt:i < 10:=hi
  obtain ⟨eD,rfl,hch,k6,k7,k9,hup,hmm⟩:=hC
  have hE':({ s with ch:=eD }:Ring).E=(GH b kk 0).env Try.prog:=hE
  obtain ⟨j5,pG⟩:∃ j5:Nat,((L ++ oo arr γ (on f 7) (on f 8) (on f 9)) ++ r)[j5]?=some (b5,jV b.R):=List.mem_iff_getElem?.1 (by simp [hb5])
  have still:∀ w1 x,i≠0→i≠1→i≠6→i≠7→i≠8→i≠9→x=tC b.R arr γ i→Mm Try.prog M' w1 (L ++ oo arr γ (on f 7) (on f 8) (on f 9)) r→∃ γ':Ga,a.put o.dst x=a.put o.dst (tC b.R arr γ' i)∧(∀ j,on f j=true→tC b.R arr γ' j=tC b.R arr γ j)∧GN Fin s M L r arr γ' (on (f.setIfInBounds i true) 0) (on (f.setIfInBounds i true) 1) (on (f.setIfInBounds i true) 6) (on (f.setIfInBounds i true) 7) (on (f.setIfInBounds i true) 8) (on (f.setIfInBounds i true) 9) (aK Try.prog Fin { s with ch:=eD }) M' w1:=by
   intro w1 x i0 i1 i6 i7 i8 i9 hx hm1
   refine ⟨γ,by rw [hx],fun _ _=>rfl,?_⟩
   rw [aB i0,aB i1,aB i6,aB i7,aB i8,aB i9]
   exact ⟨eD,rfl,hch,k6,k7,k9,hup,hm1⟩
  rcases (by omega:i=0∨i=1∨i=2∨i=3∨i=4∨i=5∨i=6∨i=7∨i=8∨i=9) with rfl | rfl | rfl | rfl | rfl | rfl | rfl | rfl | rfl | rfl
  ·have h6:on f 6=false:=Bool.eq_false_iff.2 fun h=>by have:=(k6 h).1;rw [hoi] at this;cases this
   have h7:on f 7=false:=Bool.eq_false_iff.2 fun h=>by have:=k7 h;rw [h6] at this;cases this
   have h9:on f 9=false:=Bool.eq_false_iff.2 fun h=>by have:=(k9 h).1;rw [h7] at this;cases this
   refine AU ae ho hw (aC af ho) (t:=112) (e:=58) (dir:=.both) af af (GK hE') fun c w1 hr=>?_
   refine ⟨(c,γ.2.1,γ.2.2.1,γ.2.2.2),rfl,fun j hj=>?_,?_⟩
   ·match j,hj with
    | 0,hj=>rw [hoi] at hj;cases hj
    | 6,hj=>rw [h6] at hj;cases hj
    | 1,_=>rfl
    | 2,_=>rfl
    | 3,_=>rfl
    | 4,_=>rfl
    | 5,_=>rfl
    | 7,_=>rfl
    | 8,_=>rfl
    | n+9,_=>rfl
   ·rw [bP ag,aB ae,aB ae,aB ae,aB ae,aB ae,h6,h7,h9]
    refine ⟨c :: eD,rfl,?_,(fun h=>by cases h),(fun h=>by cases h),(fun h=>by cases h),hup,?_⟩
    ·rw [hoi] at hch
     simp only [if_true,Bool.false_eq_true,if_false,List.nil_append,List.cons_append] at hch ⊢
     exact hch.cons c
    ·have hm2:=hmm.rely hr
     rw [h7,h9] at hm2
     exact hm2
  ·have h6:on f 6=false:=Bool.eq_false_iff.2 fun h=>by have:=(k6 h).2;rw [hoi] at this;cases this
   have h7:on f 7=false:=Bool.eq_false_iff.2 fun h=>by have:=k7 h;rw [h6] at this;cases this
   have h9:on f 9=false:=Bool.eq_false_iff.2 fun h=>by have:=(k9 h).1;rw [h7] at this;cases this
   refine AU ae ho hw (aC af ho) (t:=112) (e:=58) (dir:=.both) af af (GK hE') fun c w1 hr=>?_
   refine ⟨(γ.1,c,γ.2.2.1,γ.2.2.2),rfl,fun j hj=>?_,?_⟩
   ·match j,hj with
    | 1,hj=>rw [hoi] at hj;cases hj
    | 6,hj=>rw [h6] at hj;cases hj
    | 0,_=>rfl
    | 2,_=>rfl
    | 3,_=>rfl
    | 4,_=>rfl
    | 5,_=>rfl
    | 7,_=>rfl
    | 8,_=>rfl
    | n+9,_=>rfl
   ·rw [aB ae,bP ag,aB ae,aB ae,aB ae,aB ae,h6,h7,h9]
    refine ⟨c :: eD,rfl,?_,(fun h=>by cases h),(fun h=>by cases h),(fun h=>by cases h),hup,?_⟩
    ·rw [hoi] at hch
     simp only [if_true,Bool.false_eq_true,if_false,List.nil_append,List.cons_append] at hch ⊢
     exact (hch.cons c).trans (by cases on f 0 <;> simp [List.Perm.swap])
    ·have hm2:=hmm.rely hr
     rw [h7,h9] at hm2
     exact hm2
  ·exact eU ae ho hw (t:=88) (x:=.tmp 5) (aC af ho) (n:=j5) (b:=b5) (k:=0) ((hM.slot ae).trans h5) hmm pG (v:=.pointer (some ⟨b.R,0,none⟩)) rfl af fun w1=>still w1 _ ae ae ae ae ae ae rfl
  ·exact aS ae ho hw (jA (x:=.tmp 13) (aC af ho) (hM.val 2 13 rfl (az 2 af))) hmm fun w1=>still w1 _ ae ae ae ae ae ae rfl
  ·exact aS ae ho hw (bZ (t:=99) (x:=.tmp 14) (k:=1) (fo:=1) (aC af ho) (hM.val 3 14 rfl (az 3 af)) af) hmm fun w1=>still w1 _ ae ae ae ae ae ae rfl
  ·refine su (zZ ae ho hw (ad:=⟨b.R,1,none⟩) (v:=.chan (some arr)) (fun w1 hc=>yc Try.func26 rfl (aC (p:=.load 89 (.tmp 15)) af ho) (hM.val 4 15 rfl (az 4 af)) af w1 hc) ?_) (xP (G:=GH b kk 0) hE' ⟨hf.shut,hf.room⟩ (by show 1≠b.q;omega) (by show 1≠b.q+1;omega) hv1)
   exact fun w1 hr=>still w1 _ ae ae ae ae ae ae rfl (hmm.rely hr)
  ·have v0:=hM.val 0 11 rfl (az 0 af)
   have v1:=hM.val 1 12 rfl (az 1 af)
   have v5:=hM.val 5 16 rfl (az 5 af)
   refine aS ae ho hw (ik (t:=115) (parts:=#[(0,.tmp 11),(1,.tmp 12),(2,.tmp 16)]) (aC af ho) (vs:=[(0,.chan (some γ.1)),(1,.chan (some γ.2.1)),(2,.chan (some arr))]) (by simp [v0,v1,v5,tC]) (cells:=yx γ.1 γ.2.1 arr) af) hmm fun w1 hm1=>⟨γ,rfl,fun _ _=>rfl,?_⟩
   rw [aB ae,aB ae,bP ag,aB ae,aB ae,aB ae]
   exact ⟨eD,rfl,hch,fun _=>⟨az 0 af,az 1 af⟩,fun _=>rfl,k9,hup,hm1⟩
  ·have h9:on f 9=false:=Bool.eq_false_iff.2 fun h=>by have:=(k9 h).1;rw [hoi] at this;cases this
   have v6:=hM.val 6 17 rfl (az 6 af)
   rw [hoi,h9] at hmm
   refine GJ ae ho hw (t:=115) (x:=.tmp 17) (aC af ho) (cells:=yx γ.1 γ.2.1 arr) (by rw [v6];rfl) hmm fun c w1 _ hm1=>⟨(γ.1,γ.2.1,c,γ.2.2.2),rfl,fun j hj=>?_,?_⟩
   ·match j,hj with
    | 7,hj=>rw [hoi] at hj;cases hj
    | 0,_=>rfl
    | 1,_=>rfl
    | 2,_=>rfl
    | 3,_=>rfl
    | 4,_=>rfl
    | 5,_=>rfl
    | 6,_=>rfl
    | 8,_=>rfl
    | n+9,_=>rfl
   ·rw [aB ae,aB ae,aB ae,bP ag,aB ae,aB ae,h9]
    refine ⟨eD,rfl,hch,k6,fun _=>az 6 af,(fun h=>by cases h),fun c hc=>.inl (hup c hc),hm1.perm ?_⟩
    unfold oo
    simp only [Bool.false_eq_true,if_false,if_true,List.nil_append,List.append_assoc]
    exact List.Perm.append_left L List.perm_append_comm
  ·have h9:on f 9=false:=Bool.eq_false_iff.2 fun h=>by have:=(k9 h).2;rw [hoi] at this;cases this
   rw [hoi,h9] at hmm
   refine qH ae ho hw (t:=111) (aC af ho) (z:=.pointer none) af hmm fun c w1 hm1=>⟨(γ.1,γ.2.1,γ.2.2.1,c),rfl,fun j hj=>?_,?_⟩
   ·match j,hj with
    | 8,hj=>rw [hoi] at hj;cases hj
    | 0,_=>rfl
    | 1,_=>rfl
    | 2,_=>rfl
    | 3,_=>rfl
    | 4,_=>rfl
    | 5,_=>rfl
    | 6,_=>rfl
    | 7,_=>rfl
    | n+9,_=>rfl
   ·rw [aB ae,aB ae,aB ae,aB ae,bP ag,aB ae,h9]
    refine ⟨eD,rfl,hch,k6,k7,(fun h=>by cases h),fun c hc=>.inl (hup c hc),hm1.perm ?_⟩
    unfold oo
    simp only [Bool.false_eq_true,if_false,if_true,List.append_nil,List.append_assoc]
    exact List.Perm.refl _
  ·have h7:=az 7 af
   have h8:=az 8 af
   have v7:=hM.val 7 18 rfl h7
   have v8:=hM.val 8 10 rfl h8
   rw [h7,h8,hoi] at hmm
   have hm2:Mm Try.prog M' w ((γ.2.2.2,kV (.pointer none)) :: (L ++ [(γ.2.2.1,iA γ.1 γ.2.1 arr)])) r:=hmm.perm (by
    unfold oo
    simp only [Bool.false_eq_true,if_false,if_true]
    rw [← List.append_assoc]
    exact List.perm_append_comm)
   refine qJ ae Try.func26 rfl ho hw (t:=111) (x:=.tmp 10) (y:=.tmp 18) (aC af ho) (n:=0) (b:=γ.2.2.2) (k:=0) (v:=.pointer (some ⟨γ.2.2.1,0,none⟩)) v8 v7 hm2 rfl (by show 0 < 1;decide) af rfl fun w1 hm1=>⟨γ,rfl,fun _ _=>rfl,?_⟩
   rw [aB ae,aB ae,aB ae,aB ae,aB ae,bP ag,h7,h8]
   refine ⟨eD,rfl,hch,k6,(fun _=>k7 h7),(fun _=>⟨rfl,rfl⟩),hup,hm1.perm ?_⟩
   unfold oo
   simp only [if_true]
   rw [← List.append_assoc]
   exact List.perm_append_comm (l₁:=[(γ.2.2.2,kV (.pointer (some ⟨γ.2.2.1,0,none⟩)))])
 ·obtain ⟨eD,rfl,hch,k6,k7,k9,hup,hmm⟩:=hC
  rw [hall 0 ae,hall 1 ae] at hch
  rw [hall 7 ae,hall 8 ae,hall 9 ae] at hmm
  exact hQ a w M' γ.1 γ.2.1 γ.2.2.1 γ.2.2.2 eD (hM.fV.trans hs) hM.defers (fun x hx=>hM.slot (by
   unfold GM
   simp only [List.mem_cons,Option.some.injEq,List.not_mem_nil,or_false,reduceCtorEq]
   omega)) (hM.val 8 10 rfl (hall 8 ae)) hch hup hmm
end
def GQ:List (Option Nat):=[some 24,some 25,some 26,some 27,some 28,some 29,some 30,some 31,some 32,none]
abbrev Gt:Type:=Nat×Value×List (Nat×Obj)
def dA (v:Value)(k:Nat)(cut:Bool):List Value:=[v,.slice none 0 0,.int .i64 (k:Nat),.bool cut]
def bC (v:Value)(k:Nat)(cut:Bool):Obj:=.cells (dA v k cut).toArray 43 (0,0)
def vV (b5 bb:Nat)(v an:Value)(γ:Gt):Nat→Value
 | 0=>.pointer (some ⟨b5,0,none⟩)
 | 1=>v
 | 2=>.pointer (some ⟨bb,0,none⟩)
 | 3=>.pointer (some ⟨bb,0,none⟩)
 | 4=>.pointer (some ⟨bb,7,none⟩)
 | 5=>an
 | 6=>.slice (some ⟨γ.1,0,none⟩) 1 1
 | 7=>γ.2.1
 | 8=>.pointer (some ⟨b5,0,none⟩)
 | _=>undef
def GR (M:Nat→Prop)(b5:Nat)(v an:Value)(k:Nat)(cut:Bool)(A L r:List (Nat×Obj))(n:Nat)(xs:List Value)(γ:Gt)(b1 b6 b7 b9:Bool)(S0 S:ai)(M':Nat→Prop)(w:World):Prop :=
 S=S0∧(b7=true→b6=true∧b1=true)∧(b9=true→b7=true)∧(∀ c,M c→M' c)∧(b7=true→Row 46 1 γ.2.1 (n+1) (xs ++ [an]) γ.2.2)∧Mm Try.prog M' w ((b5,bC (if b9 then γ.2.1 else v) k cut) :: ((if b7 then γ.2.2 else A) ++ (L ++ (if b6 then [(γ.1,.cells #[an] 46 (0,0))] else [])))) r
section
variable {S0:ai}{M:Nat→Prop}{a0:Act}{w:World}{A L r:List (Nat×Obj)}{b5 bb pb n k:Nat}{cut:Bool}{v an:Value}{left halt:Int}{steps begin own:Nat}{fell:Bool}{xs:List Value}{Q:aZ}
theorem tF {e:TypeId}{size:Nat}{v:Value}{n:Nat}{xs:List Value}{A:List (Nat×Obj)}(h:Row e size v n xs A):v.oneCell'=true:=by
 rcases h.2 with ⟨rfl,_⟩ | ⟨g,cap,cur,rfl,_⟩ <;> rfl
theorem QI {an:Value}(tH:∃ o n c,an=.slice o n c):Instr.fill (fun i=>some (i * 1,1)) ((Array.range (1 * 1)).map ((Value.slice none 0 0).cells[· % (Value.slice none 0 0).cells.size]!)) [(0,an)]=some #[an]:=by
 obtain ⟨o1,n1,c1,rfl⟩:=tH
 kernel_rfl
theorem QJ (hs:a0.tmps.size=55)(h5:a0.eval (.tmp 5)=.pointer (some ⟨b5,0,none⟩))(h7:a0.eval (.tmp 7)=.pointer (some ⟨bb,0,none⟩))(hbb:(bb,bD pb left halt steps begin own fell an)∈L)(tH:∃ o n c,an=.slice o n c)(hrow:Row 46 1 v n xs A)(hn:n < 1000000)(hm:Mm Try.prog M w ((b5,bC v k cut) :: (A ++ L)) r)
  (hQ:∀ a w M' sb v' A',a.tmps.size=55→a.defers=a0.defers→(∀ x:Nat,x < 24→a.eval (.tmp x)=a0.eval (.tmp x))→(∀ c,M c→M' c)→Row 46 1 v' (n+1) (xs ++ [an]) A'→Mm Try.prog M' w ((b5,bC v' k cut) :: (A' ++ (L ++ [(sb,.cells #[an] 46 (0,0))]))) r→Q .normal S0 M' a w) :
  aM Try.prog true 35 .normal (.region 5 (opsOf 5 Try.f35.body) true) Q S0 M a0 w:=by
 refine jy af GQ (by rw [hs];kernel_rfl) (Γ:=Gt) (vV b5 bb v an) (fun γ f S' M' w=>GR M b5 v an k cut A L r n xs γ (on f 1) (on f 6) (on f 7) (on f 9) S0 S' M' w) (0,undef,[]) (fun w1 hr=>?_) (fun i hi γ f S' M' a w o ho hg hM hoi az hC=>?_) (fun γ f S' M' a w hall hM hC=>?_)
 ·simp only [kW]
  refine ⟨rfl,(fun h=>by cases h),(fun h=>by cases h),fun _ h=>h,(fun h=>by cases h),?_⟩
  simp only [Bool.false_eq_true,if_false,List.append_nil]
  exact oq (hm.rely hr)
 ·have hsz:f.size=10:=hM.size
  have hw:=jd (a:=a) (ops:=(opsOf 5 Try.f35.body)) hg
  have hlt:i < 10:=hi
  obtain ⟨rfl,k7,k9,hup,hR,hmm⟩:=hC
  obtain ⟨jb,hjb⟩:∃ jb:Nat,(((b5,bC (if on f 9 then γ.2.1 else v) k cut) :: ((if on f 7 then γ.2.2 else A) ++ (L ++ (if on f 6 then [(γ.1,.cells #[an] 46 (0,0))] else [])))) ++ r)[jb]?=some (bb,bD pb left halt steps begin own fell an):=List.mem_iff_getElem?.1 (by simp [hbb])
  have still:∀ w1 x,i≠1→i≠6→i≠7→i≠9→x=vV b5 bb v an γ i→Mm Try.prog M' w1 ((b5,bC (if on f 9 then γ.2.1 else v) k cut) :: ((if on f 7 then γ.2.2 else A) ++ (L ++ (if on f 6 then [(γ.1,.cells #[an] 46 (0,0))] else [])))) r→∃ γ':Gt,a.put o.dst x=a.put o.dst (vV b5 bb v an γ' i)∧(∀ j,on f j=true→vV b5 bb v an γ' j=vV b5 bb v an γ j)∧GR M b5 v an k cut A L r n xs γ' (on (f.setIfInBounds i true) 1) (on (f.setIfInBounds i true) 6) (on (f.setIfInBounds i true) 7) (on (f.setIfInBounds i true) 9) S' S' M' w1:=by
   intro w1 x i1 i6 i7 i9 hx hm1
   refine ⟨γ,by rw [hx],fun _ _=>rfl,?_⟩
   rw [aB i1,aB i6,aB i7,aB i9]
   exact ⟨rfl,k7,k9,hup,hR,hm1⟩
  rcases (by omega:i=0∨i=1∨i=2∨i=3∨i=4∨i=5∨i=6∨i=7∨i=8∨i=9) with rfl | rfl | rfl | rfl | rfl | rfl | rfl | rfl | rfl | rfl
  ·exact aS ae ho hw (bZ (t:=43) (x:=.tmp 5) (k:=0) (fo:=0) (aC af ho) ((hM.slot ae).trans h5) af) hmm fun w1=>still w1 _ ae ae ae ae rfl
  ·have ou:on f 7=false:=Bool.eq_false_iff.2 fun h=>by have:=(k7 h).2;rw [hoi] at this;cases this
   have h9:on f 9=false:=Bool.eq_false_iff.2 fun h=>by have:=k9 h;rw [ou] at this;cases this
   refine eU ae ho hw (t:=40) (x:=.tmp 24) (aC af ho) (n:=0) (b:=b5) (k:=0) (hM.val 0 24 rfl (az 0 af)) hmm rfl (v:=v) (by rw [h9];rfl) af fun w1 hm1=>⟨γ,rfl,fun _ _=>rfl,?_⟩
   rw [bP ag,aB ae,aB ae,aB ae]
   exact ⟨rfl,fun h=>⟨(k7 h).1,rfl⟩,k9,hup,hR,hm1⟩
  ·exact aS ae ho hw (bK (x:=.tmp 7) (aC af ho) ((hM.slot ae).trans h7)) hmm fun w1=>still w1 _ ae ae ae ae rfl
  ·exact aS ae ho hw (jA (x:=.tmp 26) (aC af ho) (hM.val 2 26 rfl (az 2 af))) hmm fun w1=>still w1 _ ae ae ae ae rfl
  ·exact aS ae ho hw (bZ (t:=118) (x:=.tmp 27) (k:=7) (fo:=7) (aC af ho) (hM.val 3 27 rfl (az 3 af)) af) hmm fun w1=>still w1 _ ae ae ae ae rfl
  ·exact eU ae ho hw (t:=46) (x:=.tmp 28) (aC af ho) (n:=jb) (b:=bb) (k:=7) (hM.val 4 28 rfl (az 4 af)) hmm hjb (v:=an) rfl af fun w1=>still w1 _ ae ae ae ae rfl
  ·have ou:on f 7=false:=Bool.eq_false_iff.2 fun h=>by have:=(k7 h).1;rw [hoi] at this;cases this
   have h9:on f 9=false:=Bool.eq_false_iff.2 fun h=>by have:=k9 h;rw [ou] at this;cases this
   have v5:=hM.val 5 29 rfl (az 5 af)
   rw [h9,ou,hoi] at hmm
   refine AJ ae ho hw (t:=40) (e:=46) (y:=.tmp 29) (aC af ho) af (z:=.slice none 0 0) (u:=an) (size:=1) af ae ae v5 (cells:=#[an]) (QI tH) hmm fun c w1 hm1=>⟨(c,γ.2.1,γ.2.2),rfl,fun j hj=>?_,?_⟩
   ·match j,hj with
    | 6,hj=>rw [hoi] at hj;cases hj
    | 0,_=>rfl
    | 1,_=>rfl
    | 2,_=>rfl
    | 3,_=>rfl
    | 4,_=>rfl
    | 5,_=>rfl
    | 7,_=>rfl
    | 8,_=>rfl
    | n+9,_=>rfl
   ·rw [aB ae,bP ag,aB ae,aB ae]
    rw [ou,h9]
    refine ⟨rfl,(fun h=>by cases h),(fun h=>by cases h),fun c hc=>.inl (hup c hc),(fun h=>by cases h),hm1.perm ?_⟩
    simp only [Bool.false_eq_true,if_false,if_true,List.append_nil,List.append_assoc,List.cons_append]
    exact List.Perm.refl _
  ·have h9:on f 9=false:=Bool.eq_false_iff.2 fun h=>by have:=k9 h;rw [hoi] at this;cases this
   have h6':=az 6 af
   have h1':=az 1 af
   have v1:=hM.val 1 25 rfl h1'
   have v6:=hM.val 6 30 rfl h6'
   rw [h9,hoi,h6'] at hmm
   simp only [Bool.false_eq_true,if_false,if_true] at hmm
   have QK:Mm Try.prog M' w (A ++ ((b5,bC v k cut) :: (L ++ [(γ.1,.cells #[an] 46 (0,0))]))) r:=hmm.perm List.perm_middle.symm
   refine AF ae ho hw (sx:=.tmp 25) (x:=.tmp 30) (t:=40) (aC af ho) (e:=46) (z:=.slice none 0 0) (size:=1) (bytes:=24) (n:=n) (sb:=γ.1) (c:=1) (news:=[an]) (eS:=46) (fz:=(0,0)) v1 v6 af af rfl ae hrow QK ah rfl (fun u hu=>by rw [List.mem_singleton.1 hu];obtain ⟨o1,n1,c1,e⟩:=tH;rw [e];rfl) (by unfold maxLen;omega) ag fun v' A' M2 w1 hR' dF hm1=>⟨(γ.1,v',A'),rfl,fun j hj=>?_,?_⟩
   ·match j,hj with
    | 7,hj=>rw [hoi] at hj;cases hj
    | 0,_=>rfl
    | 1,_=>rfl
    | 2,_=>rfl
    | 3,_=>rfl
    | 4,_=>rfl
    | 5,_=>rfl
    | 6,_=>rfl
    | 8,_=>rfl
    | n+9,_=>rfl
   ·rw [aB ae,aB ae,bP ag,aB ae]
    rw [h9,h6',h1']
    exact ⟨rfl,(fun _=>⟨rfl,rfl⟩),(fun h=>by cases h),fun c hc=>dF c (hup c hc),fun _=>hR',hm1.perm List.perm_middle⟩
  ·exact aS ae ho hw (bZ (t:=43) (x:=.tmp 5) (k:=0) (fo:=0) (aC af ho) ((hM.slot ae).trans h5) af) hmm fun w1=>still w1 _ ae ae ae ae rfl
  ·have ou:=az 7 af
   have v7:=hM.val 7 31 rfl ou
   have v8:=hM.val 8 32 rfl (az 8 af)
   rw [hoi] at hmm
   refine qJ ae Try.func35 rfl ho hw (t:=40) (x:=.tmp 32) (y:=.tmp 31) (aC af ho) (n:=0) (b:=b5) (k:=0) (v:=γ.2.1) v8 v7 hmm rfl (by show 0 < 4;decide) af (tF (hR ou)) fun w1 hm1=>⟨γ,rfl,fun _ _=>rfl,?_⟩
   rw [aB ae,aB ae,aB ae,bP ag]
   exact ⟨rfl,k7,fun _=>ou,hup,hR,hm1⟩
 ·obtain ⟨rfl,k7,k9,hup,hR,hmm⟩:=hC
  rw [hall 9 ae,hall 7 ae,hall 6 ae] at hmm
  exact hQ a w M' γ.1 γ.2.1 γ.2.2 (hM.fV.trans hs) hM.defers (fun x hx=>hM.slot (by
   unfold GQ
   simp only [List.mem_cons,Option.some.injEq,List.not_mem_nil,or_false,reduceCtorEq]
   omega)) hup (hR (hall 7 ae)) hmm
end
def Hz:List (Option Nat):=[some 19,some 20,some 21,some 22,some 23,some 24,some 25,some 26,some 27,some 28,some 29,some 30,some 31,some 32,some 33,none]
abbrev Gb:Type:=Nat×Nat×Value×List (Nat×Obj)
def Bb (pb:Nat)(left halt:Int):Array Value:=#[.pointer (some ⟨pb,0,none⟩),.int .i64 left,.int .i64 halt,.int .i64 ((0:Nat):Int),.int .i64 ((0:Nat):Int),.int .i64 ((0:Nat):Int),.bool false,.slice none 0 0]
def tO (R pb len:Nat)(halt:Int)(v0 vc:Value)(γ:Gb):Nat→Value
 | 0=>.pointer (some ⟨R,0,none⟩)
 | 1=>.pointer (some ⟨R,0,none⟩)
 | 2=>.pointer (some ⟨R,0,none⟩)
 | 3=>.pointer (some ⟨R,0,none⟩)
 | 4=>v0
 | 5=>.pointer (some ⟨pb,0,none⟩)
 | 6=>vc
 | 7=>.int .i64 (len:Nat)
 | 8=>.int .i64 halt
 | 9=>.agg (Bb pb len halt)
 | 10=>.pointer (some ⟨γ.1,0,none⟩)
 | 11=>.slice (some ⟨γ.2.1,0,none⟩) 1 1
 | 12=>γ.2.2.1
 | 13=>.pointer (some ⟨R,0,none⟩)
 | 14=>.pointer (some ⟨R,0,none⟩)
 | _=>undef
def mZ (pb len:Nat)(halt:Int)(γ:Gb)(b10 b11:Bool):List (Nat×Obj):=(if b10 then [(γ.1,bD pb len halt 0 0 0 false (.slice none 0 0))] else []) ++ (if b11 then [(γ.2.1,.cells #[.pointer (some ⟨γ.1,0,none⟩)] 116 (0,0))] else [])
def HY (Fin:bH)(s:Ring)(b:aJ)(kk:Nat)(M:Nat→Prop)(A L r:List (Nat×Obj))(n pb len:Nat)(halt:Int)(xs:List Value)(γ:Gb)(b4 b10 b11 b12 b15:Bool)(S:ai)(M':Nat→Prop)(w:World):Prop :=
 S=aK Try.prog Fin { s with E:=(GH (if b15 then b.set 0 γ.2.2.1 else b) kk 0).env Try.prog }∧(b11=true→b10=true)∧(b12=true→b11=true∧b4=true)∧(b15=true→b12=true)∧(b10=true→pb < γ.1)∧(∀ c,M c→M' c)∧(b12=true→Row 116 1 γ.2.2.1 (n+1) (xs ++ [.pointer (some ⟨γ.1,0,none⟩)]) γ.2.2.2)∧Mm Try.prog M' w ((if b12 then γ.2.2.2 else A) ++ (L ++ mZ pb len halt γ b10 b11)) r
section
variable {Fin:bH}{s:Ring}{b:aJ}{M:Nat→Prop}{a0:Act}{w:World}{A L r:List (Nat×Obj)}{b5 b7 bp pb n len cp kk:Nat}{halt:Int}{v0:Value}{ad:Option Addr}{xs:List Value}{Q:aZ}
theorem row_one {e:TypeId}{size:Nat}{v:Value}{n:Nat}{xs:List Value}{A:List (Nat×Obj)}(h:Row e size v n xs A):v.oneCell'=true:=by
 rcases h.2 with ⟨rfl,_⟩ | ⟨g,cap,cur,rfl,_⟩ <;> rfl
theorem RS (hs:a0.tmps.size=39)(h5:a0.eval (.tmp 5)=.pointer (some ⟨b5,0,none⟩))(h7:a0.eval (.tmp 7)=.pointer (some ⟨b7,0,none⟩))(h10:a0.eval (.tmp 10)=.pointer (some ⟨bp,0,none⟩))(h3:a0.eval (.tmp 3)=.int .i64 halt)(hE:s.E=(GH b kk 0).env Try.prog)(hf:b.dL)(hq:b.q=2)(hcs:b.c.size=5)(hv0:b.c[0]?=some v0)(hb5:(b5,jV b.R)∈L)(RU:(b7,dV (.slice ad len cp))∈L)(hbp:(bp,kV (.pointer (some ⟨pb,0,none⟩)))∈L){pO:Obj}(hpb:(pb,pO)∈L)(hrow:Row 116 1 v0 n xs A)(hn:n < 1000000)(hm:Mm Try.prog M w (A ++ L) r)
  (hQ:∀ a w M' bb sb v' A',a.tmps.size=39→a.defers=a0.defers→(∀ x:Nat,x < 19→a.eval (.tmp x)=a0.eval (.tmp x))→(∀ c,M c→M' c)→pb < bb→Row 116 1 v' (n+1) (xs ++ [.pointer (some ⟨bb,0,none⟩)]) A'→Mm Try.prog M' w (A' ++ (L ++ [(bb,bD pb len halt 0 0 0 false (.slice none 0 0)),(sb,.cells #[.pointer (some ⟨bb,0,none⟩)] 116 (0,0))])) r→Q .normal (aK Try.prog Fin { s with E:=(GH (b.set 0 v') kk 0).env Try.prog }) M' a w) :
  aM Try.prog true 26 .normal (.region 2 (opsOf 2 Try.f26.body) true) Q (aK Try.prog Fin s) M a0 w:=by
 refine jy af Hz (by rw [hs];kernel_rfl) (Γ:=Gb) (tO b.R pb len halt v0 (.slice ad len cp)) (fun γ f S' M' w=>HY Fin s b kk M A L r n pb len halt xs γ (on f 4) (on f 10) (on f 11) (on f 12) (on f 15) S' M' w) (0,0,undef,[]) (fun w1 hr=>?_) (fun i hi γ f S' M' a w o ho hg hM hoi az hC=>?_) (fun γ f S' M' a w hall hM hC=>?_)
 ·simp only [kW]
  have e:({ s with E:=(GH b kk 0).env Try.prog }:Ring)=s:=by rw [← hE]
  refine ⟨?_,(fun h=>by cases h),(fun h=>by cases h),(fun h=>by cases h),(fun h=>by cases h),fun _ h=>h,(fun h=>by cases h),?_⟩
  ·simp only [Bool.false_eq_true,if_false]
   rw [e]
  ·have:(if false=true then ([]:List (Nat×Obj)) else A) ++ (L ++ mZ pb len halt (0,0,undef,[]) false false)=A ++ L:=by simp [mZ]
   rw [this]
   exact oq (hm.rely hr)
 ·have hsz:f.size=16:=hM.size
  have hw:=jd (a:=a) (ops:=(opsOf 2 Try.f26.body)) hg
  have hlt:i < 16:=hi
  obtain ⟨rfl,k11,k12,k15,kp,hup,hR,hmm⟩:=hC
  obtain ⟨j5,pG⟩:∃ j5:Nat,(((if on f 12 then γ.2.2.2 else A) ++ (L ++ mZ pb len halt γ (on f 10) (on f 11))) ++ r)[j5]?=some (b5,jV b.R):=List.mem_iff_getElem?.1 (by simp [hb5])
  obtain ⟨j7,yC⟩:∃ j7:Nat,(((if on f 12 then γ.2.2.2 else A) ++ (L ++ mZ pb len halt γ (on f 10) (on f 11))) ++ r)[j7]?=some (b7,dV (.slice ad len cp)):=List.mem_iff_getElem?.1 (by simp [RU])
  obtain ⟨jp,hjp⟩:∃ jp:Nat,(((if on f 12 then γ.2.2.2 else A) ++ (L ++ mZ pb len halt γ (on f 10) (on f 11))) ++ r)[jp]?=some (bp,kV (.pointer (some ⟨pb,0,none⟩))):=List.mem_iff_getElem?.1 (by simp [hbp])
  have still:∀ w1 x,i≠4→i≠10→i≠11→i≠12→i≠15→x=tO b.R pb len halt v0 (.slice ad len cp) γ i→Mm Try.prog M' w1 ((if on f 12 then γ.2.2.2 else A) ++ (L ++ mZ pb len halt γ (on f 10) (on f 11))) r→∃ γ':Gb,a.put o.dst x=a.put o.dst (tO b.R pb len halt v0 (.slice ad len cp) γ' i)∧(∀ j,on f j=true→tO b.R pb len halt v0 (.slice ad len cp) γ' j=tO b.R pb len halt v0 (.slice ad len cp) γ j)∧HY Fin s b kk M A L r n pb len halt xs γ' (on (f.setIfInBounds i true) 4) (on (f.setIfInBounds i true) 10) (on (f.setIfInBounds i true) 11) (on (f.setIfInBounds i true) 12) (on (f.setIfInBounds i true) 15) (aK Try.prog Fin { s with E:=(GH (if on f 15 then b.set 0 γ.2.2.1 else b) kk 0).env Try.prog }) M' w1:=by
   intro w1 x i4 i10 i11 i12 i15 hx hm1
   refine ⟨γ,by rw [hx],fun _ _=>rfl,?_⟩
   rw [aB i4,aB i10,aB i11,aB i12,aB i15]
   exact ⟨rfl,k11,k12,k15,kp,hup,hR,hm1⟩
  rcases (by omega:i=0∨i=1∨i=2∨i=3∨i=4∨i=5∨i=6∨i=7∨i=8∨i=9∨i=10∨i=11∨i=12∨i=13∨i=14∨i=15) with rfl | rfl | rfl | rfl | rfl | rfl | rfl | rfl | rfl | rfl | rfl | rfl | rfl | rfl | rfl | rfl
  ·exact eU ae ho hw (t:=88) (x:=.tmp 5) (aC af ho) (n:=j5) (b:=b5) (k:=0) ((hM.slot ae).trans h5) hmm pG (v:=.pointer (some ⟨b.R,0,none⟩)) rfl af fun w1=>still w1 _ ae ae ae ae ae rfl
  ·exact eU ae ho hw (t:=88) (x:=.tmp 5) (aC af ho) (n:=j5) (b:=b5) (k:=0) ((hM.slot ae).trans h5) hmm pG (v:=.pointer (some ⟨b.R,0,none⟩)) rfl af fun w1=>still w1 _ ae ae ae ae ae rfl
  ·exact aS ae ho hw (jA (x:=.tmp 20) (aC af ho) (hM.val 1 20 rfl (az 1 af))) hmm fun w1=>still w1 _ ae ae ae ae ae rfl
  ·exact aS ae ho hw (bZ (t:=99) (x:=.tmp 21) (k:=0) (fo:=0) (aC af ho) (hM.val 2 21 rfl (az 2 af)) af) hmm fun w1=>still w1 _ ae ae ae ae ae rfl
  ·have h12:on f 12=false:=Bool.eq_false_iff.2 fun h=>by have:=(k12 h).2;rw [hoi] at this;cases this
   have nk:on f 15=false:=Bool.eq_false_iff.2 fun h=>by have:=k15 h;rw [h12] at this;cases this
   rw [nk]
   simp only [Bool.false_eq_true,if_false]
   refine su (zZ ae ho hw (ad:=⟨b.R,0,none⟩) (v:=v0) (fun w1 hc=>yc Try.func26 rfl (aC (p:=.load 90 (.tmp 22)) af ho) (hM.val 3 22 rfl (az 3 af)) af w1 hc) ?_) (xP (G:=GH b kk 0) rfl ⟨hf.shut,hf.room⟩ (by show 0≠b.q;omega) (by show 0≠b.q+1;omega) hv0)
   intro w1 hr
   refine ⟨γ,rfl,fun _ _=>rfl,?_⟩
   rw [bP ag,aB ae,aB ae,aB ae,aB ae]
   refine ⟨by rw [nk];rfl,k11,fun h=>⟨(k12 h).1,rfl⟩,k15,kp,hup,hR,hmm.rely hr⟩
  ·exact eU ae ho hw (t:=111) (x:=.tmp 10) (aC af ho) (n:=jp) (b:=bp) (k:=0) ((hM.slot ae).trans h10) hmm hjp (v:=.pointer (some ⟨pb,0,none⟩)) rfl af fun w1=>still w1 _ ae ae ae ae ae rfl
  ·exact eU ae ho hw (t:=22) (x:=.tmp 7) (aC af ho) (n:=j7) (b:=b7) (k:=0) ((hM.slot ae).trans h7) hmm yC (v:=.slice ad len cp) rfl af fun w1=>still w1 _ ae ae ae ae ae rfl
  ·exact aS ae ho hw (gN (t:=22) (x:=.tmp 25) (ad:=ad) (len:=len) (cap:=cp) af (hM.val 6 25 rfl (az 6 af)) o (aC af ho)) hmm fun w1=>still w1 _ ae ae ae ae ae rfl
  ·exact aS ae ho hw (bK (x:=.tmp 3) (aC af ho) ((hM.slot ae).trans h3)) hmm fun w1=>still w1 _ ae ae ae ae ae rfl
  ·have v5:=hM.val 5 24 rfl (az 5 af)
   have v7:=hM.val 7 26 rfl (az 7 af)
   have v8:=hM.val 8 27 rfl (az 8 af)
   exact aS ae ho hw (ik (t:=118) (parts:=#[(0,.tmp 24),(1,.tmp 26),(2,.tmp 27)]) (aC af ho) (vs:=[(0,.pointer (some ⟨pb,0,none⟩)),(1,.int .i64 (len:Nat)),(2,.int .i64 halt)]) (by simp [v5,v7,v8,tO]) (cells:=Bb pb len halt) af) hmm fun w1=>still w1 _ ae ae ae ae ae rfl
  ·have h11:on f 11=false:=Bool.eq_false_iff.2 fun h=>by have:=k11 h;rw [hoi] at this;cases this
   have h12:on f 12=false:=Bool.eq_false_iff.2 fun h=>by have:=(k12 h).1;rw [h11] at this;cases this
   have nk:on f 15=false:=Bool.eq_false_iff.2 fun h=>by have:=k15 h;rw [h12] at this;cases this
   have v9:=hM.val 9 28 rfl (az 9 af)
   have hpw:pb < w.heap.size:=(Array.getElem?_eq_some_iff.1 (hmm.own (pb,pO) (by simp [hpb])).2).1
   rw [h12,hoi,h11] at hmm
   refine GJ ae ho hw (t:=118) (x:=.tmp 28) (aC af ho) (cells:=Bb pb len halt) (by rw [v9];rfl) hmm fun c w1 hle hm1=>⟨(c,γ.2.1,γ.2.2.1,γ.2.2.2),rfl,fun j hj=>?_,?_⟩
   ·match j,hj with
    | 10,hj=>rw [hoi] at hj;cases hj
    | 0,_=>rfl
    | 1,_=>rfl
    | 2,_=>rfl
    | 3,_=>rfl
    | 4,_=>rfl
    | 5,_=>rfl
    | 6,_=>rfl
    | 7,_=>rfl
    | 8,_=>rfl
    | 9,_=>rfl
    | 11,_=>rfl
    | 12,_=>rfl
    | 13,_=>rfl
    | 14,_=>rfl
    | n+15,_=>rfl
   ·rw [aB ae,bP ag,aB ae,aB ae,aB ae]
    rw [h11,h12,nk]
    refine ⟨rfl,(fun h=>by cases h),(fun h=>by cases h),(fun h=>by cases h),(fun _=>Nat.lt_of_lt_of_le hpw hle),fun c hc=>.inl (hup c hc),(fun h=>by cases h),hm1.perm ?_⟩
    unfold mZ
    simp only [Bool.false_eq_true,if_false,if_true,List.append_nil,List.append_assoc]
    exact List.Perm.refl _
  ·have h12:on f 12=false:=Bool.eq_false_iff.2 fun h=>by have:=(k12 h).1;rw [hoi] at this;cases this
   have nk:on f 15=false:=Bool.eq_false_iff.2 fun h=>by have:=k15 h;rw [h12] at this;cases this
   have pI:=az 10 af
   have v10:=hM.val 10 29 rfl pI
   rw [h12,hoi,pI] at hmm
   refine AJ ae ho hw (t:=90) (e:=116) (y:=.tmp 29) (aC af ho) af (z:=.pointer none) (size:=1) af ae ae v10 (cells:=#[.pointer (some ⟨γ.1,0,none⟩)]) af hmm fun c w1 hm1=>⟨(γ.1,c,γ.2.2.1,γ.2.2.2),rfl,fun j hj=>?_,?_⟩
   ·match j,hj with
    | 11,hj=>rw [hoi] at hj;cases hj
    | 0,_=>rfl
    | 1,_=>rfl
    | 2,_=>rfl
    | 3,_=>rfl
    | 4,_=>rfl
    | 5,_=>rfl
    | 6,_=>rfl
    | 7,_=>rfl
    | 8,_=>rfl
    | 9,_=>rfl
    | 10,_=>rfl
    | 12,_=>rfl
    | 13,_=>rfl
    | 14,_=>rfl
    | n+15,_=>rfl
   ·rw [aB ae,aB ae,bP ag,aB ae,aB ae]
    rw [pI,h12,nk]
    refine ⟨rfl,(fun _=>rfl),(fun h=>by cases h),(fun h=>by cases h),(fun _=>kp pI),fun c hc=>.inl (hup c hc),(fun h=>by cases h),hm1.perm ?_⟩
    unfold mZ
    simp only [Bool.false_eq_true,if_false,if_true,List.append_nil,List.append_assoc]
    exact List.Perm.refl _
  ·have nk:on f 15=false:=Bool.eq_false_iff.2 fun h=>by have:=k15 h;rw [hoi] at this;cases this
   have yD:=az 11 af
   have h4':=az 4 af
   have pI:=k11 yD
   have v4:=hM.val 4 23 rfl h4'
   have v11:=hM.val 11 30 rfl yD
   rw [hoi,pI,yD] at hmm
   simp only [Bool.false_eq_true,if_false] at hmm
   refine AF ae ho hw (sx:=.tmp 23) (x:=.tmp 30) (t:=90) (aC af ho) (e:=116) (z:=.pointer none) (size:=1) (bytes:=8) (n:=n) (sb:=γ.2.1) (c:=1) (news:=[.pointer (some ⟨γ.1,0,none⟩)]) (eS:=116) (fz:=(0,0)) v4 v11 af af rfl ae hrow hmm (by simp [mZ]) rfl (fun u hu=>by rw [List.mem_singleton.1 hu];rfl) (by unfold maxLen;omega) ag fun v' A' M2 w1 hR' dF hm1=>⟨(γ.1,γ.2.1,v',A'),rfl,fun j hj=>?_,?_⟩
   ·match j,hj with
    | 12,hj=>rw [hoi] at hj;cases hj
    | 0,_=>rfl
    | 1,_=>rfl
    | 2,_=>rfl
    | 3,_=>rfl
    | 4,_=>rfl
    | 5,_=>rfl
    | 6,_=>rfl
    | 7,_=>rfl
    | 8,_=>rfl
    | 9,_=>rfl
    | 10,_=>rfl
    | 11,_=>rfl
    | 13,_=>rfl
    | 14,_=>rfl
    | n+15,_=>rfl
   ·rw [aB ae,aB ae,aB ae,bP ag,aB ae]
    rw [nk,pI,yD,h4']
    exact ⟨rfl,(fun _=>rfl),(fun _=>⟨rfl,rfl⟩),(fun h=>by cases h),(fun _=>kp pI),fun c hc=>dF c (hup c hc),fun _=>hR',hm1⟩
  ·exact aS ae ho hw (jA (x:=.tmp 19) (aC af ho) (hM.val 0 19 rfl (az 0 af))) hmm fun w1=>still w1 _ ae ae ae ae ae rfl
  ·exact aS ae ho hw (bZ (t:=99) (x:=.tmp 32) (k:=0) (fo:=0) (aC af ho) (hM.val 13 32 rfl (az 13 af)) af) hmm fun w1=>still w1 _ ae ae ae ae ae rfl
  ·have Bc:=az 12 af
   have v12:=hM.val 12 31 rfl Bc
   have v14:=hM.val 14 33 rfl (az 14 af)
   have hone:=row_one (hR Bc)
   rw [hoi]
   simp only [Bool.false_eq_true,if_false]
   have hf0:(GH b kk 0).dL:=⟨hf.shut,hf.room⟩
   refine su (Nv (St:=aK Try.prog Fin { s with E:=(GH (b.set 0 γ.2.2.1) kk 0).env Try.prog }) ae ho hw (ad:=⟨b.R,0,none⟩) (v:=γ.2.2.1) (fun w1 u hc hz=>Gj Try.func26 rfl (aC (p:=.store 90 (.tmp 33) (.tmp 31)) af ho) v14 v12 af hone w1 u hc hz) ?_) (E7 (G:=GH b kk 0) (s:={ s with E:=(GH b kk 0).env Try.prog }) rfl hf0 (by show 0≠b.q;omega) (by show 0≠b.q+1;omega) (by show 0 < b.c.size;omega) fun _=>?_)
   ·intro w1 hr
    refine ⟨γ,rfl,fun _ _=>rfl,?_⟩
    rw [aB ae,aB ae,aB ae,aB ae,bP ag]
    exact ⟨rfl,k11,k12,fun _=>Bc,kp,hup,hR,hmm.rely hr⟩
   ·refine kQ (G:=GH (b.set 0 γ.2.2.1) kk 0) (xG kk) ?_ hf.shut
    show b.q+1 < (b.c.setIfInBounds 0 _).size
    rw [Array.size_setIfInBounds]
    exact hf.room
 ·obtain ⟨rfl,k11,k12,k15,kp,hup,hR,hmm⟩:=hC
  rw [hall 12 ae,hall 10 ae,hall 11 ae] at hmm
  rw [hall 15 ae]
  exact hQ a w M' γ.1 γ.2.1 γ.2.2.1 γ.2.2.2 (hM.fV.trans hs) hM.defers (fun x hx=>hM.slot (by
   unfold Hz
   simp only [List.mem_cons,Option.some.injEq,List.not_mem_nil,or_false,reduceCtorEq]
   omega)) hup (kp (hall 10 ae)) (hR (hall 12 ae)) hmm
end
end Go.Proofs.Ytanploaffndpjaa
namespace Go.Proofs.Ytanploaffndpjaa.Tu
def bE (B:Nat→Bool)(n:Nat):List Nat:=(List.range n).filter B
theorem GU {B:Nat→Bool}{n:Nat}(h:B n=true):bE B (n+1)=bE B n ++ [n]:=by
 simp [bE,List.range_succ,List.filter_append,h]
theorem GX {B:Nat→Bool}{n:Nat}(h:B n=false):bE B (n+1)=bE B n:=by
 simp [bE,List.range_succ,List.filter_append,h]
theorem GY (B:Nat→Bool)(n:Nat):(bE B n).length≤n:=by
 have:=List.length_filter_le B (List.range n)
 simpa [bE] using this
theorem QL {B:Nat→Bool}{n x:Nat}:x∈bE B n↔x < n∧B x=true:=by simp [bE]
theorem QM {B C:Nat→Bool}{n:Nat}(h:∀ i,i < n→B i=C i):bE B n=bE C n:=by
 unfold bE
 exact List.filter_congr fun x hx=>h x (by simpa using hx)
def mU (l:List Nat)(last:Int):Nat:=(l.find? fun x:Nat=>decide (last < (x:Int))).getD (l.headD 0)
def jf (l:List Nat)(ts:List Int)(last:Int):Nat :=
 match ts with
 | []=>mU l last
 | t :: _=>l.getD (t % (l.length:Int)).toNat 0
def jh (l:List Nat)(ts:List Int)(last:Int):Int:=if l=[] then -1 else (jf l ts last:Int)
def jE (l:List Nat)(ts:List Int):List Int:=if l=[] then ts else ts.tail
def mV (l:List Nat)(ts:List Int)(last:Int):Int:=if l=[] then last else (jf l ts last:Int)
theorem QN {l:List Nat}(h:l≠[])(last:Int):mU l last∈l:=by
 unfold mU
 cases hf:l.find? fun x:Nat=>decide (last < (x:Int)) with
 | some y=>exact List.mem_of_find?_eq_some hf
 | none =>
  cases l with
  | nil=>exact absurd rfl h
  | cons a r=>simp
theorem mod_lt (t:Int){n:Nat}(h:0 < n):(t % (n:Int)).toNat < n∧0≤t % (n:Int):=by
 have h1:=Int.emod_nonneg t (b:=(n:Int)) ag
 have h2:=Int.emod_lt_of_pos t (b:=(n:Int)) ag
 omega
theorem QO {l:List Nat}(h:l≠[])(ts:List Int)(last:Int):jf l ts last∈l:=by
 cases ts with
 | nil=>exact QN h last
 | cons t r =>
  have hl:0 < l.length:=List.length_pos_iff.2 h
  have:=(mod_lt t hl).1
  show l.getD (t % (l.length:Int)).toNat 0∈l
  rw [List.getD_eq_getElem?_getD,List.getElem?_eq_getElem this]
  exact List.getElem_mem _
theorem QP (t:Int)(n:Nat)(h:0 < n)(hr:t.tmod n < 0):t.tmod n+n=t % (n:Int):=by
 have h1:=Int.emod_nonneg t (b:=(n:Int)) ag
 have h2:=Int.emod_lt_of_pos t (b:=(n:Int)) ag
 have h3:=Int.tmod_eq_emod (a:=t) (b:=(n:Int))
 split at h3 <;> omega
theorem QQ (t:Int)(n:Nat)(h:0 < n)(hr:0≤t.tmod n):t.tmod n=t % (n:Int):=by
 have h1:=Int.emod_nonneg t (b:=(n:Int)) ag
 have h2:=Int.emod_lt_of_pos t (b:=(n:Int)) ag
 have h3:=Int.tmod_eq_emod (a:=t) (b:=(n:Int))
 split at h3 <;> omega
theorem QR (t:Int)(n:Nat)(h:0 < n):-(n:Int) < t.tmod n∧t.tmod n < n:=by
 have h1:=Int.emod_nonneg t (b:=(n:Int)) ag
 have h2:=Int.emod_lt_of_pos t (b:=(n:Int)) ag
 have h3:=Int.tmod_eq_emod (a:=t) (b:=(n:Int))
 split at h3 <;> omega
theorem QS {l:List Nat}{k:Nat}{last:Int}(hk:k < l.length)(hb:∀ j (h:j < l.length),j < k→((l[j]'h:Nat):Int)≤last)(hy:last < ((l[k]'hk:Nat):Int)):mU l last=l[k]'hk:=by
 unfold mU
 have:l.find? (fun x:Nat=>decide (last < (x:Int)))=some (l[k]'hk):=by
  rw [List.find?_eq_some_iff_getElem]
  refine ⟨by simpa using hy,k,hk,rfl,fun j hj=>?_⟩
  have:=hb j ag hj
  simp only [Bool.not_eq_true',decide_eq_false_iff_not]
  omega
 rw [this];rfl
theorem QT {l:List Nat}{last:Int}(hb:∀ j (h:j < l.length),((l[j]'h:Nat):Int)≤last):mU l last=l.headD 0:=by
 unfold mU
 have:l.find? (fun x:Nat=>decide (last < (x:Int)))=none:=by
  rw [List.find?_eq_none]
  intro x hx
  obtain ⟨j,hj,rfl⟩:=List.getElem_of_mem hx
  have:=hb j hj
  simp only [decide_eq_true_eq];omega
 rw [this];rfl
end Go.Proofs.Ytanploaffndpjaa.Tu
namespace Go.Proofs.Ytanploaffndpjaa.Tu
open Go.RowKit
structure bf (r:Nat)(w w':World):Prop where
 os:w'.os=w.os
 tape:w'.tape=w.tape
 output:w'.output=w.output
 size:w.heap.size≤w'.heap.size
 block:∀ k,k < w.heap.size→k≠r→w'.heap[k]?=w.heap[k]?
theorem bf.refl (r:Nat)(w:World):bf r w w:=⟨rfl,rfl,rfl,Nat.le_refl _,fun _ _ _=>rfl⟩
theorem bf.trans {r:Nat}{a b c:World}(h:bf r a b)(k:bf r b c):bf r a c :=
 ⟨k.os.trans h.os,k.tape.trans h.tape,k.output.trans h.output,Nat.le_trans h.size k.size,fun i hi hn=>(k.block i (Nat.lt_of_lt_of_le hi h.size) hn).trans (h.block i hi hn)⟩
theorem bf.of {r:Nat}{a b:World}(h:Below a.heap.size a b):bf r a b:=⟨h.os,h.tape,h.output,h.size,fun i hi _=>h.block i hi⟩
theorem bf.set {r:Nat}{a w:World}(h:bf r a w)(o:Nat)(v:Value):bf r a (w.setCell ⟨r,o,none⟩ v) :=
 h.trans ⟨rfl,rfl,rfl,by simp [World.setCell],fun k _ hn=>Below.heap_setCell _ _ _ _ hn⟩
theorem bf.below {r B:Nat}{W a b:World}(h:bf r a b)(hW:Below B W a)(hB:B≤r)(hs:B≤a.heap.size):Below B W b :=
 hW.trans ⟨h.os,h.tape,h.output,h.size,fun k hk=>h.block k ag ag⟩
theorem bf.inner {r q:Nat}{a b c:World}(h:bf r a b)(k:bf q b c)(hq:a.heap.size≤q):bf r a c :=
 ⟨k.os.trans h.os,k.tape.trans h.tape,k.output.trans h.output,Nat.le_trans h.size k.size,fun i hi hn=>(k.block i (Nat.lt_of_lt_of_le hi h.size) ag).trans (h.block i hi hn)⟩
theorem bf.cell {r:Nat}{a b:World}(h:bf r a b){p:Addr}{v:Value}(hp:a.cell? p=some v)(hr:p.block≠r):b.cell? p=some v :=
 (World.cell?_of_block (h.block p.block (World.block_lt_of_cell? a p hp) hr)).trans hp
def gX (w:World)(ao:Option Addr)(xs:List Value):Prop :=
 xs=[]∨∃ b off,ao=some ⟨b,off,none⟩∧∀ j u,xs[j]?=some u→w.cell? ⟨b,off+j,none⟩=some u
theorem gX.keep {w w':World}{ao:Option Addr}{xs:List Value}{r:Nat}(h:gX w ao xs)(ho:bf r w w')(hr:∀ b off,ao=some ⟨b,off,none⟩→b < w.heap.size→b≠r):gX w' ao xs:=by
 rcases h with h | ⟨b,off,rfl,h⟩
 ·exact .inl h
 ·exact .inr ⟨b,off,rfl,fun j u hu=>ho.cell (h j u hu) (hr b off rfl (World.block_lt_of_cell? w _ (h j u hu)))⟩
theorem gX.yz {w w':World}{ao:Option Addr}{xs:List Value}(h:gX w ao xs)(ho:Below w.heap.size w w'):gX w' ao xs:=by
 rcases h with h | ⟨b,off,rfl,h⟩
 ·exact .inl h
 ·exact .inr ⟨b,off,rfl,fun j u hu=>by rw [ho.cell (World.block_lt_of_cell? w _ (h j u hu))];exact h j u hu⟩
def ints (ts:List Int):List Value:=ts.map (Value.int .i64)
def bools (B:Nat→Bool)(n:Nat):List Value:=(List.range n).map fun i=>.bool (B i)
theorem AX (ts:List Int):(ints ts).length=ts.length:=by simp [ints]
theorem GZ (B:Nat→Bool)(n:Nat):(bools B n).length=n:=by simp [bools]
theorem ints_at (ts:List Int){j:Nat}(h:j < ts.length):(ints ts)[j]?=some (.int .i64 (ts[j]'h)):=by simp [ints,h]
theorem QU (B:Nat→Bool){n j:Nat}(h:j < n):(bools B n)[j]?=some (.bool (B j)):=by simp [bools,h]
theorem gX.bool {w:World}{ao:Option Addr}{B:Nat→Bool}{n:Nat}(h:gX w ao (bools B n))(hn:0 < n):∃ b off,ao=some ⟨b,off,none⟩∧∀ j,j < n→w.cell? ⟨b,off+j,none⟩=some (.bool (B j)):=by
 rcases h with h | ⟨b,off,rfl,h⟩
 ·have:=congrArg List.length h;rw [GZ] at this;simp at this;omega
 ·exact ⟨b,off,rfl,fun j hj=>h j _ (QU B hj)⟩
theorem gX.int {w:World}{ao:Option Addr}{ts:List Int}(h:gX w ao (ints ts))(hn:0 < ts.length):∃ b off,ao=some ⟨b,off,none⟩∧∀ j (hj:j < ts.length),w.cell? ⟨b,off+j,none⟩=some (.int .i64 (ts[j]'hj)):=by
 rcases h with h | ⟨b,off,rfl,h⟩
 ·have:=congrArg List.length h;rw [AX] at this;simp at this;simp [this] at hn
 ·exact ⟨b,off,rfl,fun j hj=>h j _ (ints_at ts hj)⟩
structure Ord (T:TypeId)(w:World)(b g:Nat)(ts:List Int)(x:Int):Prop where
 ne:ts≠[]→g≠b
 lt:b < w.heap.size
 box:∃ ao cap,w.heap[b]?=some (.cells #[.slice ao ts.length cap,.int .i64 x] T (0,0))∧ts.length≤cap∧cap≤maxLen∧(ao=none→cap=0)∧(∀ ad,ao=some ad→ad.block=g)∧gX w ao (ints ts)
theorem gX.QV {w w':World}{ao:Option Addr}{ts:List Int}{r:Nat}(h:gX w ao (ints ts))(ho:bf r w w')(hr:ts≠[]→∀ b off,ao=some ⟨b,off,none⟩→b≠r):gX w' ao (ints ts):=by
 by_cases e:ts=[]
 ·subst e;exact .inl rfl
 ·exact h.keep ho (fun b off e2 _=>hr e b off e2)
theorem Ord.yz {T:TypeId}{w w':World}{b g:Nat}{ts:List Int}{x:Int}(h:Ord T w b g ts x)(ho:Below w.heap.size w w'):Ord T w' b g ts x:=by
 obtain ⟨h1,h2,ao,cap,h3,h4,h5,h6,h7,h8⟩:=h
 exact ⟨h1,Nat.lt_of_lt_of_le h2 ho.size,ao,cap,(ho.block b h2).trans h3,h4,h5,h6,h7,h8.yz ho⟩
theorem G4 {w:World}{b:Nat}{u v:Value}{T:TypeId}(h:w.heap[b]?=some (.cells #[u,v] T (0,0))) :
  w.cell? ⟨b,0,none⟩=some u∧w.cell? ⟨b,1,none⟩=some v∧w.frozen? ⟨b,0,none⟩=false∧w.frozen? ⟨b,1,none⟩=false:=by
 simp [World.cell?,World.frozen?,h]
theorem QW {w:World}{b:Nat}{u v:Value}{T:TypeId}(h:w.heap[b]?=some (.cells #[u,v] T (0,0)))(z:Value):(w.setCell ⟨b,0,none⟩ z).heap[b]?=some (.cells #[z,v] T (0,0)):=by
 simp [World.setCell,Array.getElem?_modify,h]
theorem QX {w:World}{b:Nat}{u v:Value}{T:TypeId}(h:w.heap[b]?=some (.cells #[u,v] T (0,0)))(z:Value):(w.setCell ⟨b,1,none⟩ z).heap[b]?=some (.cells #[u,z] T (0,0)):=by
 simp [World.setCell,Array.getElem?_modify,h]
theorem yA {k:IntKind}{a b:Int}(h:a=b):Ending.returned (.int k a)=.returned (.int k b):=by rw [h]
set_option maxHeartbeats 400000 in
theorem QY (t:Int)(n:Nat)(w:World)(h:0 < n)(hn:n≤140737488355328) :
  Calls Try.prog 80 #[.int .i64 t,.int .i64 n] w fun e w'=>e=.returned (.int .i64 (t % (n:Int)))∧w'=w:=by
 have hb:=QR t n h
 by_cases hr:t.tmod n < 0
 ·have e:=QP t n h hr
  have H:Hid (t.tmod n+n=t % (n:Int)):=e
  clear e
  go_enter Try.func80,Try.ntmps80
  go_wp2
  go_ret
  exact ⟨yA H.out,rfl⟩
 ·have e:=QQ t n h ag
  have H:Hid (t.tmod n=t % (n:Int)):=e
  clear e
  go_enter Try.func80,Try.ntmps80
  go_wp2
  go_ret
  exact ⟨yA H.out,rfl⟩
set_option maxHeartbeats 400000 in
theorem QZ (w:World)(r cap:Nat)(l:List Nat)(last:Int)(hl:l≠[])(hn:l.length≤140737488355328)
  (hc:∀ j (h:j < l.length),w.cell? ⟨r,j,none⟩=some (.int .i64 ((l[j]'h:Nat):Int))) :
  Calls Try.prog 79 #[.slice (some ⟨r,0,none⟩) l.length cap,.int .i64 (last+1)] w fun e w'=>e=.returned (.int .i64 (mU l last:Int))∧w'=w:=by
 have hp:0 < l.length:=List.length_pos_iff.2 hl
 have h0:=hc 0 hp
 go_enter Try.func79,Try.ntmps79
 go_wp2
 go_loop [9] (fun i=>∃ k:Nat,k≤l.length∧i=.int .i64 k∧Hid (∀ j (h:j < l.length),j < k→((l[j]'h:Nat):Int)≤last)) (fun i=>l.length - (intOf i).toNat)
 case atStart=>exact ⟨0,Nat.zero_le _,rfl,fun j _ h=>absurd h ag⟩
 case round =>
  obtain ⟨k,hk,rfl,hb⟩:=hrel
  by_cases hlt:k < l.length
  ·have hck:=hc k hlt
   by_cases hy:last+1≤((l[k]'hlt:Nat):Int)
   ·have e:=QS hlt hb.out ag
    have H:Hid (mU l last=l[k]'hlt):=e
    clear e hc
    go_wp2
    go_ret
    exact ⟨yA (by rw [H.out]),rfl⟩
   ·clear hc
    go_wp2
    go_round
    case rel=>exact ⟨k+1,ag,by go_num,fun j h hj=>by
     by_cases e:j=k
     ·subst e;omega
     ·exact hb.out j h ag⟩
    case measure=>simp [intOf];omega
  ·have e:=QT (l:=l) (last:=last) (fun j h=>hb.out j h ag)
   have H:Hid (mU l last=l.headD 0):=e
   clear e
   go_wp2
   go_ret
   exact ⟨yA (by rw [H.out];cases l with | nil=>exact absurd rfl hl | cons a r=>rfl),rfl⟩
def Room (w:World)(r:Nat)(t:TypeId)(m:Nat)(l:List Nat):Prop:=∃ f,w.rowIs r t m f∧∀ j (h:j < l.length),f j=.int .i64 ((l[j]'h:Nat):Int)
theorem Room.push {w:World}{r m:Nat}{t:TypeId}{l:List Nat}(h:Room w r t m l)(k:Nat):Room (w.setCell ⟨r,l.length,none⟩ (.int .i64 k)) r t m (l ++ [k]):=by
 obtain ⟨f,h1,h2⟩:=h
 refine ⟨_,h1.set l.length _,fun j hj=>?_⟩
 by_cases e:j=l.length
 ·subst e;simp
 ·have hj':j < l.length:=by simp at hj;omega
  rw [if_neg e,h2 j hj',List.getElem_append_left hj']
theorem Room.cell {w:World}{r m:Nat}{t:TypeId}{l:List Nat}(h:Room w r t m l)(hm:l.length≤m):∀ j (h:j < l.length),w.cell? ⟨r,j,none⟩=some (.int .i64 ((l[j]'h:Nat):Int)):=by
 obtain ⟨f,h1,h2⟩:=h
 intro j hj
 rw [h1.cell ag,h2 j hj]
theorem Room.any {w:World}{r m:Nat}{t:TypeId}{l:List Nat}(h:Room w r t m l){j:Nat}(hj:j < m):∃ v,w.cell? ⟨r,j,none⟩=some v∧w.frozen? ⟨r,j,none⟩=false:=by
 obtain ⟨f,h1,-⟩:=h
 exact ⟨_,h1.cell hj,h1.frozen j⟩
set_option maxHeartbeats 800000 in
theorem Q0 (w:World)(ao:Option Addr)(n cap:Nat)(B:Nat→Bool)(r m mc:Nat)(t:TypeId)(hv:gX w ao (bools B n))(hne:0 < n→∀ b off,ao=some ⟨b,off,none⟩→b≠r)(hr:Room w r t m [])(hm:n≤m)(hmc:m≤mc)(hn:mc≤140737488355328) :
  Calls Try.prog 70 #[.slice ao n cap,.slice (some ⟨r,0,none⟩) m mc] w fun e w'=>e=.returned (.slice (some ⟨r,0,none⟩) (bE B n).length mc)∧bf r w w'∧Room w' r t m (bE B n):=by
 have hlr:=hr
 clear hr
 go_enter Try.func70,Try.ntmps70
 go_wp2
 go_loopw [5,10] (fun c i wr=>∃ k:Nat,k≤n∧i=.int .i64 k∧c=.int .i64 (bE B k).length∧bf r w wr∧Room wr r t m (bE B k)) (fun _ i _=>n - (intOf i).toNat)
 case atStart=>exact ⟨0,Nat.zero_le _,rfl,rfl,bf.refl _ _,hlr⟩
 case round =>
  obtain ⟨k,hk,rfl,rfl,hO,hR⟩:=hrel
  clear hlr
  have hl:=GY B k
  by_cases hlt:k < n
  ·obtain ⟨b,off,rfl,hc⟩:=hv.bool ag
   have hck:wr.cell? ⟨b,off+k,none⟩=some (.bool (B k)):=hO.cell (hc k hlt) (hne ag b off rfl)
   obtain ⟨v,hc1,hf1⟩:=hR.any (j:=(bE B k).length) ag
   have hlm:(bE B k).length < m:=by omega
   cases hB:B k with
   | true =>
    rw [hB] at hck
    have R2:=hR.push k
    rw [← GU hB] at R2
    have L2:Hid ((bE B (k+1)).length=(bE B k).length+1):=by rw [Hid,GU hB];simp
    have HR:Hid (Room (wr.setCell ⟨r,(bE B k).length,none⟩ (.int .i64 k)) r t m (bE B (k+1))):=R2
    clear R2 hR hc hv hB
    go_wp2
    go_roundw
    case rel=>exact ⟨k+1,ag,by go_num,by rw [L2.out];go_num,hO.set _ _,HR.out⟩
    case measure=>simp [intOf];omega
   | false =>
    rw [hB] at hck
    have HR:Hid (Room wr r t m (bE B (k+1))):=by rw [GX hB];exact hR
    have L2:Hid ((bE B (k+1)).length=(bE B k).length):=by rw [Hid,GX hB]
    clear hR hc hv hB
    go_wp2
    go_roundw
    case rel=>exact ⟨k+1,ag,by go_num,by rw [L2.out],hO,HR.out⟩
    case measure=>simp [intOf];omega
  ·obtain rfl:k=n:=by omega
   have HR:Hid (Room wr r t m (bE B k)):=hR
   clear hR
   go_wp2
   go_ret
   exact ⟨rfl,hO,HR.out⟩
theorem Q3 {T:TypeId}{w:World}{b p off cap:Nat}{t x:Int}{rest:List Int}(hgb:p≠b)(hlt:b < w.heap.size)
  (h3:w.heap[b]?=some (.cells #[.slice (some ⟨p,off,none⟩) (rest.length+1) cap,.int .i64 x] T (0,0)))(h4:rest.length+1≤cap)(h5:cap≤maxLen)(h8:gX w (some ⟨p,off,none⟩) (ints (t :: rest)))
  (q:Nat)(hq:cap=1∨q=off+1)(c':Nat)(hc':c'=cap - 1):Ord T (w.setCell ⟨b,0,none⟩ (.slice (some ⟨p,q,none⟩) rest.length c')) b p rest x:=by
 subst hc'
 refine ⟨fun _=>hgb,by simpa [World.setCell] using hlt,some ⟨p,q,none⟩,cap - 1,QW h3 _,ag,by omega,(fun e=>by cases e),(fun _ e=>by cases e;rfl),?_⟩
 rcases hq with hq | rfl
 ·left
  have:rest=[]:=List.length_eq_zero_iff.1 ag
  subst this;rfl
 ·right
  obtain ⟨p',off',e,hc⟩:=h8.int ah
  cases e
  refine ⟨p,off+1,rfl,fun j u hu=>?_⟩
  have hj:j < rest.length:=by have:=(List.getElem?_eq_some_iff.1 hu).1;simpa [ints] using this
  rw [ints_at rest hj] at hu
  cases hu
  rw [World.cell?_setCell_other _ _ _ _ (fun e=>hgb (by simpa using (congrArg Addr.block e).symm))]
  have:=hc (j+1) (by simpa using hj)
  rw [show off+1+j=off+(j+1) by omega,this];rfl
set_option maxHeartbeats 800000 in
theorem Q4 (w:World)(b g:Nat)(ts:List Int)(last:Int)(h:Ord 131 w b g ts (last+1))(r rc:Nat)(l:List Nat)(hl:l≠[])(hn:l.length≤140737488355328)(hr:r≠b)
  (hc:∀ j (h:j < l.length),w.cell? ⟨r,j,none⟩=some (.int .i64 ((l[j]'h:Nat):Int))) :
  Calls Try.prog 78 #[.pointer (some ⟨b,0,none⟩),.slice (some ⟨r,0,none⟩) l.length rc] w fun e w'=>e=.returned (.int .i64 (jf l ts last:Int))∧bf b w w'∧Ord 131 w' b g ts.tail (last+1):=by
 have hp:0 < l.length:=List.length_pos_iff.2 hl
 obtain ⟨hgb,hlt,ao,cap,h3,h4,h5,h6,h7,h8⟩:=h
 obtain ⟨c0,c1,f0,f1⟩:=G4 h3
 cases ts with
 | nil =>
  have HO:Hid (Ord 131 w b g [] (last+1)):=⟨hgb,hlt,ao,cap,h3,h4,h5,h6,h7,h8⟩
  clear h3 h4 h5 h6 h7 h8
  simp only [List.length_nil] at c0
  go_enter Try.func78,Try.ntmps78
  go_wp2_with (go_at_call 79;refine (QZ w r rc l last hl hn hc).mono ?_;rintro e w' ⟨rfl,rfl⟩)
  go_ret
  exact ⟨rfl,bf.refl _ _,HO.out⟩
 | cons t rest =>
  obtain ⟨p,off,rfl,hcells⟩:=h8.int ah
  have Q5:p=g:=h7 _ rfl
  subst Q5
  replace hgb:=hgb ah
  have ht:w.cell? ⟨p,off,none⟩=some (.int .i64 t):=hcells 0 ah
  obtain ⟨hm1,hm2⟩:=mod_lt t hp
  have mO:t % (l.length:Int) < (l.length:Int):=by omega
  have hcm:w.cell? ⟨r,(t % (l.length:Int)).toNat,none⟩=some (.int .i64 (jf l (t :: rest) last:Int)):=by
   rw [hc _ hm1]
   show _=some (Value.int .i64 ((l.getD (t % (l.length:Int)).toNat 0:Nat):Int))
   rw [List.getD_eq_getElem?_getD,List.getElem?_eq_getElem hm1];rfl
  simp only [List.length_cons] at c0 h3 h4
  have HO:Hid (∀ q c',(cap=1∨q=off+1)→c'=cap - 1→Ord 131 (w.setCell ⟨b,0,none⟩ (.slice (some ⟨p,q,none⟩) rest.length c')) b p rest (last+1)):=fun q c' h1 h2=>Q3 hgb hlt h3 h4 h5 h8 q h1 c' h2
  clear hcells h8 h7 hc h3 h6
  have hca:∀ u,(w.setCell ⟨b,0,none⟩ u).cell? ⟨r,(t % (l.length:Int)).toNat,none⟩=some (.int .i64 (jf l (t :: rest) last:Int)):=fun u=>by
   rw [World.cell?_setCell_other _ _ _ _ (fun e=>hr (by simpa using (congrArg Addr.block e).symm))];exact hcm
  generalize jf l (t :: rest) last=ch at *
  unfold maxLen at h5
  go_enter Try.func78,Try.ntmps78
  go_wp2_with (go_at_call 80;refine (QY t l.length _ hp hn).mono ?_;rintro e w' ⟨rfl,rfl⟩)
  all_goals
   go_ret
   refine ⟨rfl,(bf.refl _ _).set _ _,HO.out _ _ ?_ ?_⟩ <;> omega
set_option maxHeartbeats 800000 in
theorem mQ (w:World)(b g:Nat)(ts:List Int)(last:Int)(h:Ord 131 w b g ts (last+1))(r rc:Nat)(l:List Nat)(hn:l.length≤140737488355328)(hr:r≠b)(hx:∀ x,x∈l→x < 140737488355328)
  (hc:∀ j (h:j < l.length),w.cell? ⟨r,j,none⟩=some (.int .i64 ((l[j]'h:Nat):Int))) :
  Calls Try.prog 69 #[.pointer (some ⟨b,0,none⟩),.slice (some ⟨r,0,none⟩) l.length rc] w fun e w'=>e=.returned (.int .i64 (jh l ts last))∧bf b w w'∧Ord 131 w' b g (jE l ts) (mV l ts last+1):=by
 by_cases hl:l=[]
 ·subst hl
  have HO:Hid (Ord 131 w b g ts (last+1)):=h
  clear h hc
  simp only [List.length_nil]
  go_enter Try.func69,Try.ntmps69
  go_wp2
  go_ret
  exact ⟨rfl,bf.refl _ _,HO.out⟩
 ·have hp:0 < l.length:=List.length_pos_iff.2 hl
  have hch:=hx _ (QO hl ts last)
  have e1:jh l ts last=(jf l ts last:Int):=if_neg hl
  have e2:jE l ts=ts.tail:=if_neg hl
  have e3:mV l ts last=(jf l ts last:Int):=if_neg hl
  rw [e1,e2,e3]
  clear e1 e2 e3
  have HC:=Q4 w b g ts last h r rc l hl hn hr hc
  clear h hc hx
  generalize jf l ts last=ch at *
  go_enter Try.func69,Try.ntmps69
  go_wp2_with (go_at_call 78;refine HC.mono ?_;rintro e w1 ⟨rfl,hO,hd⟩;obtain ⟨hgb,hlt,ao,cap,h3,h4,h5,h6,h7,h8⟩:=hd;obtain ⟨c0,c1,f0,f1⟩:=G4 h3)
  go_ret
  refine ⟨rfl,hO.set _ _,hgb,by simpa [World.setCell] using hlt,ao,cap,QX h3 _,h4,h5,h6,h7,?_⟩
  exact h8.QV ((bf.refl _ _).set 1 _) (fun hne p q e=>by rw [show p=g from h7 _ e];exact hgb hne)
theorem Q6 (w:World)(t:TypeId):Room (w.alloc (.cells #[.int .i64 0,.int .i64 0,.int .i64 0,.int .i64 0,.int .i64 0,.int .i64 0,.int .i64 0,.int .i64 0] t)) w.heap.size t 8 [] :=
 ⟨fun _=>.int .i64 0,World.rowIs_alloc w _ t _ (fun i hi=>by
  have:i=0∨i=1∨i=2∨i=3∨i=4∨i=5∨i=6∨i=7:=by simp at hi;omega
  rcases this with rfl | rfl | rfl | rfl | rfl | rfl | rfl | rfl <;> rfl),fun j h=>absurd h ah⟩
theorem Q7 {w w0:World}{b g r m mc n:Nat}{t:TypeId}{ts:List Int}{last:Int}{ao:Option Addr}{cap:Nat}{B:Nat→Bool}(h:Ord 131 w b g ts (last+1))(hv:gX w ao (bools B n))(h0:Below w.heap.size w w0)
  (hr:w.heap.size≤r)(hR:Room w0 r t m [])(hm:n≤m)(hmc:m≤mc)(hn:mc≤140737488355328) :
  Calls Try.prog 70 #[.slice ao n cap,.slice (some ⟨r,0,none⟩) m mc] w0 fun e w1=>e=.returned (.slice (some ⟨r,0,none⟩) (bE B n).length mc) ∧
   Calls Try.prog 69 #[.pointer (some ⟨b,0,none⟩),.slice (some ⟨r,0,none⟩) (bE B n).length mc] w1 fun e w'=>e=.returned (.int .i64 (jh (bE B n) ts last))∧bf b w w'∧Ord 131 w' b g (jE (bE B n) ts) (mV (bE B n) ts last+1):=by
 have hbl:=h.lt
 have hl:=GY B n
 refine (Q0 w0 ao n cap B r m mc t (hv.yz h0) (fun hn b off e=>?_) hR hm hmc hn).mono ?_
 ·obtain ⟨p,q,e',hc⟩:=hv.bool hn
  rw [e'] at e;cases e
  have:=World.block_lt_of_cell? w _ (hc 0 hn)
  simp only at this
  omega
 ·rintro e w1 ⟨rfl,hO,AY⟩
  refine ⟨rfl,?_⟩
  have nM:Ord 131 w1 b g ts (last+1):=h.yz (hO.below h0 hr h0.size)
  refine (mQ w1 b g ts last nM r mc (bE B n) ag ag (fun x hx=>by have:=(QL.1 hx).1;omega) (AY.cell ag)).mono ?_
  rintro e w' ⟨rfl,h1,h2⟩
  exact ⟨rfl,((bf.of h0).inner hO hr).trans h1,h2⟩
set_option maxHeartbeats 800000 in
theorem Q8 (w:World)(b g:Nat)(ts:List Int)(last:Int)(h:Ord 131 w b g ts (last+1))(ao:Option Addr)(n cap:Nat)(B:Nat→Bool)(hv:gX w ao (bools B n))(h8:n≤8) :
  Calls Try.prog 44 #[.pointer (some ⟨b,0,none⟩),.slice ao n cap] w fun e w'=>e=.returned (.int .i64 (jh (bE B n) ts last))∧bf b w w'∧Ord 131 w' b g (jE (bE B n) ts) (mV (bE B n) ts last+1):=by
 have hd:decide (8 < n)=false:=decide_eq_false ag
 have HW:=Q7 (cap:=cap) h hv ((Below.refl w.heap.size w).alloc (Nat.le_refl _) _) (Nat.le_refl _) (Q6 w 154) h8 (Nat.le_refl _) ag
 clear h hv
 go_enter Try.func44,Try.ntmps44
 go_wp2_with (first
  | (go_at_call 70;refine HW.mono ?_;rintro e w1 ⟨rfl,HS⟩)
  | (go_at_call 69;refine HS.mono ?_;rintro e w2 ⟨rfl,hO,hd⟩))
 go_ret
 exact ⟨rfl,hO,hd⟩
end Go.Proofs.Ytanploaffndpjaa.Tu
namespace Go.Proofs.Ytanploaffndpjaa
open Go Go.Blind Go.Conc
abbrev gP (n:Nat)(ao:Option Addr)(cap:Nat)(x:Int):Obj:=.cells #[.slice ao n cap,.int .i64 x] 131 (0,0)
structure mW (ob g:Nat)(ts:List Int)(ao:Option Addr)(cap:Nat)(TB:List (Nat×Obj)):Prop where
 le:ts.length≤cap
 max:cap≤maxLen
 nil:ao=none→cap=0
 blk:∀ ad,ao=some ad→ad.block=g
 tb:(TB=[]∧ts=[]∧g=ob)∨(g≠ob∧∃ cs,TB=[(g,.cells cs 3 (0,0))]∧(∀ v∈cs,∃ i,v=.int .i64 i)∧(ts≠[]→∃ off,ao=some ⟨g,off,none⟩∧∀ (j:Nat) u,(Tu.ints ts)[j]?=some u→cs[off+j]?=some u))
abbrev iL (B:Nat→Bool)(n:Nat):Obj:=.cells (Tu.bools B n).toArray 4 (0,0)
section
variable {M:Nat→Prop}{w:World}{l r TB:List (Nat×Obj)}{ob g cap rb rc n:Nat}{ts:List Int}{ao:Option Addr}{last:Int}{B:Nat→Bool}{main:Bool}
theorem G6 {N:Nat}(h:mW ob g ts ao cap TB)(hg:g < N)(k:Nat)(x:Int):∀ v∈(#[.slice ao k cap,.int .i64 x]:Array Value),Old N GL v:=by
 intro v hv
 simp only [List.mem_toArray,List.mem_cons,List.not_mem_nil,or_false] at hv
 rcases hv with rfl | rfl
 ·cases ao with
  | none=>exact Old.bX _ _
  | some ad=>exact Old.slice (by rw [h.blk ad rfl];exact hg)
 ·exact Old.int _ _
theorem G7 {N:Nat}:∀ v∈(Tu.bools B n).toArray,Old N GL v:=fun v hv=>by
 have:v∈Tu.bools B n:=by simpa using hv
 obtain ⟨i,_,rfl⟩:=List.mem_map.1 this
 exact Old.bool _
theorem Q9 (hO:mW ob g ts ao cap TB)(hn:n≤8)(hm:Mm Try.prog M w ((ob,gP ts.length ao cap (last+1)) :: (TB ++ (rb,iL B n) :: l)) r)(S:ai):bn Try.prog main 44 #[.pointer (some ⟨ob,0,none⟩),.slice (some ⟨rb,0,none⟩) n rc] (fun e S' M' w'=>S'=S∧(e=.returned (.int .i64 (Tu.jh (Tu.bE B n) ts last))∧∃ gZ cap',mW ob g (Tu.jE (Tu.bE B n) ts) gZ cap' TB∧Mm Try.prog M' w' ((ob,gP (Tu.jE (Tu.bE B n) ts).length gZ cap' (Tu.mV (Tu.bE B n) ts last+1)) :: (TB ++ (rb,iL B n) :: l)) r)∧∀ c,M c→M' c) S M w:=by
 have lt:∀ x∈(ob,gP ts.length ao cap (last+1)) :: (TB ++ (rb,iL B n) :: l),x.1 < w.heap.size:=fun x hx=>(Array.getElem?_eq_some_iff.1 (hm.own x hx).2).1
 have bF:=lt _ (List.mem_cons_self ..)
 have hrb:rb < w.heap.size:=lt (rb,iL B n) ah
 have hg:g < w.heap.size:=by
  rcases hO.tb with ⟨_,_,rfl⟩ | ⟨_,cs,rfl,_⟩
  ·exact bF
  ·exact lt (g,.cells cs 3 (0,0)) ah
 have hnd:=hm.nodup
 simp only [List.cons_append,List.map_cons,List.map_append] at hnd
 obtain ⟨n1,n2⟩:=List.nodup_cons.1 hnd
 have Ra:rb≠ob:=fun e=>n1 (by rw [← e];simp)
 have hw1:=(hm.own _ (List.mem_cons_self ..)).2
 have hw2:=(hm.own (rb,iL B n) ah).2
 refine vK (R0:=fun e M' w'=>e=.returned (.int .i64 (Tu.jh (Tu.bE B n) ts last))∧∃ gZ cap',mW ob g (Tu.jE (Tu.bE B n) ts) gZ cap' TB∧Mm Try.prog M' w' ((ob,gP (Tu.jE (Tu.bE B n) ts).length gZ cap' (Tu.mV (Tu.bE B n) ts last+1)) :: (TB ++ (rb,iL B n) :: l)) r) (fun S=>?_) S
 refine bG (sF sJ (f:=44) af ⟨_,Try.func44⟩ (fun y hy=>by
   simp only [List.mem_toArray,List.mem_cons,List.not_mem_nil,or_false] at hy
   rcases hy with rfl | rfl
   ·exact Old.ptr bF
   ·exact Old.slice hrb) hm (ob :: (TB.map Prod.fst ++ [rb])) (fun b hb=>?_) (R:=fun e v=>e=.returned (.int .i64 (Tu.jh (Tu.bE B n) ts last))∧(∃ gZ cap',mW ob g (Tu.jE (Tu.bE B n) ts) gZ cap' TB∧v.heap[ob]?=some (gP (Tu.jE (Tu.bE B n) ts).length gZ cap' (Tu.mV (Tu.bE B n) ts last+1)))∧(∀ x∈TB,v.heap[x.1]?=some x.2)∧v.heap[rb]?=some (iL B n)) (fun v hvs hv=>?_) (fun u h=>by cases h.1)) fun e S' M' w' h=>?_
 ·rcases List.mem_cons.1 hb with rfl | hb
  ·exact ⟨_,_,_,List.mem_cons_self ..,G6 hO hg _ _⟩
  ·rcases List.mem_append.1 hb with hb | hb
   ·rcases hO.tb with ⟨rfl,_⟩ | ⟨_,cs,rfl,hcs,_⟩
    ·cases hb
    ·rw [List.mem_singleton.1 hb]
     exact ⟨cs,3,(0,0),ah,fun v hv=>by obtain ⟨i,rfl⟩:=hcs v hv;exact Old.int _ _⟩
   ·rw [List.mem_singleton.1 hb]
    exact ⟨(Tu.bools B n).toArray,4,(0,0),ah,G7⟩
 ·have v1:v.heap[ob]?=some (gP ts.length ao cap (last+1)):=(hv ob (List.mem_cons_self ..)).trans hw1
  have v2:v.heap[rb]?=some (iL B n):=(hv rb ah).trans hw2
  have v3:∀ x∈TB,v.heap[x.1]?=some x.2:=fun x hx=>(hv x.1 (List.mem_cons_of_mem _ (aO ((List.mem_map_of_mem hx))))).trans (hm.own x (List.mem_cons_of_mem _ (aO (hx)))).2
  have Rb:Tu.Ord 131 v ob g ts (last+1):=by
   refine ⟨fun hne=>?_,ag,ao,cap,v1,hO.le,hO.max,hO.nil,hO.blk,?_⟩
   ·rcases hO.tb with ⟨_,e,_⟩ | ⟨h,_⟩
    ·exact absurd e hne
    ·exact h
   ·rcases hO.tb with ⟨_,e,_⟩ | ⟨_,cs,rfl,_,h⟩
    ·rw [e];exact .inl rfl
    ·by_cases e:ts=[]
     ·rw [e];exact .inl rfl
     ·obtain ⟨off,h1,h2⟩:=h e
      exact .inr ⟨g,off,h1,fun j u hu=>cell_of (v3 _ (List.mem_singleton.2 rfl)) (h2 j u hu)⟩
  refine (Tu.Q8 v ob g ts last Rb (some ⟨rb,0,none⟩) n rc B (.inr ⟨rb,0,rfl,fun j u hu=>by rw [Nat.zero_add];exact cell_of v2 (by simpa using hu)⟩) hn).mono ?_
  rintro e w' ⟨he,hon,hor⟩
  obtain ⟨q1,q2,gZ,cap',q3,q4,q5,q6,q7,q8⟩:=hor
  have G8:∀ x∈TB,w'.heap[x.1]?=some x.2:=fun x hx=>by
   have hx1:x.1 < v.heap.size:=(Array.getElem?_eq_some_iff.1 (v3 x hx)).1
   rw [hon.block x.1 hx1 (fun e=>n1 (by rw [← e];exact aO ((aO ((List.mem_map_of_mem hx))))))]
   exact v3 x hx
  refine ⟨he,⟨gZ,cap',⟨q4,q5,q6,q7,?_⟩,q3⟩,G8,?_⟩
  ·rcases hO.tb with ⟨h1,h2,h3⟩ | ⟨h1,cs,h2,h3,_⟩
   ·refine .inl ⟨h1,?_,h3⟩
    rw [h2];unfold Tu.jE;split <;> rfl
   ·refine .inr ⟨h1,cs,h2,h3,fun hne=>?_⟩
    rcases q8 with q8 | ⟨b,off,e1,q8⟩
    ·exact absurd (by simpa [Tu.ints] using q8) hne
    ·have hb:b=g:=q7 _ e1
     subst hb
     refine ⟨off,e1,fun j u hu=>?_⟩
     have:=q8 j u hu
     have hc:w'.heap[b]?=some (.cells cs 3 (0,0)):=G8 (b,.cells cs 3 (0,0)) (by rw [h2];exact List.mem_singleton.2 rfl)
     simpa [World.cell?,hc] using this
  ·rw [hon.block rb ag Ra];exact v2
 ·obtain ⟨rfl,L,v,ha',h⟩:=h
  have hk:=ha'.kept l (fun p hp=>⟨by simp [hp],fun z=>?_⟩) ?_
  rotate_left
  ·rcases List.mem_cons.1 z with z | z
   ·exact n1 (by rw [← z];simp only [List.mem_append,List.mem_cons];exact .inl (.inr (.inr (List.mem_map_of_mem hp))))
   ·have:=(List.nodup_append.1 n2).1
    obtain ⟨a1,a2,a3⟩:=List.nodup_append.1 this
    rcases List.mem_append.1 z with z | z
    ·exact a3 _ z _ (List.mem_cons_of_mem _ (List.mem_map_of_mem hp)) rfl
    ·exact (List.nodup_cons.1 a2).1 (by rw [← List.mem_singleton.1 z];exact List.mem_map_of_mem hp)
  ·have:=(List.nodup_append.1 n2).1
   exact (List.nodup_cons.1 (List.nodup_append.1 this).2.1).2
  cases e with
  | returned y =>
   obtain ⟨x,⟨hx,⟨gZ,cap',p1,p2⟩,p3,p4⟩,hr⟩:=h
   cases hx
   have hy:=hr.old ha'.old (Old.int (n:=w.heap.size) (G:=GL) .i64 (Tu.jh (Tu.bE B n) ts last))
   subst hy
   refine ⟨rfl,rfl,gZ,cap',p1,?_⟩
   obtain ⟨k1,k2⟩:=ha'.same bF p2 (G6 p1 hg _ _)
   obtain ⟨k3,k4⟩:=ha'.same hrb p4 G7
   have hl1:∀ p∈l ++ r,rb≠p.1:=fun p hp e=>by
    have h5:=(List.nodup_append.1 n2)
    rcases List.mem_append.1 hp with hp | hp
    ·exact (List.nodup_cons.1 (List.nodup_append.1 h5.1).2.1).1 (by rw [e];exact List.mem_map_of_mem hp)
    ·exact h5.2.2 rb ah p.1 (List.mem_map_of_mem hp) e
   have hm2:=hk.add k4 k3 hl1
   have hl2:∀ p∈(l ++ [(rb,iL B n)]) ++ r,ob≠p.1:=fun p hp e=>n1 (by
    rw [e]
    simp only [List.mem_append,List.mem_singleton,List.not_mem_nil,or_false,List.mem_cons,List.map_cons] at hp ⊢
    rcases hp with (hp | rfl) | hp
    ·exact .inl (.inr (.inr (List.mem_map_of_mem hp)))
    ·exact .inl (.inr (.inl rfl))
    ·exact .inr (List.mem_map_of_mem hp))
   have mO:=hm2.add k2 k1 hl2
   rcases hO.tb with ⟨rfl,_,_⟩ | ⟨_,cs,rfl,hcs,_⟩
   ·refine mO.perm ?_
    simp only [List.nil_append,List.append_assoc]
    exact (List.perm_append_comm (l₁:=l)).trans (List.Perm.swap _ _ _)
   ·obtain ⟨k5,k6⟩:=ha'.same hg (p3 _ (List.mem_singleton.2 rfl)) (fun v hv=>by obtain ⟨i,rfl⟩:=hcs v hv;exact Old.int _ _)
    have hl3:∀ p∈((l ++ [(rb,iL B n)]) ++ [(ob,gP (Tu.jE (Tu.bE B n) ts).length gZ cap' (Tu.mV (Tu.bE B n) ts last+1))]) ++ r,g≠p.1:=fun p hp e=>by
     simp only [List.mem_append,List.mem_singleton,List.not_mem_nil,or_false,List.mem_cons] at hp
     simp only [List.map_cons,List.map_nil,List.cons_append,List.nil_append] at n1 n2
     obtain ⟨z1,z2⟩:=List.nodup_cons.1 n2
     rcases hp with ((hp | rfl) | rfl) | hp
     ·exact z1 (by rw [e];simp only [List.mem_cons,List.mem_append];exact .inr (.inl (List.mem_map_of_mem hp)))
     ·exact z1 (by rw [e];simp)
     ·exact n1 (by rw [← (show g=ob from e)];simp)
     ·exact z1 (by rw [e];simp only [List.mem_cons,List.mem_append];exact .inr (.inr (List.mem_map_of_mem hp)))
    refine (mO.add k6 k5 hl3).perm ?_
    simp only [List.append_assoc,List.cons_append,List.nil_append]
    refine (List.perm_append_comm (l₁:=l)).trans ?_
    simp only [List.cons_append,List.nil_append]
    exact (List.Perm.swap _ _ _).trans ((List.Perm.swap _ _ _).cons _)
  | panicked qs =>
   obtain ⟨ps,hx,_⟩:=h
   cases hx.1
  | outgrown=>exact h.elim
end
end Go.Proofs.Ytanploaffndpjaa
namespace Go.Blind
open Go.Conc Go.RowKit
section
variable {P:Program}{main:Bool}{fn:FuncId}{kd:CallKind}{Q:aZ}{S:ai}{M:Nat→Prop}{a:Act}{w:World}{ops:Array Oper}{i:Nat}{d:Option Tmp}{l r:List (Nat×Obj)}{rest:List Nat}
theorem G9 (hkd:kd≠.early){t e:TypeId}{x y:Operand}(hi:aV ops i d (.makeSlice t x y)){z:Value}{bytes n:Nat}(ht:P.underlying t=some (.slice e))(hinfo:(P.info? e).map (fun i=>(i.zero,i.size,i.bytes))=some (some z,1,bytes))(hz1:z.cells=#[z])(hx:a.eval x=.int .i64 (n:Nat))(hy:a.eval y=.int .i64 (n:Nat))(hn:n * bytes≤140737488355328)(h63:n≤4611686018427387904)(hm:Mm P M w l r)
  (h:∀ b w1,Mm P (plus M b) w1 (l ++ [(b,.cells (madeCells #[z] n) e (0,0))]) r→aG P main fn kd ops rest Q S (plus M b) (a.put d (.slice (some ⟨b,0,none⟩) n n)) w1):aG P main fn kd ops (i :: rest) Q S M a w:=by
 obtain ⟨o,ho,rfl,hop,hw⟩:=hi.at a
 obtain ⟨inf,jD,hq⟩:=Option.map_eq_some_iff.1 hinfo
 simp only [Prod.mk.injEq] at hq
 obtain ⟨hz,hsz,hby⟩:=hq
 have e1:execOp a.eval o=(do pure (Next.value (← Instr.makeSlice t (.int .i64 (n:Nat)) (.int .i64 (n:Nat))))):=by
  unfold execOp
  rw [hop,← hx]
  simp only [hx,hy]
 have hb2:inf.bytes * n≤140737488355328:=by rw [hby,Nat.mul_comm];exact hn
 have hr:=run_make_row (P:=P) t e inf z ht jD hz hsz hz1 .i64 .i64 n ag ag
 have hb3:((inf.bytes:Nat):Int) * ((n:Nat):Int)≤281474976710656:=by
  rw [← Int.natCast_mul];omega
 have hev:∀ w1:World,(Instr.makeSlice t (.int .i64 (n:Nat)) (.int .i64 (n:Nat))).events P w1 #[]=#[]:=fun w1=>events_make (P:=P) w1 t e inf z ht jD hz .i64 .i64 n n ag (Int.le_refl _) hb3 ag (by rw [Int.toNat_natCast,Nat.mul_comm];exact hb2) #[]
 refine dx (jr hkd ho hw fun w1 hR K' hK=>?_)
 have hm1:=hm.rely hR
 have hlist:listed P fn a o w1=#[]:=listed_nil (by rw [e1,Sem.events_bind,hr];exact hev w1)
 rw [e1,Sem.run_bind,hr]
 exact hK _ _ _ (by rw [hlist];exact nP _) (h w1.heap.size _ (hm1.new _))
end
end Go.Blind
namespace Go.Proofs.Ytanploaffndpjaa
open Go Go.Blind Go.Conc
theorem Rc:Try.f29.body=some (.seq (.region 0 (opsOf 0 Try.f29.body) false) (.block 0 (.loop (.seq (.seq (.region 1 (opsOf 1 Try.f29.body) false) (.cond (.tmp 21) .skip (.exit 0))) (.block 1 (.seq (.seq (.region 2 (opsOf 2 Try.f29.body) false) (.block 2 (.loop (.seq (.region 3 (opsOf 3 Try.f29.body) false) (.seq (.cond (.tmp 28) .skip (.exit 2)) (.seq (.block 3 (.seq (.region 4 (opsOf 4 Try.f29.body) false) (.region 5 (opsOf 5 Try.f29.body) false))) (.region 6 (opsOf 6 Try.f29.body) false))))))) (.seq (.region 7 (opsOf 7 Try.f29.body) false) (.seq (.seq (.region 8 (opsOf 8 Try.f29.body) false) (.cond (.tmp 42) .ret .skip)) (.region 9 (opsOf 9 Try.f29.body) false))))))))):=by kernel_rfl
def Pb.ready {Y:aN}(x:Pb Y):Bool:=nX x.left x.halt x.steps x.fell
structure Ps (Y:aN) where
 bs:List (Pb Y)
 σ:Y.σ
 k:Nat
 ts:List Int
 last:Int
def oz {Y:aN}(bs:List (Pb Y))(i:Nat):Bool:=(bs[i]?).elim false Pb.ready
def Ps.fF {Y:aN}(a:Ps Y):List Nat:=Tu.bE (oz a.bs) a.bs.length
def tJ {Y:aN}(u:Nat)(a a':Ps Y):Prop :=
 a.k < u∧a.fF≠[]∧∃ x x1 σ',a.bs[Tu.jf a.fF a.ts a.last]?=some x∧GD Y a.k x a.σ x1 σ'∧x.steps < 1000000∧x.own < 1000000∧x.nr < 1000000∧0 < x.left∧x.left < 1000000∧a'=⟨a.bs.set (Tu.jf a.fF a.ts a.last) x1,σ',a.k+1,a.ts.tail,Tu.jf a.fF a.ts a.last⟩
def Way {Y:aN}(u:Nat):Nat→Ps Y→Ps Y→Prop
 | 0,a,e=>a=e∧(u≤a.k∨a.fF=[])
 | m+1,a,e=>∃ a',tJ u a a'∧Way u m a' e
theorem Re {B:Nat→Bool}{n i:Nat}{v:Bool}:(Tu.bools B n).toArray.setIfInBounds i (.bool v)=(Tu.bools (fun j=>if j=i then v else B j) n).toArray:=by
 apply Array.ext
 ·simp [Tu.bools]
 ·intro j h1 h2
  by_cases e:j=i
  ·subst e;simp [Tu.bools]
  ·simp [Tu.bools,Array.getElem_setIfInBounds,e,Ne.symm e]
theorem iM {x u:Value}(h:x=u):(#[x]:Array Value)=#[u]:=by rw [h]
theorem tK {x y u v:Value}(h:x=u)(k:y=v):(#[x,y]:Array Value)=#[u,v]:=by rw [h,k]
theorem yB {x y z u v s:Value}(h:x=u)(k:y=v)(l:z=s):(#[x,y,z]:Array Value)=#[u,v,s]:=by rw [h,k,l]
theorem Rf {x y z p q u v s t r:Value}(h:x=u)(k:y=v)(l:z=s)(m:p=t)(n:q=r):(#[x,y,z,p,q]:Array Value)=#[u,v,s,t,r]:=by rw [h,k,l,m,n]
theorem Rh {n:Nat}:madeCells #[.bool false] n=(Tu.bools (fun _=>false) n).toArray:=by
 apply Array.ext
 ·simp [madeCells,Tu.bools]
 ·intro j h1 h2
  simp [madeCells,Tu.bools,Nat.mod_one]
section
variable {Y:aN}{Fin:bH}{arr ab cap:Nat}{cur:Array Value}{E:List (Nat×Obj)}{S:ai}{M:Nat→Prop}{w:World}
structure RI (Y:aN)(Fin:bH)(s:Ring)(b:aJ)(arr ab cap:Nat)(cur:Array Value)(bs:List (Bq Y))(σ:Y.σ)(k:Nat)(rb ob u:Nat)(B:Nat→Bool)(E:List (Nat×Obj))(i:Nat)(S:ai)(M:Nat→Prop)(a:Act)(w:World):Prop where
 size:a.tmps.size=52
 defers:a.defers=[]
 s0:a.eval (.tmp 0)=.pointer (some ⟨b.R,0,none⟩)
 s1:a.eval (.tmp 1)=.pointer (some ⟨ob,0,none⟩)
 s2:a.eval (.tmp 2)=.int .i64 (u:Nat)
 s6:a.eval (.tmp 6)=.slice (some ⟨rb,0,none⟩) bs.length bs.length
 YX:a.eval (.tmp 25)=.slice (some ⟨ab,0,none⟩) bs.length cap
 YY:a.eval (.tmp 26)=.int .i64 (bs.length:Nat)
 YZ:a.eval (.tmp 27)=.int .i64 (i:Nat)
 le:i≤bs.length
 ga:GA Y Fin s b arr ab cap cur bs σ k ((rb,iL (fun j=>if j < i then oz (bs.map Bq.pure) j else B j) bs.length) :: E) S M w
structure GI (Y:aN)(Fin:bH)(R N arr ab cap:Nat)(cur:Array Value)(rb ob g u:Nat)(TB mX:List (Nat×Obj))(pe:Ps Y)(m:Nat)(S:ai)(M:Nat→Prop)(a:Act)(w:World):Prop where
 size:a.tmps.size=52
 defers:a.defers=[]
 s0:a.eval (.tmp 0)=.pointer (some ⟨R,0,none⟩)
 s1:a.eval (.tmp 1)=.pointer (some ⟨ob,0,none⟩)
 s2:a.eval (.tmp 2)=.int .i64 (u:Nat)
 ga:∃ (s:Ring) (b:aJ) (bs:List (Bq Y)) (σ:Y.σ) (k:Nat) (ts:List Int) (last:Int) (ao:Option Addr) (c:Nat) (B:Nat→Bool) (more:List (Nat×Obj)),(∀ p∈mX,p∈more)∧b.R=R∧b.n=N∧bs.length≤8∧mW ob g ts ao c TB∧a.eval (.tmp 6)=.slice (some ⟨rb,0,none⟩) bs.length bs.length∧Way u m ⟨bs.map Bq.pure,σ,k,ts,last⟩ pe∧GA Y Fin s b arr ab cap cur bs σ k ((rb,iL B bs.length) :: (ob,gP ts.length ao c (last+1)) :: (TB ++ more)) S M w
theorem Ri {s:Ring}{b:aJ}{bs:List (Bq Y)}{σ:Y.σ}{k rb ob u:Nat}{B:Nat→Bool}{i:Nat}{a:Act}{Q:aZ}(h8:bs.length≤8)(hI:RI Y Fin s b arr ab cap cur bs σ k rb ob u B E i S M a w)
  (hgo:∀ S M a w,i < bs.length→RI Y Fin s b arr ab cap cur bs σ k rb ob u B E (i+1) S M a w→Q .normal S M a w)(hend:∀ S M a w,RI Y Fin s b arr ab cap cur bs σ k rb ob u B E bs.length S M a w→Q (.exit 2) S M a w) :
  aM Try.prog true 29 .normal (.seq (.region 3 (opsOf 3 Try.f29.body) false) (.seq (.cond (.tmp 28) .skip (.exit 2)) (.seq (.block 3 (.seq (.region 4 (opsOf 4 Try.f29.body) false) (.region 5 (opsOf 5 Try.f29.body) false))) (.region 6 (opsOf 6 Try.f29.body) false)))) Q S M a w:=by
 obtain ⟨hs,hd,h0,h1,h2,h6,Rj,He,h27,hle,hG⟩:=hI
 obtain ⟨hS,hE,hf,hq,hz,hv0,hv1,hv4,hbn,hcr,hok,hm,jW,ji⟩:=id hG
 subst hS
 refine ak (kG [0] (kR (d:=some 28) (jC (t:=3) (t':=3) (x:=.tmp 27) (y:=(.tmp 26)) (k:=((i:Nat):Int)) (m:=((bs.length:Nat):Int)) h27 He) hm fun w hm=>?_))
 refine aA ?_
 by_cases hi:i < bs.length
 ·have hdec:decide (((i:Nat):Int) < ((bs.length:Nat):Int))=true:=by simp [hi]
  refine ak (kY (by rw [eP];exact congrArg Value.bool hdec) ?_)
  refine bS ?_
  obtain ⟨x,hx⟩:∃ x,bs[i]?=some x:=⟨_,List.getElem?_eq_getElem hi⟩
  have hB:=hG.yn
  obtain ⟨ja,hja⟩:=List.mem_iff_getElem?.1 hB.arr
  have hp:=ji i x hx
  refine ak (eH (ak (kG [0,1,2,3,4] (kM (v:=.int .i64 (i:Nat)) 29 27 hm fun w hm=>?_))))
  refine kR (d:=some 30) (p:=.indexAddr 90 (.tmp 25) (.tmp 27)) (fun o ho=>iI (ad:=⟨ab,0,none⟩) (len:=bs.length) (cap:=cap) (k:=.i64) (i:=(i:Nat)) (sz:=1) ho eV eV ⟨ag,ag⟩ af af) hm fun w hm=>?_
  refine kL (d:=some 31) (t:=116) (x:=.tmp 30) (n:=ja) (b:=ab) (k:=i) (by rw [eP,if_pos rfl,Int.toNat_natCast,Nat.mul_one,Addr.add_mid,Nat.zero_add]) hm (by rw [List.getElem?_append_left (List.getElem?_eq_some_iff.1 hja).1];exact hja) (v:=.pointer (some ⟨x.k.bb,0,none⟩)) hp fun w hm=>?_
  refine kS (v:=.int .i64 (i:Nat)) 7 29 hm fun w hm=>kS (v:=.pointer (some ⟨x.k.bb,0,none⟩)) 8 31 hm fun w hm=>aA (kG [0,1,2,3,4,5] (kM (v:=.slice (some ⟨rb,0,none⟩) bs.length bs.length) 32 6 hm fun w hm=>?_))
  refine kM (v:=.int .i64 (i:Nat)) 33 7 hm fun w hm=>kM (v:=.pointer (some ⟨x.k.bb,0,none⟩)) 34 8 hm fun w hm=>kC (d:=some 35) (args:=#[.tmp 34]) (ats:=#[116]) Try.func43 (ys:=#[.pointer (some ⟨x.k.bb,0,none⟩)]) (by rw [Array.map_singleton,eP];rfl) (bG (isReady hB (k:=x.k) (List.mem_map_of_mem (List.mem_of_getElem? hx)) hm _) fun e S' M2 w hq2=>?_)
  obtain ⟨rfl,rfl,dF,hm⟩:=hq2
  refine kR (d:=some 36) (p:=.indexAddr 126 (.tmp 32) (.tmp 33)) (fun o ho=>iI (ad:=⟨rb,0,none⟩) (len:=bs.length) (cap:=bs.length) (k:=.i64) (i:=(i:Nat)) (sz:=1) ho eV eV ⟨ag,ag⟩ af af) hm fun w hm=>?_
  refine lU ae Try.func29 rfl (d:=none) (t:=4) (x:=.tmp 36) (y:=.tmp 35) eI (n:=0) (b:=rb) (k:=i) (v:=.bool x.k.ready) (by rw [eP,if_pos rfl,Int.toNat_natCast,Nat.mul_one,Addr.add_mid,Nat.zero_add]) eV hm rfl (by simp only [List.size_toArray,Tu.GZ];exact hi) af rfl fun w hm=>?_
  rw [bV]
  refine aA (kG [0,1] (kR (d:=some 37) (mM (t:=3) (t':=3) (x:=.tmp 27) (k:=i) ag eV) hm fun w hm=>?_))
  refine kM (v:=.int .i64 ((i+1:Nat):Int)) 27 37 hm fun w hm=>aA ?_
  have hrow:(Tu.bools (fun j=>if j < i then oz (bs.map Bq.pure) j else B j) bs.length).toArray.setIfInBounds i (.bool x.k.ready)=(Tu.bools (fun j=>if j < i+1 then oz (bs.map Bq.pure) j else B j) bs.length).toArray:=by
   rw [Re]
   congr 2
   funext j
   by_cases e:j=i
   ·subst e
    rw [if_pos rfl,if_pos (Nat.lt_succ_self _)]
    unfold oz
    rw [List.getElem?_map,hx]
    rfl
   ·rw [if_neg e]
    by_cases e2:j < i
    ·rw [if_pos e2,if_pos ag]
    ·rw [if_neg e2,if_neg ag]
  refine hgo _ _ _ _ hi ⟨by simp only [size_put];exact hs,by simp only [bO];exact hd,eV,eV,eV,eV,eV,eV,eV,hi,?_⟩
  refine (hG.with (E':=(rb,iL (fun j=>if j < i+1 then oz (bs.map Bq.pure) j else B j) bs.length) :: E) dF ?_)
  rw [iL,← hrow]
  exact hm
 ·have hdec:decide (((i:Nat):Int) < ((bs.length:Nat):Int))=false:=by simp [hi]
  refine ak (kF (by rw [eP];exact congrArg Value.bool hdec) ?_)
  refine lG ?_
  simp only [Bool.false_eq_true,↓reduceIte]
  have hin:i=bs.length:=by omega
  subst hin
  exact hend _ _ _ _ ⟨by simp only [size_put];exact hs,by simp only [bO];exact hd,eV,eV,eV,eV,eV,eV,eV,Nat.le_refl _,hG.rely hm⟩
end
end Go.Proofs.Ytanploaffndpjaa

/- Of the proof. -/
import Derived.Test.YtanploaffndpjaaJ04
namespace Go.Blind
def wall:List Item:=[.code (.refuse "")]
def Form (b:Frame)(a:Act):Exit→Frame→Prop
 | .normal,fr=>fr=b.at a wall
 | .ret,fr=>∃ todo,fr={ b.at a todo with mode:=.returning }
 | .panic ch,fr=>∃ todo,fr={ b.at a todo with mode:=.panicking ch }
 | _,_=>False
def zo (b:Frame)(Q:Exit→Act→World→Prop)(s:LS):Prop:=s.cs=[cB]∧∃ e a τ,(∀ i,i < s.v.drawn→τ i=s.v.tape i)∧Form b a e s.fr∧Q e a (tp τ s.v)
structure lF (P:Program)(b:Frame)(Q:Exit→Act→World→Prop)(s t:LS):Prop where
 tape:∀ i,i < s.v.drawn→t.v.tape i=s.v.tape i
 drawn:s.v.drawn≤t.v.drawn
 stays:¬ zo b Q s
 goes:∀ τ,(∀ i,i < t.v.drawn→τ i=t.v.tape i)→∃ es,stepG P true (ax s.fr s.cs) (tp τ s.v)=.go (ax t.fr t.cs) (tp τ t.v) es
def wZ (P:Program)(b:Frame)(Q:Exit→Act→World→Prop)(s:LS):Prop :=
 ∀ τ,(∀ i,i < s.v.drawn→τ i=s.v.tape i)→∃ n e a v' fr',runN P n (lone s.fr s.cs (tp τ s.v))=.next (lone fr' [cB] v')∧Form b a e fr'∧Q e a v'
theorem Kh {P:Program}{b:Frame}{Q:Exit→Act→World→Prop}{s:LS}(h:wZ P b Q s):Acc (fun t s=>lF P b Q s t) s:=by
 refine Classical.byContradiction fun hn=>?_
 have next:∀ s:{ s:LS // ¬ Acc (fun t s=>lF P b Q s t) s },∃ t:{ s:LS // ¬ Acc (fun t s=>lF P b Q s t) s },lF P b Q s.1 t.1:=by
  intro s
  refine Classical.byContradiction fun hno=>s.2 (Acc.intro _ fun t ht=>?_)
  exact Classical.byContradiction fun hb=>hno ⟨⟨t,hb⟩,ht⟩
 let g:{ s:LS // ¬ Acc (fun t s=>lF P b Q s t) s }→{ s:LS // ¬ Acc (fun t s=>lF P b Q s t) s }:=fun s=>Classical.choose (next s)
 have hg:∀ s,lF P b Q s.1 (g s).1:=fun s=>Classical.choose_spec (next s)
 let q:Nat→{ s:LS // ¬ Acc (fun t s=>lF P b Q s t) s }:=fun n=>Nat.rec ⟨s,hn⟩ (fun _ x=>g x) n
 have hq:∀ n,lF P b Q (q n).1 (q (n+1)).1:=fun n=>hg (q n)
 have mono:∀ n m,n≤m→(q n).1.v.drawn≤(q m).1.v.drawn:=by
  intro n m hnm
  induction hnm with
  | refl=>exact Nat.le_refl _
  | step _ ih=>exact Nat.le_trans ih (hq _).drawn
 have agree:∀ n m,n≤m→∀ i,i < (q n).1.v.drawn→(q m).1.v.tape i=(q n).1.v.tape i:=by
  intro n m hnm
  induction hnm with
  | refl=>intro i _;rfl
  | step hk ih=>intro i hi;rw [(hq _).tape i (Nat.lt_of_lt_of_le hi (mono _ _ hk)),ih i hi]
 have hex:∀ i,∃ t:Question→Nat,∀ k,i < (q k).1.v.drawn→t=(q k).1.v.tape i:=by
  intro i
  by_cases hz:∃ k,i < (q k).1.v.drawn
  ·obtain ⟨k,hk⟩:=hz
   refine ⟨(q k).1.v.tape i,fun m hm=>?_⟩
   rcases Nat.le_total k m with z | z
   ·exact (agree _ _ z i hk).symm
   ·exact agree _ _ z i hm
  ·exact ⟨s.v.tape i,fun k hk=>absurd ⟨k,hk⟩ hz⟩
 let τ:Nat→Question→Nat:=fun i=>Classical.choose (hex i)
 have hτ:∀ k i,i < (q k).1.v.drawn→τ i=(q k).1.v.tape i:=fun k i hi=>Classical.choose_spec (hex i) k hi
 have run:∀ k,runN P k (lone s.fr s.cs (tp τ s.v))=.next (lone (q k).1.fr (q k).1.cs (tp τ (q k).1.v)):=by
  intro k
  induction k with
  | zero=>rfl
  | succ k ih =>
   rw [runN_add P k 1,ih]
   obtain ⟨es,he⟩:=(hq k).goes τ (hτ (k+1))
   have h1:=qX he
   simp only [runN,h1]
   rfl
 obtain ⟨n,e,a,v',fr',hr,hf,hQ⟩:=h τ (hτ 0)
 rw [run n] at hr
 simp only [Stepped.next.injEq] at hr
 obtain ⟨h1,h2,h3⟩:=qa hr
 refine (hq n).stays ⟨h2,e,a,τ,hτ n,?_,?_⟩
 ·rw [h1];exact hf
 ·rw [h3];exact hQ
inductive rC (K:av):Exit→Exit→Prop
 | normal:rC K .normal .normal
 | ret:rC K .ret .ret
 | panic (ps qs:List PanicEntry):fJ K ps qs→rC K (.panic ps) (.panic qs)
def Told (P:Program)(K:av)(Q:Exit→Act→World→Prop)(e':Exit)(M:Nat→Prop)(a':Act)(w:World):Prop :=
 ∃ L e a v,K.le L∧M=L.mine∧aY P L v w∧AR L a.tmps a'.tmps∧jH L a.defers a'.defers∧Q e a v∧rC L e e'
section
variable {P:Program}{G:FuncId→Bool}
theorem Ki:∀ id,exitTo id wall=none:=fun _=>rfl
theorem Kj {main:Bool}{Stop:(Nat→Prop)→Goroutine→World→Prop}{K L:av}{b:Frame}{k:List Item}{below:List Frame}{Q:Exit→Act→World→Prop}
  (hc:∀ e M' a' w',Told P K Q e M' a' w'→iH P main Stop b k below e M' a' w'){s:LS}{fr' aT:Frame}{cs' cs2:List Frame}{w:World}(hle:K.le L)(hsk:SK P G L [cB] below s.fr s.cs fr' cs')(ku:aY P L s.v w)(ql:Ext wall k below fr' cs' aT cs2∨Past wall k below fr' cs' aT cs2)(ha:zo b Q s) :
  aj P main Stop L.mine (ax aT cs2) w:=by
 obtain ⟨hcs,e,a,τ,_,hf,hQ⟩:=ha
 have Kk:cs'=below:=by
  have h0:=hcs
  generalize s.cs=cs at hsk h0
  subst h0
  cases hsk with
  | bottom _ _ _ k=>rfl
  | push _ _ c c' cs cs2 _ rest=>cases rest
 have r:=hsk.top
 obtain ⟨fr,cs,v⟩:=s
 simp only at ku hf hQ r hcs
 subst Kk
 obtain ⟨kz,h2,hcs2,hm⟩:∃ kz,aT={ fr' with todo:=kz }∧cs2=cs'∧(fr'.todo=wall→fr'.mode=.run→kz=k)∧(fr'.todo≠wall∨fr'.mode=.run):=by
  rcases ql with he | ⟨_,h2,h3,h4,h5,h6⟩
  ·cases he with
   | bottom _ x xs hn ex=>exact ⟨_,rfl,rfl,fun z=>by rw [ex] at z;have:=congrArg List.length z;simp [wall] at this,.inl fun z=>by rw [ex] at z;have:=congrArg List.length z;simp [wall] at this⟩
   | push _ c c2 cs' cs2 he =>
    obtain ⟨n,hn⟩:=he.depth
    simp only [List.length_cons] at hn
    omega
  ·exact ⟨k,h5,h2,fun _ _=>rfl,.inr h6⟩
 subst hcs2
 have told:∀ e',rC L e e'→Told P K Q e' L.mine ⟨fr'.tmps,fr'.defers⟩ w→iH P main Stop b k cs2 e' L.mine ⟨fr'.tmps,fr'.defers⟩ w:=fun e' _ z=>hc _ _ _ _ z
 have kd:=r.kind
 have fe:=r.fn
 have mr:=r.mode
 have td:=r.todo
 have ro:=r.round'
 have tm:=r.tmps
 have df:=r.defers
 clear r hsk ql
 obtain ⟨fn',tmps',todo',defers',mode',kind',ro'⟩:=fr'
 simp only at kd fe mr td ro tm df h2 hm told
 subst h2 ro
 cases e with
 | normal =>
  have hf:fr=b.at a wall:=hf
  subst hf
  cases mr
  have e1:todo'=wall:=td.symm
  have e2:=hm.1 e1 rfl
  subst e2
  have hx:=told .normal .normal ⟨L,.normal,a,_,hle,rfl,ku.tp,tm,df,hQ,.normal⟩
  have e3:b.at ⟨tmps',defers'⟩ kz=⟨fn',tmps',kz,defers',.run,kind',none⟩:=by unfold Frame.at;rw [← kd,← fe];rfl
  have hx:aj P main Stop L.mine (ax (b.at ⟨tmps',defers'⟩ kz) cs2) w:=hx
  rw [e3] at hx
  exact hx
 | ret =>
  obtain ⟨todo,rfl⟩:=hf
  cases mr
  have hx:=told .ret .ret ⟨L,.ret,a,_,hle,rfl,ku.tp,tm,df,hQ,.ret⟩
  have hx:∀ todo,aj P main Stop L.mine (ax { b.at ⟨tmps',defers'⟩ todo with mode:=.returning } cs2) w:=hx
  have e3:{ b.at ⟨tmps',defers'⟩ kz with mode:=.returning }=(⟨fn',tmps',kz,defers',.returning,kind',none⟩:Frame):=by unfold Frame.at;rw [← kd,← fe];rfl
  have hx:=hx kz
  rw [e3] at hx
  exact hx
 | panic ch =>
  obtain ⟨todo,rfl⟩:=hf
  cases mr with
  | panicking ps qs hp =>
   have hx:=told (.panic qs) (.panic _ _ hp) ⟨L,.panic ch,a,_,hle,rfl,ku.tp,tm,df,hQ,.panic _ _ hp⟩
   have hx:∀ todo,aj P main Stop L.mine (ax { b.at ⟨tmps',defers'⟩ todo with mode:=.panicking qs } cs2) w:=hx
   have e3:{ b.at ⟨tmps',defers'⟩ kz with mode:=.panicking qs }=(⟨fn',tmps',kz,defers',.panicking qs,kind',none⟩:Frame):=by unfold Frame.at;rw [← kd,← fe];rfl
   have hx:=hx kz
   rw [e3] at hx
   exact hx
 | exit id=>exact hf.elim
 | goto l=>exact hf.elim
 | outgrown=>exact hf.elim
theorem Kl (H:Good P G){main:Bool}{Stop:(Nat→Prop)→Goroutine→World→Prop}{K:av}{b:Frame}{k:List Item}{below:List Frame}{Q:Exit→Act→World→Prop}
  (hc:∀ e M' a' w',Told P K Q e M' a' w'→iH P main Stop b k below e M' a' w'){s:LS}(hacc:Acc (fun t s=>lF P b Q s t) s) :
  ∀ (L:av) (fr' aT:Frame) (cs' cs2:List Frame) (w:World),K.le L→(∀ f,L.good f↔G f=true)→SK P G L [cB] below s.fr s.cs fr' cs'→aY P L s.v w→(Ext wall k below fr' cs' aT cs2∨Past wall k below fr' cs' aT cs2)→wZ P b Q s→aj P main Stop L.mine (ax aT cs2) w:=by
 induction hacc with
 | intro s _ ih =>
  intro L fr' aT cs' cs2 w hle hgood hsk ku ql ky
  by_cases har:zo b Q s
  ·exact Kj hc hle hsk ku ql har
  ·
   have zero:∀ τ,(∀ i,i < s.v.drawn→τ i=s.v.tape i)→∀ e a v' bI,s.fr=bI→s.cs=[cB]→tp τ s.v=v'→Form b a e bI→Q e a v'→False:=by
    intro τ hτ e a v' bI h1 h2 h3 hf hQ
    refine har ⟨h2,e,a,τ,hτ,?_,?_⟩
    ·rw [h1];exact hf
    ·rw [h3];exact hQ
   rcases ql with ql | hpast
   ·refine aj.next rfl fun w1 hrel=>?_
    have hs1:aY P L (tp (iR s.v w1) s.v) w1:=(ku.rely hrel).tp
    have hag:=wQ s.v w1
    have hl:¬ Leaves [cB] s.fr s.cs:=by
     intro hl
     obtain ⟨n,e,a,v',bI,hr,hf,hQ⟩:=ky _ (mh s.v w1)
     obtain ⟨_,h1,h2⟩:=Cy hs1 hag hsk hl hr
     exact zero _ (mh s.v w1) e a v' bI h1 hl.1 h2 hf hQ
    have uw:=Cq (main:=main) H hgood hs1 hag hsk hl
    have hloc:=Cu H hgood hs1 hag hsk hl
    have first:∀ τ,(∀ i,i < s.v.drawn→τ i=s.v.tape i)→uu (stepG P true (ax s.fr s.cs) (tp τ s.v))→∃ bI cs1 v1 es n e a v' aT,stepG P true (ax s.fr s.cs) (tp τ s.v)=.go (ax bI cs1) v1 es∧runN P n (lone bI cs1 v1)=.next (lone aT [cB] v')∧Form b a e aT∧Q e a v':=by
     intro τ hτ hk
     obtain ⟨n,e,a,v',aT,hr,hf,hQ⟩:=ky τ hτ
     rcases Cw hk hr with ⟨_,h1,h2,h3⟩ | ⟨bI,cs1,v1,es,m,h1,_,h3⟩
     ·exact (zero τ hτ e a v' aT h1 h2 h3 hf hQ).elim
     ·exact ⟨bI,cs1,v1,es,m,e,a,v',aT,h1,h3,hf,hQ⟩
    obtain ⟨bI,cs1,v1,es,_,_,_,_,_,hst,_⟩:=first _ (mh s.v w1) uw.kinds
    have hx:=Kg (main:=main) H hgood hs1 hag hsk hl Ki ql hst
    obtain ⟨L2,oJ,oK,wR,wS,w',es',e1,e2,za,ht⟩:=uw.goes _ _ _ hst rfl
    obtain ⟨rfl,rfl⟩:=wW e1
    obtain ⟨ze,zf,e4,Km⟩:=hx _ _ _ _ e2
    have hd:s.v.drawn≤v1.drawn:=by
     have h1:=ht.eX.qU
     have h2:=ht.eX.drawn
     have h3:(tp (iR s.v w1) s.v).drawn=s.v.drawn:=rfl
     omega
    have qc:v1.tape=iR s.v w1:=ht.eX.qT
    have hgoes:∀ τ,(∀ i,i < v1.drawn→τ i=v1.tape i)→∃ es,stepG P true (ax s.fr s.cs) (tp τ s.v)=.go (ax bI cs1) (tp τ v1) es:=by
     intro τ hτ
     exact hloc _ _ _ hst rfl τ fun i hi=>by rw [hτ i hi,qc];rfl
    have hnx:lF P b Q s ⟨bI,cs1,v1⟩:=⟨fun i hi=>by rw [qc];exact mh s.v w1 i hi,hd,har,hgoes⟩
    have zb:wZ P b Q ⟨bI,cs1,v1⟩:=by
     intro τ hτ
     have jK:∀ i,i < s.v.drawn→τ i=s.v.tape i:=fun i hi=>by rw [hτ i (Nat.lt_of_lt_of_le hi hd),qc];exact mh s.v w1 i hi
     obtain ⟨es2,h1⟩:=hgoes τ hτ
     obtain ⟨Xz,XA,v5,XB,n,e,a,v',Kn,h2,h3,hf,hQ⟩:=first τ jK (by rw [h1];exact .inl ⟨_,_,rfl⟩)
     rw [h1] at h2
     simp only [GStep.go.injEq] at h2
     obtain ⟨h4,h5,_⟩:=h2
     obtain ⟨rfl,rfl⟩:=wW h4
     subst h5
     exact ⟨n,e,a,v',Kn,h3,hf,hQ⟩
    exact ⟨L2.mine,ax ze zf,w',es',e4,ht.guar,ih ⟨bI,cs1,v1⟩ hnx L2 wR ze wS zf w' (hle.trans ht.le) (fun f=>(ht.le.good f).symm.trans (hgood f)) za ht.fH Km zb⟩
   ·
    exfalso
    obtain ⟨rfl,_,h3,_,_,h6⟩:=hpast
    have r:=hsk.top
    have hcs:=hsk.ground
    obtain ⟨n,e,a,v',bI,hr,hf,hQ⟩:=ky s.v.tape fun _ _=>rfl
    cases n with
    | zero =>
     simp only [runN,Stepped.next.injEq] at hr
     obtain ⟨h1,h2,h4⟩:=qa hr
     exact zero _ (fun _ _=>rfl) e a v' bI h1 h2 h4 hf hQ
    | succ n =>
     have hm:s.fr.mode=.run:=by
      have:=r.mode
      rw [h6] at this
      generalize s.fr.mode=m at this
      cases this
      rfl
     have ht:s.fr.todo=wall:=r.todo.trans h3
     have h1:∃ o u es,stepG P true (ax s.fr s.cs) (tp s.v.tape s.v)=.ended o u es:=by
      unfold stepG ax
      simp only [hm]
      unfold stepG.exec
      simp only [ht,wall]
      exact ⟨_,_,_,rfl⟩
     obtain ⟨o,u,es,h1⟩:=h1
     have h2:step P (lone s.fr s.cs (tp s.v.tape s.v))=.ended o u:=step_lone_ended (by unfold ax at h1;rw [h1];rfl)
     simp only [runN,h2] at hr
     cases hr
theorem Ko (H:Good P G){main:Bool}{K:av}(hgood:∀ f,K.good f↔G f=true){fn:FuncId}(gI:∃ f,P.funcs[fn]?=some f){c:Code}(hcode:fI P G c=true){a a':Act}(ht:AR K a.tmps a'.tmps)(hd:jH K a.defers a'.defers){v w:World}(hs:aY P K v w)
  {Q:Exit→Act→World→Prop}(hw:∀ τ,c.wp P Q a (tp τ v))(hq:∀ e a u,Q e a u→match e with | .normal | .ret | .panic _=>True | _=>False):cw P main fn c (Told P K Q) K.mine a' w:=by
 intro b k cs Stop hb hk hc
 have ky:wZ P b Q ⟨b.at a (.code c :: wall),[cB],v⟩:=by
  intro τ _
  obtain ⟨e,a1,u,hQ,har⟩:=hw τ b wall [cB]
  have hqe:=hq e a1 u hQ
  cases e with
  | normal=>obtain ⟨n,hn⟩:=har;exact ⟨n,.normal,a1,u,_,hn,rfl,hQ⟩
  | ret=>obtain ⟨todo,n,hn⟩:=har;exact ⟨n,.ret,a1,u,_,hn,⟨todo,rfl⟩,hQ⟩
  | panic ch=>obtain ⟨todo,n,hn⟩:=har;exact ⟨n,.panic ch,a1,u,_,hn,⟨todo,rfl⟩,hQ⟩
  | exit id=>exact hqe.elim
  | goto l=>exact hqe.elim
  | outgrown=>exact hqe.elim
 have hfr:FR P G K (b.at a (.code c :: wall)) (b.at a' (.code c :: wall)):=by
  refine ⟨rfl,?_,ht,rfl,?_,hd,.run,rfl,.inl hk,rfl,rfl⟩
  ·show ∃ f,P.funcs[b.fn]?=some f
   rw [hb];exact gI
  ·show (Item.code c :: wall).all (gT P G)=true
   simp only [wall,List.all_cons,List.all_nil,gT,fI,hcode,Bool.and_true]
 exact Kl H hc (Kh ky) K _ _ _ _ w (.refl K) hgood (.bottom _ _ hfr hk) hs (.inl (Ext.bottom (b.at a' (.code c :: wall)) (.code c) [] hk rfl)) ky
end
end Go.Blind
namespace Go.Blind
open Go.Conc
theorem C4 {own own':Nat→Nat→Prop}(h:∀ i c,own' i c→∃ l,own l c){b:Nat}(q:∀ i,¬ has (own i) b):∀ i,¬ has (own' i) b:=fun i hi=>by
 obtain ⟨c,e,hc⟩:=iQ hi
 obtain ⟨l,hl⟩:=h i c hc
 exact q l (e ▸ qY hl)
section
variable {P:Program}{C:Nat→Prop}{E:Env}{τ:Nat→Nat}{T:Trace}{w:World}{own own':Nat→Nat→Prop}
theorem rD {c k0:Nat}{cl:Bool}(hq:w.heap[c]?=some (.chan 0 #[] cl k0 k0 false)){M:Nat→Prop}(hM:¬ has M c)(o:Obj):ay P M w { w with heap:=w.heap.setIfInBounds c o }:=by
 refine ⟨ah,fun b hb=>?_,fun hg g hgl=>?_,rfl⟩
 ·have:c≠b:=fun e=>hM (e ▸ hb)
  simp only [Array.getElem?_setIfInBounds_ne this]
 ·obtain ⟨cc,e,fz,h1⟩:=hg g hgl
  have:c≠g:=fun z=>by rw [z,h1] at hq;cases hq
  exact ⟨cc,e,fz,by simp only [Array.getElem?_setIfInBounds_ne this];exact h1⟩
theorem bu.met (H:bu P C E τ T w own){h j c k0:Nat}(hC:C c)(hx:∀ o,¬ E.at_ τ c o)(hh:E.hr h (τ h))(hj:E.hr j (τ j))(lh:E.lv h (τ h))(lj:E.lv j (τ j))(hq:w.heap[c]?=some (.chan 0 #[] false k0 k0 false))(fh:FuncId)(ps:String)(fj:FuncId)(pj:String)
  (hap:∀ i l b,own' i b→own' l b→i=l)(h1:∀ i b,i≠h→i≠j→own' i b→own i b)(h2:∀ b,own' h b→own h b∨own j b)(h3:∀ b,own' j b→own h b∨own j b) :
  bu P C E τ (T ++ met h j fh ps fj pj c k0 0) (w.setChan c 0 #[] false (k0+1) (k0+1) false) own':=by
 have hlt:c < w.heap.size:=(Array.getElem?_eq_some_iff.1 hq).1
 have hold:∀ i b,own' i b→∃ l,own l b:=by
  intro i b hb
  by_cases e1:i=h
  ·subst e1;exact (h2 b hb).elim (fun z=>⟨_,z⟩) fun z=>⟨_,z⟩
  ·by_cases e2:i=j
   ·subst e2;exact (h3 b hb).elim (fun z=>⟨_,z⟩) fun z=>⟨_,z⟩
   ·exact ⟨i,h1 i b e1 e2 hb⟩
 have hno:∀ b,(∀ i,¬ has (own i) b)→∀ i,¬ has (own' i) b:=fun b q=>C4 hold q
 have other:∀ b o,b≠c→w.heap[b]?=some o→(w.setChan c 0 #[] false (k0+1) (k0+1) false).heap[b]?=some o:=fun b o e hb=>by simp only [World.setChan,Array.getElem?_setIfInBounds_ne (fun z=>e z.symm)];exact hb
 have mute:∀ op∈Go.Conc.met h j fh ps fj pj c k0 0,∀ a,op.act.touch?=some a→False:=fun op hop a ha=>by rw [met_mute h j fh ps fj pj c k0 0 op hop] at ha;cases ha
 refine ⟨?_,fun c' hc'=>⟨?_,hno c' (H.chans c' hc').2⟩,fun c' hc'=>⟨?_,hno c' (H.closed c' hc').2⟩,(rD hq (M:=fun _=>False) (fun h=>h.elim id id) _).aX H.aX,fun i hi=>?_,fun c' hc'=>wT (H.hush c' hc') fun op hop a ha=>(mute op hop a ha).elim,fun b o hb=>?_,E.lasts τ _ _ H.told (fun op hop=>?_) (fun l=>?_) (fun op hop a=>?_),H.out⟩
 ·have hs:(w.setChan c 0 #[] false (k0+1) (k0+1) false).heap.size=w.heap.size:=by simp [World.setChan]
  rw [hs]
  exact H.ledger.meet (H.deaf h hh) (H.deaf j hj) fh ps fj pj k0 hlt hap h1 h2 h3
 ·by_cases e:c'=c
  ·subst e
   exact ⟨k0+1,by simp [World.setChan,hlt]⟩
  ·obtain ⟨q,hq'⟩:=(H.chans c' hc').1
   exact ⟨q,other c' _ e hq'⟩
 ·obtain ⟨q,hq'⟩:=(H.closed c' hc').1
  exact ⟨q,other c' _ (fun e=>by rw [e,hq] at hq';cases hq') hq'⟩
 ·rw [Deaf_quiet (met_quiet h j fh ps fj pj c k0 0 i)]
  exact H.deaf i hi
 ·obtain ⟨q1,q2,q3⟩:=H.gy b o hb
  exact ⟨other b o (fun e=>hx o (e ▸ hb)) q1,hno b q2,wU q3 fun op hop a ha _=>(mute op hop a ha).elim⟩
 ·simp only [Go.Conc.met,List.mem_toArray,List.mem_cons,List.not_mem_nil,or_false] at hop
  rcases hop with rfl | rfl | rfl | rfl <;> assumption
 ·rw [Deaf_quiet (met_quiet h j fh ps fj pj c k0 0 l)]
 ·simp only [Go.Conc.met,List.mem_toArray,List.mem_cons,List.not_mem_nil,or_false] at hop
  rcases hop with rfl | rfl | rfl | rfl <;> (intro z;cases z)
theorem bu.hire (H:bu P C E τ T w own){h c:Nat}(hh:E.hr h (τ h))(hc:E.hr c (τ c))(lh:E.lv h (τ h))(lc:E.lv c (τ c))(fh:FuncId)(ps:String)(fc:FuncId)(hap:∀ i l b,own' i b→own' l b→i=l)(h1:∀ i b,i≠c→own' i b→own i b)(h2:∀ b,own' c b→own h b) :
  bu P C E τ (T ++ #[{ g:=h,fn:=fh,pos:=ps,act:=.go c },{ g:=c,fn:=fc,pos:=ps,act:=.start }]) w own':=by
 have hno:∀ b,(∀ i,¬ has (own i) b)→∀ i,¬ has (own' i) b:=fun b q=>C4 (fun i b hi=>by
  by_cases e:i=c
  ·subst e;exact ⟨_,h2 b hi⟩
  ·exact ⟨_,h1 i b e hi⟩) q
 have mute:∀ op∈(#[{ g:=h,fn:=fh,pos:=ps,act:=.go c },{ g:=c,fn:=fc,pos:=ps,act:=.start }]:Trace),∀ a,op.act.touch?=some a→False:=fun op hop a ha=>by
  simp only [List.mem_toArray,List.mem_cons,List.not_mem_nil,or_false] at hop
  rcases hop with rfl | rfl <;> cases ha
 refine ⟨H.ledger.hire (H.deaf h hh) (H.deaf c hc) fh ps fc hap h1 h2,fun c' hc'=>⟨(H.chans c' hc').1,hno _ (H.chans c' hc').2⟩,fun c' hc'=>⟨(H.closed c' hc').1,hno _ (H.closed c' hc').2⟩,H.aX,fun i hi=>?_,fun c' hc'=>wT (H.hush c' hc') fun op hop a ha=>(mute op hop a ha).elim,fun b o hb=>?_,E.lasts τ _ _ H.told (fun op hop=>?_) (fun j=>?_) (fun op hop a=>?_),H.out⟩
 ·rw [Deaf_quiet (g:=i) fun op hop d=>?_]
  ·exact H.deaf i hi
  ·simp only [List.mem_toArray,List.mem_cons,List.not_mem_nil,or_false] at hop
   rcases hop with rfl | rfl <;> rfl
 ·obtain ⟨q1,q2,q3⟩:=H.gy b o hb
  exact ⟨q1,hno b q2,wU q3 fun op hop a ha _=>(mute op hop a ha).elim⟩
 ·simp only [List.mem_toArray,List.mem_cons,List.not_mem_nil,or_false] at hop
  rcases hop with rfl | rfl <;> assumption
 ·refine Deaf_quiet fun op hop d=>?_
  simp only [List.mem_toArray,List.mem_cons,List.not_mem_nil,or_false] at hop
  rcases hop with rfl | rfl <;> rfl
 ·simp only [List.mem_toArray,List.mem_cons,List.not_mem_nil,or_false] at hop
  rcases hop with rfl | rfl <;> (intro z;cases z)
end
theorem aj.mono {P:Program}{main:Bool}{S S':(Nat→Prop)→Goroutine→World→Prop}{M:Nat→Prop}{g:Goroutine}{w:World}(h:aj P main S M g w)(k:∀ M g w,S M g w→S' M g w):aj P main S' M g w:=by
 induction h with
 | stop h=>exact .stop fun w1 hr=>k _ _ _ (h w1 hr)
 | step N g' w' es hg h1 h2 h3 ih=>exact .step N g' w' es hg h1 h2 ih
structure dN (C:Nat→Prop)(O:Nat→Option (Array CommCase×CommShape)):Prop where
 plain:∀ i cs sh,O i=some (cs,sh)→Plain C cs
 none:∀ i l iU jM jq shl a b,i≠l→O i=some (iU,jM)→O l=some (jq,shl)→a∈iU→b∈jq→a.send.isSome=true→b.send=Option.none→a.chan=b.chan→False
structure aP (P:Program)(C:Nat→Prop)(E:Env)(τ:Nat→Nat)(O:Nat→Option (Array CommCase×CommShape))(Home:Nat→(Nat→Prop)→Goroutine→World→Prop)(St:(Nat→Prop)→Goroutine→World→Prop)(h:Nat)(gs:Array Goroutine)(w:World)(T:Trace)(own:Nat→Nat→Prop)(L:List Nat):Prop where
 eZ:bu P C E τ T w own
 there:h < gs.size
 one:∀ g,gs[h]?=some g→aj P (h == 0) St (own h) g w
 act:∀ i g,i≠h→gs[i]?=some g→i∈L→aj P (i == 0) (dm P E O Home (τ i) i) (own i) g w
 sat:∀ i g,i≠h→gs[i]?=some g→i∉L→Sat P E O Home (τ i) i (own i) g w
 live:∀ i,i∈L→E.lv i (τ i)
 mine:E.lv h (τ h)
def dZ (O:Nat→Option (Array CommCase×CommShape))(h:Nat)(τ0 τ:Nat→Nat):Prop:=Kept O τ0 τ∧τ h=τ0 h
theorem dZ.trans {O:Nat→Option (Array CommCase×CommShape)}{h:Nat}{τ0 τ1 τ2:Nat→Nat}(a:dZ O h τ0 τ1)(b:dZ O h τ1 τ2):dZ O h τ0 τ2:=⟨a.1.trans b.1,b.2.trans a.2⟩
structure Kq (P:Program)(C:Nat→Prop)(E:Env)(τ:Nat→Nat)(O:Nat→Option (Array CommCase×CommShape))(Home:Nat→(Nat→Prop)→Goroutine→World→Prop)(St:(Nat→Prop)→Goroutine→World→Prop)(h:Nat)(gs:Array Goroutine)(w:World)(sl:Option (Nat×Nat))(T:Trace)(own:Nat→Nat→Prop)(L:List Nat):Prop where
 sys:aP P C E τ O Home St h gs w T own L
 stop:∃ g d sl',gs[h]?=some g∧jL P St (own h,g,w)∧stepT P (crowd gs w sl)=runT P (crowd gs (w.at d) sl') h
section
variable {P:Program}{C:Nat→Prop}{E:Env}{O:Nat→Option (Array CommCase×CommShape)}{Home:Nat→(Nat→Prop)→Goroutine→World→Prop}
theorem aP.status {τ:Nat→Nat}{St:(Nat→Prop)→Goroutine→World→Prop}{h:Nat}{gs:Array Goroutine}{w:World}{T:Trace}{own:Nat→Nat→Prop}{L:List Nat}(H:aP P C E τ O Home St h gs w T own L):∀ i g,i≠h→gs[i]?=some g→i∈L→g.status=.running :=
 fun i g e hg hi=>lz (H.act i g e hg hi) fun M g w=>uC _ i M g w
theorem aP.again {τ:Nat→Nat}{St:(Nat→Prop)→Goroutine→World→Prop}{h:Nat}{gs:Array Goroutine}{w:World}{T:Trace}{own:Nat→Nat→Prop}{L:List Nat}(F:∀ i cs sh,O i=some (cs,sh)→Plain C cs)(H:aP P C E τ O Home St h gs w T own L){w':World}(hch:∀ c,C c→∃ k,w'.heap[c]?=some (.chan 0 #[] false k k false)) :
  ∀ i g,i≠h→gs[i]?=some g→g.again w'=g:=by
 intro i g e hg
 by_cases hi:i∈L
 ·exact again_of_running (.inl (H.status i g e hg hi)) _
 ·have hs:=H.sat i g e hg hi
  by_cases hn:O i=none∧E.wk i
  ·rcases hs with ⟨_,_,n,ht⟩ | ⟨cs,sh,g2,ho,_⟩
   ·exact again_of_running (qd ht) _
   ·rw [hn.1] at ho;cases ho
  ·exact zi (hs.CR F hn) hch
theorem lead (K:dB P E)(U:dN C O){h:Nat}{St:(Nat→Prop)→Goroutine→World→Prop}(hst:∀ M g w,St M g w→g.status=.running):∀ (n:Nat)(L:List Nat),L.length≤n→∀ (gs0:Array Goroutine)(w0:World)(sl0:Option (Nat×Nat))(T0:Trace)(aU:Nat→Nat→Prop)(τ0:Nat→Nat),aP P C E τ0 O Home St h gs0 w0 T0 aU L→h∉L →
  ∃ N gs w sl T own τ L',runNT P N (crowd gs0 w0 sl0) T0=(.next (crowd gs w sl),T)∧gs.size=gs0.size∧dZ O h τ0 τ∧Kq P C E τ O Home St h gs w sl T own L'∧h∉L':=by
 intro n
 induction n with
 | zero =>
  intro L hL gs0 w0 sl0 T0 aU τ0 H0 qj
  have hL0:L=[]:=List.length_eq_zero_iff.1 (Nat.le_zero.1 hL)
  subst hL0
  obtain ⟨N,gs,w,sl,T,own,τ,hrun,hsz,hτ,H,hact,eY,qi,i,g,d,sl',gU,hig,hat,hstep⟩:=zl (P:=P) (C:=C) (E:=E) (O:=O) (Home:=Home) (Stop:=fun _=>St) (sl0:=sl0) K U.plain [h] (fun i M g w _ hs=>hst M g w hs) (fun i hi=>by
    rw [List.mem_singleton.1 hi];exact H0.mine) H0.eZ (fun i g hg hi=>by have e:=List.mem_singleton.1 hi;subst e;exact H0.one g hg) (fun i g hg hi=>H0.sat i g (fun e=>hi (List.mem_singleton.2 e)) hg ah) ⟨h,ah,H0.there⟩
  have e:=List.mem_singleton.1 gU
  subst e
  exact ⟨N,gs,w,sl,T,own,τ,[],hrun,hsz,⟨qi,hτ i ah⟩,⟨⟨H,(Array.getElem?_eq_some_iff.1 hig).1,fun x hx=>hact i x hx ah,fun x y _ _ hx=>absurd hx ah,fun x y e hy _=>eY x y hy (fun q=>e (List.mem_singleton.1 q)),fun x hx=>absurd hx ah,(by rw [hτ i ah];exact H0.mine)⟩,g,d,sl',hig,hat,hstep⟩,ah⟩
 | succ n ih =>
  intro L hL gs0 w0 sl0 T0 aU τ0 H0 qj
  obtain ⟨N,gs,w,sl,T,own,τ,hrun,hsz,hτ,H,nJ,eY,qi,i,g,d,sl',gU,hig,hat,hstep⟩:=zl (P:=P) (C:=C) (E:=E) (O:=O) (Home:=Home) (Stop:=fun i=>if i=h then St else dm P E O Home (τ0 i) i) (sl0:=sl0) K U.plain (h :: L)
   (fun i M g w _ hs=>by
    by_cases e:i=h
    ·simp only [e,if_true] at hs;exact hst _ _ _ hs
    ·simp only [e,if_false] at hs;exact uC _ i M g w hs)
   (fun i hi=>by
    rcases List.mem_cons.1 hi with e | e
    ·rw [e];exact H0.mine
    ·exact H0.live i e) H0.eZ
   (fun i g hg ha=>by
     by_cases e:i=h
     ·subst e;simp only [if_true];exact H0.one g hg
     ·simp only [e,if_false];exact H0.act i g e hg ((List.mem_cons.1 ha).resolve_left e))
   (fun i g hg ha=>H0.sat i g (fun e=>ha (by simp [e])) hg fun q=>ha (by simp [q]))
   ⟨h,ah,H0.there⟩
  have hact:∀ x y,x≠h→gs[x]?=some y→x∈L→aj P (x == 0) (dm P E O Home (τ x) x) (own x) y w:=fun x y hx hy hL=>by
   have:=nJ x y hy (by simp [hL])
   simp only [hx,if_false] at this
   rw [hτ x (by simp [hL])]
   exact this
  have hah:∀ y,gs[h]?=some y→aj P (h == 0) St (own h) y w:=fun y hy=>by
   have:=nJ h y hy ah
   simp only [if_true] at this
   exact this
  have zq:∀ x y,x≠h→gs[x]?=some y→x∉L→Sat P E O Home (τ x) x (own x) y w:=fun x y e hy hx=>eY x y hy (by simp [e,hx])
  have hlive:∀ x,x∈L→E.lv x (τ x):=fun x hx=>by rw [hτ x (by simp [hx])];exact H0.live x hx
  have kD:E.lv h (τ h):=by rw [hτ h ah];exact H0.mine
  have hkeep:dZ O h τ0 τ:=⟨qi,hτ h ah⟩
  have hht:h < gs.size:=by rw [hsz];exact H0.there
  have hS:aP P C E τ O Home St h gs w T own L:=⟨H,hht,hah,hact,zq,hlive,kD⟩
  by_cases e:i=h
  ·subst e
   simp only [if_true] at hat
   exact ⟨N,gs,w,sl,T,own,τ,L,hrun,hsz,hkeep,⟨hS,g,d,sl',hig,hat,hstep⟩,qj⟩
  ·simp only [e,if_false] at hat
   have Kr:i∈L:=(List.mem_cons.1 gU).resolve_left e
   have mq:∀ x y,gs[x]?=some y→x∈h :: L→y.status=.running:=fun x y hy hx=>by
    by_cases e:x=h
    ·subst e;exact lz (hah y hy) hst
    ·exact hS.status x y e hy ((List.mem_cons.1 hx).resolve_left e)
   have hlen:(L.filter (·≠i)).length≤n:=by
    have:(L.filter (·≠i)).length < L.length:=List.length_filter_lt_length_iff_exists.2 ⟨i,Kr,ah⟩
    omega
   have hlt:i < gs.size:=(Array.getElem?_eq_some_iff.1 hig).1
   have hmem:∀ x,x∈L.filter (·≠i)↔x∈L∧x≠i:=fun x=>by simp
   have C5:h∉L.filter (·≠i):=fun q=>qj ((hmem h).1 q).1
   rcases hat w (ay.refl P (own i) w) with ⟨cs,sh,g2,hO,hcomm,JZ⟩ | ⟨hO,hi0,-,n1,hn1⟩
   case inr =>
    obtain ⟨N2,gs2,w2,sl2,T2,gJ,τ2,L2,hr2,hsz2,hk2,hM,w9⟩:=ih (L.filter (·≠i)) hlen gs w sl T own τ ⟨H,hht,hah,fun x y ex hy hx=>hact x y ex hy ((hmem x).1 hx).1,fun x y ex hy hx=>by
      by_cases e2:x=i
      ·subst e2
       rw [hig] at hy
       cases hy
       exact .inl ⟨hO,hi0,n1,by rw [hτ x gU];exact hn1⟩
      ·exact zq x y ex hy fun q=>hx ((hmem x).2 ⟨q,e2⟩),fun x hx=>hlive x ((hmem x).1 hx).1,kD⟩ C5
    exact ⟨N+N2,gs2,w2,sl2,T2,gJ,τ2,L2,by rw [runNT_then N N2 _ _ _ _ hrun];exact hr2,hsz2.trans hsz,hkeep.trans hk2,hM,w9⟩
   have hhome:∀ w1,ay P (own i) w w1→Home i (own i) g2 w1:=by
    intro w1 hr
    rcases hat w1 hr with ⟨cs',sh',g2',lD,zm,hh'⟩ | ⟨lD,_⟩
    ·rw [CQ hcomm zm]
     exact hh'
    ·rw [hO] at lD;cases lD
   have hcm:=hcomm.2 (w.at d)
   have hev:MemOp.ofEvents i g.frame.fn g.frame.place #[]=#[]:=rfl
   have nK:∀ c',C c'→∃ q,(w.at d).heap[c']?=some (.chan 0 #[] false q q false):=fun c' hc=>(H.chans c' hc).1
   have uD:∀ {cc:CommCase},cc.send.isSome=false→cc.send=none:=fun {cc} e=>by cases q:cc.send with
    | none=>rfl
    | some x=>rw [q] at e;cases e
   have hnw:∀ cc∈cs,NoWays (w.at d) (gs.setIfInBounds i ph) cc:=by
    intro cc hcc
    rcases U.plain _ _ _ hO with ⟨c',v',z',rfl,hc⟩ | hr
    ·simp only [List.mem_toArray,List.mem_cons,List.not_mem_nil,or_false] at hcc
     subst hcc
     obtain ⟨q,hq⟩:=nK c' hc
     exact ways_send_none hq (Nat.le_refl _) (partners_nil fun x y hy=>nI mq eY hy fun hx my cs' sh' ho cc jN hs he=>U.none i x _ _ _ _ (scase c' v' z') cc hx.symm hO ho ah jN rfl (uD hs) he.symm)
    ·obtain ⟨c',z',rfl,hc⟩:=hr cc hcc
     obtain ⟨q,hq⟩:=nK c' hc
     exact ways_recv_none hq (partners_nil fun x y hy=>nI mq eY hy fun hx my cs' sh' ho cc jN hs he=>U.none x i _ _ _ _ _ _ hx ho hO jN hcc hs rfl he)
   have hrt:=crowd_waits (sl:=sl') hig hcm hnw
   have hsz2:(gs.setIfInBounds i (parked g2 cs sh)).size=gs0.size:=by simpa using hsz
   obtain ⟨N2,gs2,w2,sl2,T2,gJ,τ2,L2,hr2,Kt,hk2,hM,w9⟩:=ih (L.filter (·≠i)) hlen (gs.setIfInBounds i (parked g2 cs sh)) (w.at d) sl' T own τ ⟨H.at_ d,by simpa using hht,
    (fun y hy=>by
     rw [Array.getElem?_setIfInBounds_ne e] at hy
     exact (hah y hy).rely (ay.at_ P _ w d)),
    (fun x y hxh hy hx=>by
     obtain ⟨hx1,hx2⟩:=(hmem x).1 hx
     rw [Array.getElem?_setIfInBounds_ne (fun q=>hx2 q.symm)] at hy
     exact (hact x y hxh hy hx1).rely (ay.at_ P _ w d)),
    (fun x y ex hy hx=>by
     by_cases e:x=i
     ·subst e
      rw [Array.getElem?_setIfInBounds_self_of_lt hlt] at hy
      cases hy
      exact .inr ⟨cs,sh,g2,hO,rfl,fun w1 hr=>hhome w1 ((ay.at_ P _ w d).trans hr)⟩
     ·rw [Array.getElem?_setIfInBounds_ne (fun q=>e q.symm)] at hy
      exact (zq x y ex hy fun q=>hx ((hmem x).2 ⟨q,e⟩)).rely (ay.at_ P _ w d)),fun x hx=>hlive x ((hmem x).1 hx).1,kD⟩ C5
   refine ⟨N+(1+N2),gs2,w2,sl2,T2,gJ,τ2,L2,?_,Kt.trans hsz2,hkeep.trans hk2,hM,w9⟩
   rw [runNT_then N (1+N2) _ _ _ _ hrun,runNT_then 1 N2 _ (crowd (gs.setIfInBounds i (parked g2 cs sh)) (w.at d) sl') _ T (by simp only [runNT,hstep,hrt,hev,Array.append_empty])]
   exact hr2
theorem zt {E':Env}(h1:E'.ok=E.ok)(h2:E'.Pre=E.Pre)(h3:E'.aI=E.aI)(h4:∀ i,E.wk i→E'.wk i){s i:Nat}{M:Nat→Prop}{g:Goroutine}{w:World}(h:dm P E O Home s i M g w):dm P E' O Home s i M g w:=by
 unfold dm at h ⊢
 rw [h1,h2,h3]
 exact h.imp id fun ⟨a,b,c⟩=>⟨a,h4 i b,c⟩
theorem zu {E':Env}(h1:E'.ok=E.ok)(h2:E'.Pre=E.Pre)(h3:E'.aI=E.aI)(h4:∀ i,E.wk i→E'.wk i){s i:Nat}{M:Nat→Prop}{g:Goroutine}{w:World}(h:Sat P E O Home s i M g w):Sat P E' O Home s i M g w:=by
 unfold Sat at h ⊢
 rw [h1,h2,h3]
 exact h.imp (fun ⟨a,b,c⟩=>⟨a,h4 i b,c⟩) id
theorem aP.touches (K:dB P E)(U:dN C O){h:Nat}{Z:Type}{St:(Nat→Prop)→Goroutine→World→Prop}{bU:Z→(Nat→Prop)→Goroutine→World→Prop}(Q:Z→(Nat→Nat)→Prop)(hst:∀ M g w,St M g w→g.status=.running){E':Z→Env}(e1:∀ z,(E' z).ok=E.ok)(e2:∀ z,(E' z).Pre=E.Pre)(e4:∀ z,(E' z).aI=E.aI)(e5:∀ z i,E.wk i→(E' z).wk i)(e3:∀ z i s,i≠h→E.lv i s→(E' z).lv i s){gs0:Array Goroutine}{w0:World}{sl0:Option (Nat×Nat)}{T0:Trace}{aU:Nat→Nat→Prop}{τ0:Nat→Nat}{L:List Nat}
  (H:aP P C E τ0 O Home St h gs0 w0 T0 aU L)(hh:h∉L)
  (step:∀ τ T w own g,dZ O h τ0 τ→St (own h) g w→bu P C E τ T w own→∃ z g' w' es,Q z τ∧stepG P (h == 0) g w=.go g' w' es∧bu P C (E' z) τ (T ++ MemOp.ofEvents h g.frame.fn g.frame.place es) w' own∧(∀ j,ay P (own j) w w')∧aj P (h == 0) (bU z) (own h) g' w'∧(E' z).lv h (τ h)) :
  ∃ z N gs w sl T own τ L',Q z τ∧runNT P N (crowd gs0 w0 sl0) T0=(.next (crowd gs w sl),T)∧gs.size=gs0.size∧dZ O h τ0 τ∧aP P C (E' z) τ O Home (bU z) h gs w T own L'∧h∉L':=by
 obtain ⟨N,gs,w,sl,T,own,τ,L',hrun,hsz,hk,hL,hh'⟩:=lead K U hst L.length L (Nat.le_refl _) gs0 w0 sl0 T0 aU τ0 H hh
 obtain ⟨g,d,sl',hg,hat,hstep⟩:=hL.stop
 obtain ⟨z,g',w',es,hQ,hs,hT,hrl,hr,hlv⟩:=step τ T (w.at d) own g hk (hat _ (ay.at_ P _ w d)) (hL.sys.eZ.at_ d)
 have hrt:=runT_crowd_go (P:=P) (sl:=sl') hg hs
 have hlt:h < gs.size:=(Array.getElem?_eq_some_iff.1 hg).1
 have hag:=hL.sys.again U.plain (w':=w') fun c hc=>(hT.chans c hc).1
 have uF:∀ j,ay P (own j) w w':=fun j=>(ay.at_ P _ w d).trans (hrl j)
 have hoth:∀ j x,j≠h→((gs.map (woken P g g' w')).setIfInBounds h g')[j]?=some x→gs[j]?=some x:=by
  intro j x e hx
  rw [Array.getElem?_setIfInBounds_ne (fun q=>e q.symm),Array.getElem?_map] at hx
  cases hz:gs[j]? with
  | none=>rw [hz] at hx;cases hx
  | some y =>
   rw [hz] at hx
   simp only [Option.map_some,woken_of_again (hag j y e hz)] at hx
   exact hx
 refine ⟨z,N+1,_,w',sl',_,own,τ,L',hQ,(runNT_then N 1 _ _ _ _ hrun).trans (by simp only [runNT,hstep,hrt];rfl),by simpa using hsz,hk,⟨hT,by simpa using hlt,fun x hx=>?_,fun i x e hx hi=>?_,fun i x e hx hi=>?_,fun i hi=>e3 z i _ (fun e=>hh' (e ▸ hi)) (hL.sys.live i hi),hlv⟩,hh'⟩
 ·rw [Array.getElem?_setIfInBounds_self_of_lt (by simpa using hlt)] at hx
  cases hx
  exact hr
 ·exact ((hL.sys.act i x e (hoth i x e hx) hi).mono fun M g w h=>zt (e1 z) (e2 z) (e4 z) (e5 z) h).rely (uF i)
 ·exact zu (e1 z) (e2 z) (e4 z) (e5 z) ((hL.sys.sat i x e (hoth i x e hx) hi).rely (uF i))
def C8 (P:Program)(main:Bool)(g g' child:Goroutine):Prop:=g.status=.running∧∀ w,stepG P main g w=.spawn g' child w #[]
end
def floor (P:Program)(ds:List Deferred):Frame:={ (default:Frame) with fn:=P.funcs.size,defers:=ds,mode:=.panicking [goexitEntry] }
section
variable {P:Program}{Stop:(Nat→Prop)→Goroutine→World→Prop}{M:Nat→Prop}{w:World}
theorem Ku:P.funcs[P.funcs.size]?=none:=by simp
theorem Kv:(floor P []).catches P=false:=by
 unfold Frame.catches floor
 simp only [Ku]
 rfl
theorem Kw {main:Bool}{d:Deferred}{f:FuncId}{xs:Array Value}(hinv:∀ w,(invoke d.target d.args).runT P w #[]=(.ok (.enter f xs) w,#[]))(h1:∀ b,d.target≠.collected b)(h2:d.target≠.nil)
  (h:aj P main Stop M (ax (Frame.enter P f xs .deferred) [floor P []]) w):aj P main Stop M (ax (floor P [d]) []) w:=by
 refine aj.idle (g':=ax (Frame.enter P f xs .deferred) [floor P []]) rfl (fun w1=>?_) h
 have hi:=hinv w1
 obtain ⟨tg,ar⟩:=d
 have key:(∀ b,tg≠.collected b)→tg≠.nil→stepG P main (ax (floor P [⟨tg,ar⟩]) []) w1=callDeferred P (floor P []) [] none ⟨tg,ar⟩ w1:=by
  intro g1 g2
  unfold stepG ax floor
  dsimp only
  unfold unwind
  cases tg with
  | collected b=>exact absurd rfl (g1 b)
  | _=>rfl
 rw [key h1 h2]
 unfold callDeferred
 rw [if_neg]
 ·simp only [hi]
  rfl
 ·clear key hi hinv
  cases tg with
  | nil=>exact absurd rfl h2
  | _=>simp
theorem Ky:stepG P false (ax (floor P []) []) w=.go { frame:=floor P [],callers:=[],status:=.finished,dying:=none } w #[]:=by
 have hc:=Kv (P:=P)
 unfold stepG ax
 unfold floor at hc ⊢
 dsimp only at hc ⊢
 unfold unwind
 dsimp only
 rw [hc]
 rfl
end
section
variable {P:Program}{G:FuncId→Bool}{K:av}{main:Bool}{Stop:(Nat→Prop)→Goroutine→World→Prop}
theorem Kz {L:av}{fn:Func}{xs ys:Array Value}(h:AR L xs ys){v w:World}(hs:aY P L v w){x:Value}{u:World}(hr:(results fn xs).run P v=.ok x u)(hu:u=v) :
  ∃ L2 y w2 new,(results fn ys).runT P w #[]=(.ok y w2,new)∧VR L2 x y∧L.le L2∧aY P L2 v w2∧dY P L.mine L2.mine w w2 new:=by
 subst hu
 have hs0:aY P L u (tp (fun i=>u.tape (u.drawn+(i - w.drawn))) w):=⟨hs.gQ,hs.dom,hs.mine,hs.off,hs.base,hs.aX,hs.env⟩
 have ha0:Agree u (tp (fun i=>u.tape (u.drawn+(i - w.drawn))) w):=by
  intro i r
  show u.tape (u.drawn+i) r=u.tape (u.drawn+(w.drawn+i - w.drawn)) r
  congr 2
  omega
 have hl:=(SR.results (P:=P) (fn:=fn) h u _ #[] hs0 ha0).2
 unfold Loc at hl
 rw [hr] at hl
 have hr2:(results fn xs).run P (tp (iR u w) u)=.ok x (tp (iR u w) u):=hl _ (mh u w)
 have hres:=(SR.results (P:=P) (fn:=fn) h (tp (iR u w) u) w #[] hs.tp (wQ u w)).1
 rw [hr2] at hres
 obtain ⟨L2,y,w2,new,e',hv,hth⟩:=hres
 exact ⟨L2,y,w2,new,by rw [e',Array.empty_append],hv,hth.le,hth.fH.tp,hth.guar⟩
theorem called (H:Good P G)(hgood:∀ f,K.good f↔G f=true){f:FuncId}(hf:G f=true)(gI:∃ fn,P.funcs[f]?=some fn){xs ys:Array Value}(hx:AR K xs ys){v w:World}(hs:aY P K v w){R:Ending→World→Prop}(hR:∀ τ,Calls P f xs (tp τ v) R)(hno:∀ u,¬ R .outgrown u){c:Frame}{cs:List Frame}
  (hret:∀ L x y v1 w1,K.le L→R (.returned x) v1→VR L x y→aY P L v1 w1→aj P main Stop L.mine (ax (c.finish y) cs) w1)(KA:∀ L ps qs v1 w1,K.le L→R (.panicked ps) v1→fJ L ps qs→aY P L v1 w1→aj P main Stop L.mine (ax (c.raise qs) cs) w1) :
  aj P main Stop K.mine (ax (Frame.enter P f ys .normal) (c :: cs)) w:=by
 refine (carry (below:=c :: cs) (main:=main) H hgood hf gI hx hs hR hno).then ?_
 rintro M g w1 ⟨L,fr,fr',v1,e,hle,rfl,rfl,hfr,ku,hkind,hRe,hfn,hlv,hne⟩
 have hk':fr'.kind=.normal:=by rw [← hfr.kind];exact hkind
 have hd':fr.defers=[]→fr'.defers=[]:=fun z=>by
  have:=hfr.defers
  rw [z] at this
  generalize fr'.defers=ds at this ⊢
  cases this
  rfl
 refine aj.next rfl fun w2 hrel=>?_
 have hs2:=ku.rely hrel
 cases e with
 | outgrown=>exact absurd rfl hne
 | returned x =>
  obtain ⟨hm,hd,_,fn,zw,hres⟩:=hlv
  have hm':fr'.mode=.returning:=by
   have:=hfr.mode
   rw [hm] at this
   generalize fr'.mode=m at this ⊢
   cases this
   rfl
  have zx:P.funcs[fr'.fn]?=some fn:=by rw [← hfr.fn];exact zw
  obtain ⟨L2,y,w3,new,e1,hv,hL2,hs3,hG⟩:=Kz hfr.tmps hs2 hres rfl
  refine ⟨L2.mine,ax (c.finish y) cs,w3,seen P fr'.fn new,?_,?_,hret L2 x y v1 w3 (hle.trans hL2) hRe hv hs3⟩
  ·unfold stepG ax
   simp only [hm']
   unfold unwind
   rw [hd' hd]
   simp only [hm',zx,e1]
   unfold doReturn
   simp only [hk',GStep.after,Array.append_empty]
  ·exact ⟨hG.size,hG.low,hG.aX,hG.still,hG.iff,hG.tape,hG.os,hG.output,hG.drawn,fun e he=>hG.evs e (iG he)⟩
 | panicked ps =>
  obtain ⟨hm,hd,fn,zw⟩:=hlv
  have hmr:=hfr.mode
  rw [hm] at hmr
  obtain ⟨qs,hm',hp⟩:∃ qs,fr'.mode=.panicking qs∧fJ L ps qs:=by
   generalize fr'.mode=m at hmr ⊢
   cases hmr with
   | panicking _ qs hp=>exact ⟨qs,rfl,hp⟩
  have zx:P.funcs[fr'.fn]?=some fn:=by rw [← hfr.fn];exact zw
  have hc:fr'.catches P=false:=by unfold Frame.catches;rw [zx]
  refine ⟨L.mine,ax (c.raise qs) cs,w2,#[],?_,dY.idle P L.mine w2,KA L ps qs v1 w2 hle hRe hp hs2⟩
  unfold stepG ax
  simp only [hm']
  unfold unwind
  rw [hd' hd]
  simp only [hm',hc,Bool.false_eq_true,if_false]
end
def C9 (P:Program)(main:Bool)(f:FuncId)(ys:Array Value)(R:Ending→(Nat→Prop)→World→Prop)(M:Nat→Prop)(w:World):Prop :=
 ∀ (c:Frame) (cs:List Frame) (Stop:(Nat→Prop)→Goroutine→World→Prop),(∀ y M' w',R (.returned y) M' w'→aj P main Stop M' (ax (c.finish y) cs) w')→(∀ ch M' w',R (.panicked ch) M' w'→aj P main Stop M' (ax (c.raise ch) cs) w') →
  aj P main Stop M (ax (Frame.enter P f ys .normal) (c :: cs)) w
section
variable {P:Program}{G:FuncId→Bool}{K:av}{main:Bool}{fn:FuncId}{Q:Exit→(Nat→Prop)→Act→World→Prop}
theorem Da (H:Good P G)(hgood:∀ f,K.good f↔G f=true){f:FuncId}(hf:G f=true)(gI:∃ fn,P.funcs[f]?=some fn){xs ys:Array Value}(hx:AR K xs ys){v w:World}(hs:aY P K v w){R:Ending→World→Prop}(hR:∀ τ,Calls P f xs (tp τ v) R)(hno:∀ u,¬ R .outgrown u) :
  C9 P main f ys (fun e M w=>∃ L v1,K.le L∧M=L.mine∧aY P L v1 w∧match e with | .returned y=>∃ x,R (.returned x) v1∧VR L x y | .panicked qs=>∃ ps,R (.panicked ps) v1∧fJ L ps qs | .outgrown=>False) K.mine w :=
 fun _ _ _ h1 h2=>called H hgood hf gI hx hs hR hno (fun L x y v1 w1 hle hr hv hs1=>h1 y L.mine w1 ⟨L,v1,hle,rfl,hs1,x,hr,hv⟩) fun L ps qs v1 w1 hle hr hp hs1=>h2 qs L.mine w1 ⟨L,v1,hle,rfl,hs1,ps,hr,hp⟩
end
abbrev ai:=(Nat→Prop)→Goroutine→World→Prop
abbrev aZ:=Exit→ai→(Nat→Prop)→Act→World→Prop
abbrev fu:=Ending→ai→(Nat→Prop)→World→Prop
def aM (P:Program)(main:Bool)(fn:FuncId)(kd:CallKind)(c:Code)(Q:aZ)(S:ai)(M:Nat→Prop)(a:Act)(w:World):Prop :=
 ∀ (b:Frame) (k:List Item) (cs:List Frame),b.fn=fn→b.kind=kd →
  (∀ e S' M' a' w',Q e S' M' a' w'→iH P main S' b k cs e M' a' w')→aj P main S M (ax (b.at a (.code c :: k)) cs) w
def aG (P:Program)(main:Bool)(fn:FuncId)(kd:CallKind)(ops:Array Oper)(todo:List Nat)(Q:aZ)(S:ai)(M:Nat→Prop)(a:Act)(w:World):Prop :=
 ∀ (b:Frame) (k:List Item) (cs:List Frame),b.fn=fn→b.kind=kd →
  (∀ e S' M' a' w',Q e S' M' a' w'→iH P main S' b k cs e M' a' w')→aj P main S M (ax (b.at a (.inRegion ops todo :: k)) cs) w
def bn (P:Program)(main:Bool)(f:FuncId)(ys:Array Value)(R:fu)(S:ai)(M:Nat→Prop)(w:World):Prop :=
 ∀ (c:Frame) (cs:List Frame),(∀ y S' M' w',R (.returned y) S' M' w'→aj P main S' M' (ax (c.finish y) cs) w')→(∀ ch S' M' w',R (.panicked ch) S' M' w'→aj P main S' M' (ax (c.raise ch) cs) w') →
  aj P main S M (ax (Frame.enter P f ys .normal) (c :: cs)) w
theorem qm {kd:CallKind}(h:kd≠.early):(kd == CallKind.early)=false:=by cases kd <;> first | rfl | exact absurd rfl h
section
variable {P:Program}{main:Bool}{fn:FuncId}{kd:CallKind}{Q:aZ}{S:ai}{M:Nat→Prop}{a:Act}{w:World}
theorem xc {c:Code}{Q':aZ}(h:aM P main fn kd c Q S M a w)(hq:∀ e S M a w,Q e S M a w→Q' e S M a w):aM P main fn kd c Q' S M a w :=
 fun b k cs hb hk hc=>h b k cs hb hk fun e S' M' a' w' q=>hc e S' M' a' w' (hq e S' M' a' w' q)
theorem bG {f:FuncId}{ys:Array Value}{R R':fu}(h:bn P main f ys R S M w)(hr:∀ e S M w,R e S M w→R' e S M w):bn P main f ys R' S M w :=
 fun c cs h1 h2=>h c cs (fun y S' M' w' z=>h1 y S' M' w' (hr _ _ _ _ z)) fun ch S' M' w' z=>h2 ch S' M' w' (hr _ _ _ _ z)
theorem Db {ops:Array Oper}{l:List Nat}{w1:World}(h:aG P main fn kd ops l Q S M a w)(hr:ay P M w w1):aG P main fn kd ops l Q S M a w1:=fun b k cs hb hk hc=>(h b k cs hb hk hc).rely hr
theorem bS (h:Q .normal S M a w):aM P main fn kd .skip Q S M a w:=fun _ _ _ _ _ hc=>aj.idle rfl (fun _=>rfl) (hc _ _ _ _ _ h)
theorem eG (h:Q .ret S M a w):aM P main fn kd .ret Q S M a w:=fun _ _ _ _ _ hc=>aj.idle rfl (fun _=>rfl) (hc _ _ _ _ _ h _)
theorem lG {id:Nat}(h:Q (.exit id) S M a w):aM P main fn kd (.exit id) Q S M a w:=fun b k cs _ _ hc=>by
 obtain ⟨k',hk',hg⟩:=hc _ _ _ _ _ h
 refine aj.idle (g':=ax (b.at a k') cs) rfl (fun w1=>?_) hg
 show stepG P main (ax (b.at a (.code (.exit id) :: k)) cs) w1=_
 simp only [stepG,ax,stepG.exec,Frame.at,hk']
 rfl
theorem ak {x y:Code}(h:aM P main fn kd x (fun e S' M' a' w'=>if e matches .normal then aM P main fn kd y Q S' M' a' w' else Q e S' M' a' w') S M a w):aM P main fn kd (.seq x y) Q S M a w:=by
 intro b k cs hb hk hc
 refine aj.idle (g':=ax (b.at a (.code x :: .code y :: k)) cs) rfl (fun _=>rfl) (h b (.code y :: k) cs hb hk fun e S' M' a' w' q=>?_)
 cases e with
 | normal=>exact q b k cs hb hk hc
 | exit id=>exact (hc _ _ _ _ _ q).push rfl ah
 | ret=>exact iH.push (x:=.code y) rfl ah (hc _ _ _ _ _ q)
 | panic ch=>exact iH.push (x:=.code y) rfl ah (hc _ _ _ _ _ q)
 | goto l=>exact hc _ _ _ _ _ q
 | outgrown=>exact hc _ _ _ _ _ q
theorem lH {c:Operand}{x y:Code}{t:Bool}(hc:a.eval c=.bool t)(h:aM P main fn kd (if t then x else y) Q S M a w):aM P main fn kd (.cond c x y) Q S M a w:=fun b k cs hb hk hq=>by
 refine aj.idle (g':=ax (b.at a (.code (if t then x else y) :: k)) cs) rfl (fun w1=>?_) (h b k cs hb hk hq)
 have he:=Frame.eval_at b a (.code (.cond c x y) :: k) c
 simp only [Frame.at] at he
 simp only [stepG,ax,stepG.exec,Frame.at,he,hc]
theorem eH {id:Nat}{c:Code}(h:aM P main fn kd c (fun e S' M' a' w'=>match e with | .exit id'=>if id'=id then Q .normal S' M' a' w' else Q e S' M' a' w' | _=>Q e S' M' a' w') S M a w):aM P main fn kd (.block id c) Q S M a w:=by
 intro b k cs hb hk hc
 refine aj.idle (g':=ax (b.at a (.code c :: .inBlock id :: k)) cs) rfl (fun _=>rfl) (h b (.inBlock id :: k) cs hb hk fun e S' M' a' w' q=>?_)
 cases e with
 | normal=>exact aj.idle (g':=ax (b.at a' k) cs) rfl (fun _=>rfl) (hc _ _ _ _ _ q)
 | exit id' =>
  by_cases hid:id'=id
  ·simp only [hid,if_true] at q
   exact ⟨k,by simp [exitTo,hid],hc _ _ _ _ _ q⟩
  ·simp only [hid,if_false] at q
   obtain ⟨k',hk',hg⟩:=hc _ _ _ _ _ q
   have:(id == id')=false:=by simp;exact fun h=>hid h.symm
   exact ⟨k',by simp [exitTo,this,hk'],hg⟩
 | ret=>exact hc _ _ _ _ _ q
 | panic ch=>exact hc _ _ _ _ _ q
 | goto l=>exact hc _ _ _ _ _ q
 | outgrown=>exact hc _ _ _ _ _ q
theorem kE {c:Code}{X:Type}{r:X→X→Prop}(hr:WellFounded r)(I:X→ai→(Nat→Prop)→Act→World→Prop)(s:X)(h0:I s S M a w)
  (round:∀ s S M a w,I s S M a w→aM P main fn kd c (fun e S' M' a' w'=>if e matches .normal then ∃ s',r s' s∧I s' S' M' a' w' else Q e S' M' a' w') S M a w):aM P main fn kd (.loop c) Q S M a w:=by
 intro b k cs hb hk hc
 have key:∀ s S M a w,I s S M a w→aj P main S M (ax (b.at a (.code c :: .inLoop c :: k)) cs) w:=by
  intro s
  induction s using hr.induction with
  | _ s ih =>
   intro S M a w hI
   refine round s S M a w hI b (.inLoop c :: k) cs hb hk fun e S' M' a' w' q=>?_
   cases e with
   | normal =>
    obtain ⟨s',hs,hI'⟩:=q
    exact aj.idle (g':=ax (b.at a' (.code c :: .inLoop c :: k)) cs) rfl (fun _=>rfl) (ih s' hs S' M' a' w' hI')
   | exit id=>exact (hc _ _ _ _ _ q).push rfl ah
   | ret=>exact iH.push (x:=.inLoop c) rfl ah (hc _ _ _ _ _ q)
   | panic ch=>exact iH.push (x:=.inLoop c) rfl ah (hc _ _ _ _ _ q)
   | goto l=>exact hc _ _ _ _ _ q
   | outgrown=>exact hc _ _ _ _ _ q
 exact aj.idle (g':=ax (b.at a (.code c :: .inLoop c :: k)) cs) rfl (fun _=>rfl) (key s S M a w h0)
theorem xe {id:Nat}{ops:Array Oper}(h:aG P main fn kd ops (List.range ops.size) Q S M a w):aM P main fn kd (.region id ops false) Q S M a w :=
 fun b k cs hb hk hc=>aj.idle (g':=ax (b.at a (.inRegion ops (List.range ops.size) :: k)) cs) rfl (fun _=>rfl) (h b k cs hb hk hc)
theorem aA {ops:Array Oper}(h:Q .normal S M a w):aG P main fn kd ops [] Q S M a w:=fun b k cs _ _ hc=>aj.idle (g':=ax (b.at a k) cs) rfl (fun _=>rfl) (hc _ _ _ _ _ h)
theorem xg (hkd:kd≠.early){ops:Array Oper}{i:Nat}{rest:List Nat}{o:Oper}(ho:ops[i]?=some o)(hw:Region.wanted o (yielded ops a.tmps)=true){cs0:Array CommCase}{sh:CommShape}(hrun:∀ w1,(execOp a.eval o).runT P w1 #[]=(.ok (.comm cs0 true sh) w1,#[]))
  {mD:ai→Int→Value→Bool→(Nat→Prop)→World→Prop}
  (hS:∀ g g2,nH P main cs0 sh g g2→(∀ S' j v ok M' w',mD S' j v ok M' w'→aj P main S' M' (g2.finishComm P cs0 sh j v ok) w')→∀ w1,ay P M w w1→S M g w1)
  (hk:∀ S' j v ok M' w',mD S' j v ok M' w'→aG P main fn kd ops rest Q S' M' (a.put o.dst (commResult cs0 sh j v ok)) w'):aG P main fn kd ops (i :: rest) Q S M a w:=by
 intro b k cs hb hkind hc
 refine .stop fun w1 hr=>hS _ (ax (b.at a (.inRegion ops (i :: rest) :: k)) cs) ⟨rfl,fun w2=>?_⟩ (fun S' j v ok M' w' uG=>?_) w1 hr
 ·refine (stepG_oper (P:=P) (main:=main) (b:=b) (a:=a) (k:=k) (cs:=cs) (w:=w2) (rest:=rest) ho hw).trans ?_
  have hke:(b.kind == CallKind.early)=false:=by rw [hkind];exact qm hkd
  unfold stepG.apply
  simp only [if_true,hrun,Frame.at,hke,Bool.false_eq_true,if_false,GStep.after,Array.append_empty]
  rfl
 ·have hfin:(ax (b.at a (.inRegion ops (i :: rest) :: k)) cs).finishComm P cs0 sh j v ok=ax (b.at (a.put o.dst (commResult cs0 sh j v ok)) (.inRegion ops rest :: k)) cs:=by
   unfold Goroutine.finishComm ax
   simp only [Frame.finish_at,ho]
   rfl
  rw [hfin]
  exact hk S' j v ok M' w' uG b k cs hb hkind hc
end
section
variable {P:Program}{main:Bool}
def kH (P:Program)(f:FuncId)(aD:Func)(R:fu)(S:ai)(M:Nat→Prop)(a:Act)(w:World):Prop :=
 a.defers=[]∧∀ w1,ay P M w w1→∃ y M2 w2 es,(results aD a.tmps).runT P w1 #[]=(.ok y w2,es)∧dY P M M2 w1 w2 (seen P f es)∧R (.returned y) S M2 w2
def rE (P:Program)(f:FuncId)(aD:Func)(R:fu):aZ
 | .normal,S,M,a,w | .ret,S,M,a,w=>kH P f aD R S M a w
 | .panic ch,S,M,a,w=>a.defers=[]∧∀ w1,ay P M w w1→R (.panicked ch) S M w1
 | _,_,_,_,_=>False
theorem eQ {f:FuncId}{aD:Func}{body:Code}(hfn:P.funcs[f]?=some aD)(hbody:aD.body=some body){ys:Array Value}{R:fu}{S:ai}{M:Nat→Prop}{w:World}
  (h:aM P main f .normal body (rE P f aD R) S M ⟨(Frame.enter P f ys .normal).tmps,[]⟩ w):bn P main f ys R S M w:=by
 intro c cs h1 h2
 have e0:Frame.enter P f ys .normal=(Frame.enter P f ys .normal).at ⟨(Frame.enter P f ys .normal).tmps,[]⟩ [.code body]:=by simp [Frame.enter,Frame.at,hfn,hbody]
 rw [e0]
 refine h _ [] (c :: cs) rfl rfl fun e S' M' a' w' q=>?_
 have ret:∀ todo,kH P f aD R S' M' a' w'→aj P main S' M' (ax { (Frame.enter P f ys .normal).at a' todo with mode:=.returning } (c :: cs)) w':=by
  intro todo hq
  refine aj.next rfl fun w1 hrel=>?_
  obtain ⟨y,M2,w2,es,e1,hG,hR⟩:=hq.2 w1 hrel
  refine ⟨M2,ax (c.finish y) cs,w2,seen P f es,?_,hG,h1 y S' M2 w2 hR⟩
  unfold stepG ax
  simp only [Frame.at,Frame.enter]
  unfold unwind
  simp only [hq.1,hfn,e1]
  unfold doReturn
  simp only [GStep.after,Array.append_empty]
 cases e with
 | normal=>exact aj.idle (g':=ax { (Frame.enter P f ys .normal).at a' [] with mode:=.returning } (c :: cs)) rfl (fun _=>rfl) (ret [] q)
 | ret=>exact fun todo=>ret todo q
 | panic ch =>
  intro todo
  refine aj.next rfl fun w1 hrel=>?_
  refine ⟨M',ax (c.raise ch) cs,w1,#[],?_,dY.idle P M' w1,h2 ch S' M' w1 (q.2 w1 hrel)⟩
  have hc:(({ (Frame.enter P f ys .normal).at a' todo with mode:=.panicking ch }:Frame)).catches P=false:=by
   unfold Frame.catches
   simp only [Frame.at,Frame.enter,hfn]
  unfold stepG ax
  simp only [Frame.at,Frame.enter] at hc ⊢
  unfold unwind
  simp only [q.1] at hc ⊢
  rw [hc]
  rfl
 | exit id=>exact q.elim
 | goto l=>exact q.elim
 | outgrown=>exact q.elim
end
def rF:FrameMode→FrameMode
 | .panicking ({ recovered:=true,.. } :: older) =>
  match older.dropWhile (!·.goexit) with
  | []=>.returning
  | rest=>.panicking rest
 | m=>m
def zy (vs:List PanicEntry):FrameMode→FrameMode
 | .panicking chain=>.panicking (vs ++ chain)
 | _=>.panicking vs
def nL:FrameMode→FrameMode
 | .panicking ({ v,recovered:=false,goexit:=false } :: older)=>.panicking ({ v,recovered:=true } :: older)
 | m=>m
def zB:FrameMode→Value
 | .panicking ({ v,recovered:=false,goexit:=false } :: _)=>v
 | _=>.nilIface
def kI (f:FrameMode→FrameMode)(c:Frame):Frame:={ c with mode:=f c.mode }
def xh (caller:Frame):Frame :=
 match caller.mode with
 | .panicking ({ recovered:=true,.. } :: older) =>
  match older.dropWhile (!·.goexit) with
  | []=>{ caller with mode:=.returning }
  | rest=>{ caller with mode:=.panicking rest }
 | _=>caller
theorem Dc (c:Frame):xh c=kI rF c:=by
 obtain ⟨fn,tmps,todo,defers,mode,kind,ro⟩:=c
 cases mode with
 | panicking ch =>
  cases ch with
  | nil=>rfl
  | cons e older =>
   obtain ⟨v,r,g⟩:=e
   cases r with
   | false=>rfl
   | true =>
    unfold xh kI rF
    dsimp only
    cases older.dropWhile (!·.goexit) <;> rfl
 | _=>rfl
def backTo (kd:CallKind)(c:Frame)(v:Value):Frame :=
 match kd with
 | .normal | .wrapped=>c.finish v
 | .early=>c
 | _=>xh c
theorem De (c:Frame)(vs:List PanicEntry):c.raise vs=kI (zy vs) c:=by
 obtain ⟨fn,tmps,todo,defers,mode,kind,ro⟩:=c
 cases mode <;> rfl
section
variable {P:Program}{main:Bool}
theorem KB (fr c:Frame)(cs:List Frame)(v:Value)(w:World):doReturn P main fr (c :: cs) none v w=.go (ax (backTo fr.kind c v) cs) w #[]:=by
 unfold doReturn backTo xh
 cases fr.kind <;> rfl
end
def zC (P:Program)(main:Bool)(kd:CallKind)(f:FuncId)(ys:Array Value)(R:fu)(S:ai)(M:Nat→Prop)(w:World):Prop :=
 ∀ (c:Frame) (cs:List Frame),(∀ y S' M' w',R (.returned y) S' M' w'→aj P main S' M' (ax (backTo kd c y) cs) w')→(∀ ch S' M' w',R (.panicked ch) S' M' w'→aj P main S' M' (ax (c.raise ch) cs) w') →
  aj P main S M (ax (Frame.enter P f ys kd) (c :: cs)) w
def zD (P:Program)(main:Bool)(f:FuncId)(ys:Array Value)(R:fu)(S:ai)(M:Nat→Prop)(w:World):Prop :=
 ∀ (c:Frame) (cs:List Frame),(∀ y S' M' w',R (.returned y) S' M' w'→aj P main S' M' (ax (backTo .deferred (kI nL c) y) cs) w')→(∀ ch S' M' w',R (.panicked ch) S' M' w'→aj P main S' M' (ax ((kI nL c).raise ch) cs) w') →
  aj P main S M (ax (Frame.enter P f ys .deferred) (c :: cs)) w
def mE (P:Program)(main:Bool)(f:FuncId)(kd:CallKind)(R:fu)(md:FrameMode)(S:ai)(M:Nat→Prop)(a:Act)(w:World):Prop :=
 ∀ (b:Frame) (todo:List Item) (c:Frame) (cs:List Frame),b.fn=f→b.kind=kd→(∀ y S' M' w',R (.returned y) S' M' w'→aj P main S' M' (ax (backTo kd c y) cs) w')→(∀ ch S' M' w',R (.panicked ch) S' M' w'→aj P main S' M' (ax (c.raise ch) cs) w') →
  aj P main S M (ax { b.at a todo with mode:=md } (c :: cs)) w
section
variable {P:Program}{main:Bool}{f:FuncId}{kd:CallKind}{aD:Func}{R:fu}{S:ai}{M:Nat→Prop}{a:Act}{w:World}{md:FrameMode}
theorem Df (hfn:P.funcs[f]?=some aD)(h:kH P f aD R S M a w):mE P main f kd R .returning S M a w:=by
 intro b todo c cs hb hk h1 _
 refine aj.next rfl fun w1 hrel=>?_
 obtain ⟨y,M2,w2,es,e1,hG,hR⟩:=h.2 w1 hrel
 refine ⟨M2,ax (backTo kd c y) cs,w2,seen P f es,?_,hG,h1 y S M2 w2 hR⟩
 unfold stepG ax
 simp only [Frame.at]
 unfold unwind
 simp only [h.1,hb,hfn,e1]
 have:=KB (P:=P) (main:=main) ({ b.at a todo with mode:=.returning }) c cs y w2
 simp only [Frame.at,h.1] at this
 rw [← hb,this,hk]
 simp only [GStep.after,Array.append_empty]
 rfl
theorem Dg {b:Frame}{todo:List Item}{cs:List Frame}{d:Deferred}{ds:List Deferred}(hd:a.defers=d :: ds){g:FuncId}{xs:Array Value}(hinv:∀ w,(invoke d.target d.args).runT P w #[]=(.ok (.enter g xs) w,#[]))(h1:∀ b,d.target≠.collected b)(h2:d.target≠.nil)(hm:md≠.run)(w1:World) :
  stepG P main (ax { b.at a todo with mode:=md } cs) w1=.go (ax (Frame.enter P g xs .deferred) ({ b.at ⟨a.tmps,ds⟩ todo with mode:=md } :: cs)) w1 #[]:=by
 have hi:=hinv w1
 obtain ⟨tm,df⟩:=a
 simp only at hd
 subst hd
 obtain ⟨tg,ar⟩:=d
 have key:stepG P main (ax { b.at ⟨tm,⟨tg,ar⟩ :: ds⟩ todo with mode:=md } cs) w1=callDeferred P { b.at ⟨tm,ds⟩ todo with mode:=md } cs none ⟨tg,ar⟩ w1:=by
  unfold stepG ax
  simp only [Frame.at]
  cases md with
  | run=>exact absurd rfl hm
  | _ =>
   unfold unwind
   cases tg with
   | collected b=>exact absurd rfl (h1 b)
   | _=>rfl
 rw [key]
 unfold callDeferred
 rw [if_neg]
 ·simp only [hi]
  rfl
 ·cases tg with
  | nil=>exact absurd rfl h2
  | _=>simp
theorem XC {d:Deferred}{ds:List Deferred}(hd:a.defers=d :: ds){g:FuncId}{xs:Array Value}(hinv:∀ w,(invoke d.target d.args).runT P w #[]=(.ok (.enter g xs) w,#[]))(h1:∀ b,d.target≠.collected b)(h2:d.target≠.nil)(hm:md≠.run)
  (h:zC P main .deferred g xs (fun e S' M' w'=>match e with | .returned _=>mE P main f kd R (rF md) S' M' ⟨a.tmps,ds⟩ w' | .panicked ch=>mE P main f kd R (zy ch md) S' M' ⟨a.tmps,ds⟩ w' | .outgrown=>False) S M w):mE P main f kd R md S M a w:=by
 intro b todo c cs hb hk k1 k2
 refine aj.idle rfl (Dg hd hinv h1 h2 hm) (h _ (c :: cs) (fun y S' M' w' hl=>?_) fun ch S' M' w' hl=>?_)
 ·rw [show ∀ x:Frame,backTo .deferred x y=kI rF x from fun x=>Dc x]
  exact hl b todo c cs hb hk k1 k2
 ·rw [De]
  exact hl b todo c cs hb hk k1 k2
theorem KC {d:Deferred}{ds:List Deferred}(hd:a.defers=d :: ds){g:FuncId}{xs:Array Value}(hinv:∀ w,(invoke d.target d.args).runT P w #[]=(.ok (.enter g xs) w,#[]))(h1:∀ b,d.target≠.collected b)(h2:d.target≠.nil)(hm:md≠.run)
  (h:zD P main g xs (fun e S' M' w'=>match e with | .returned _=>mE P main f kd R (rF (nL md)) S' M' ⟨a.tmps,ds⟩ w' | .panicked ch=>mE P main f kd R (zy ch (nL md)) S' M' ⟨a.tmps,ds⟩ w' | .outgrown=>False) S M w):mE P main f kd R md S M a w:=by
 intro b todo c cs hb hk k1 k2
 refine aj.idle rfl (Dg hd hinv h1 h2 hm) (h _ (c :: cs) (fun y S' M' w' hl=>?_) fun ch S' M' w' hl=>?_)
 ·rw [show ∀ x:Frame,backTo .deferred x y=kI rF x from fun x=>Dc x]
  exact hl b todo c cs hb hk k1 k2
 ·rw [De]
  exact hl b todo c cs hb hk k1 k2
def uH (P:Program)(main:Bool)(f:FuncId)(kd:CallKind)(R:fu):aZ
 | .normal,S,M,a,w | .ret,S,M,a,w=>mE P main f kd R .returning S M a w
 | .panic ch,S,M,a,w=>mE P main f kd R (.panicking ch) S M a w
 | _,_,_,_,_=>False
theorem KD {body:Code}(hfn:P.funcs[f]?=some aD)(hbody:aD.body=some body){ys:Array Value}
  (h:aM P main f kd body (uH P main f kd R) S M ⟨(Frame.enter P f ys kd).tmps,[]⟩ w):zC P main kd f ys R S M w:=by
 intro c cs h1 h2
 have e0:Frame.enter P f ys kd=(Frame.enter P f ys kd).at ⟨(Frame.enter P f ys kd).tmps,[]⟩ [.code body]:=by simp [Frame.enter,Frame.at,hfn,hbody]
 rw [e0]
 refine h _ [] (c :: cs) rfl rfl fun e S' M' a' w' q=>?_
 cases e with
 | normal=>exact aj.idle (g':=ax { (Frame.enter P f ys kd).at a' [] with mode:=.returning } (c :: cs)) rfl (fun _=>rfl) (q _ [] c cs rfl rfl h1 h2)
 | ret=>exact fun todo=>q _ todo c cs rfl rfl h1 h2
 | panic ch=>exact fun todo=>q _ todo c cs rfl rfl h1 h2
 | exit id=>exact q.elim
 | goto l=>exact q.elim
 | outgrown=>exact q.elim
theorem KE {ys:Array Value}(h:zC P main .normal f ys R S M w):bn P main f ys R S M w:=h
theorem KF (hkd:kd≠.early){Q:aZ}{ops:Array Oper}{i:Nat}{rest:List Nat}{o:Oper}(ho:ops[i]?=some o)(hw:Region.wanted o (yielded ops a.tmps)=true){d:Deferred}(hrun:∀ w1,(execOp a.eval o).runT P w1 #[]=(.ok (.defer d) w1,#[]))
  (hk:aG P main f kd ops rest Q S M ⟨(a.put o.dst undef).tmps,d :: a.defers⟩ w):aG P main f kd ops (i :: rest) Q S M a w:=by
 intro b k cs hb hkind hc
 refine aj.idle (g':=ax (b.at ⟨(a.put o.dst undef).tmps,d :: a.defers⟩ (.inRegion ops rest :: k)) cs) rfl (fun w2=>?_) (hk b k cs hb hkind hc)
 refine (stepG_oper (P:=P) (main:=main) (b:=b) (a:=a) (k:=k) (cs:=cs) (w:=w2) (rest:=rest) ho hw).trans ?_
 have hke:(b.kind == CallKind.early)=false:=by rw [hkind];exact qm hkd
 unfold stepG.apply
 simp only [if_true,hrun,Frame.at,hke,Bool.false_eq_true,if_false,GStep.after,Array.append_empty]
 have hf:=Frame.finish_at b ⟨a.tmps,d :: a.defers⟩ ops i rest k undef
 simp only [ho,Option.bind_some,Frame.at] at hf
 rw [hf]
 cases o.dst <;> rfl
end
theorem KG (fr c:Frame)(cs:List Frame)(hk:fr.kind=.deferred):(tryRecover fr (c :: cs)=some (zB c.mode,kI nL c :: cs))∨(tryRecover fr (c :: cs)=none∧zB c.mode=.nilIface∧kI nL c=c):=by
 obtain ⟨fn,tmps,todo,defers,mode,kind,ro⟩:=c
 unfold tryRecover
 rw [hk]
 dsimp only
 cases mode with
 | panicking ch =>
  cases ch with
  | nil=>exact .inr ⟨rfl,rfl,rfl⟩
  | cons e older =>
   obtain ⟨v,r,g⟩:=e
   cases r <;> cases g
   ·exact .inl rfl
   ·exact .inr ⟨rfl,rfl,rfl⟩
   ·exact .inr ⟨rfl,rfl,rfl⟩
   ·exact .inr ⟨rfl,rfl,rfl⟩
 | run=>exact .inr ⟨rfl,rfl,rfl⟩
 | returning=>exact .inr ⟨rfl,rfl,rfl⟩
def xk (P:Program)(main:Bool)(f:FuncId)(c0:Code)(Q:aZ)(S:ai)(M:Nat→Prop)(a:Act)(w:World):Prop :=
 ∀ (b:Frame) (k:List Item) (c:Frame) (cs:List Frame),b.fn=f→b.kind=.deferred →
  (∀ e S' M' a' w',Q e S' M' a' w'→iH P main S' b k (kI nL c :: cs) e M' a' w')→aj P main S M (ax (b.at a (.code c0 :: k)) (c :: cs)) w
section
variable {P:Program}{main:Bool}{f:FuncId}{aD:Func}{Q:aZ}{R:fu}{S:ai}{M:Nat→Prop}{a:Act}{w:World}
theorem KH {b:Frame}(hkind:b.kind=.deferred){k:List Item}{c:Frame}{cs:List Frame}{ops:Array Oper}{i:Nat}{rest:List Nat}{o:Oper}(ho:ops[i]?=some o)(hw:Region.wanted o (yielded ops a.tmps)=true)(hrun:∀ w1,(execOp a.eval o).runT P w1 #[]=(.ok .recover w1,#[]))
  (h:aj P main S M (ax (b.at (a.put o.dst (zB c.mode)) (.inRegion ops rest :: k)) (kI nL c :: cs)) w):aj P main S M (ax (b.at a (.inRegion ops (i :: rest) :: k)) (c :: cs)) w:=by
 refine aj.idle rfl (fun w2=>?_) h
 refine (stepG_oper (P:=P) (main:=main) (b:=b) (a:=a) (k:=k) (cs:=c :: cs) (w:=w2) (rest:=rest) ho hw).trans ?_
 have hke:(b.kind == CallKind.early)=false:=by rw [hkind];rfl
 have hf:∀ v,(b.at a (.inRegion ops (i :: rest) :: k)).finish v=b.at (a.put o.dst v) (.inRegion ops rest :: k):=fun v=>by
  rw [Frame.finish_at,ho]
  rfl
 unfold stepG.apply
 simp only [if_true,hrun,GStep.after]
 have hke2:((b.at a (.inRegion ops (i :: rest) :: k)).kind == CallKind.early)=false:=hke
 simp only [hke2,Bool.false_eq_true,if_false]
 rw [show (b.at a (.inRegion ops (i :: rest) :: k)).roundOf=none from rfl]
 dsimp only
 rcases KG (b.at a (.inRegion ops (i :: rest) :: k)) c cs hkind with e | ⟨e,e2,e3⟩
 ·rw [e]
  dsimp only
  rw [hf]
  rfl
 ·rw [e,e2,e3]
  dsimp only
  rw [hf]
  rfl
theorem KI {x y:Code}(h:xk P main f x (fun e S' M' a' w'=>if e matches .normal then aM P main f .deferred y Q S' M' a' w' else Q e S' M' a' w') S M a w):xk P main f (.seq x y) Q S M a w:=by
 intro b k c cs hb hk hc
 refine aj.idle (g':=ax (b.at a (.code x :: .code y :: k)) (c :: cs)) rfl (fun _=>rfl) (h b (.code y :: k) c cs hb hk fun e S' M' a' w' q=>?_)
 cases e with
 | normal=>exact q b k _ hb hk hc
 | exit id=>exact (hc _ _ _ _ _ q).push rfl ah
 | ret=>exact iH.push (x:=.code y) rfl ah (hc _ _ _ _ _ q)
 | panic ch=>exact iH.push (x:=.code y) rfl ah (hc _ _ _ _ _ q)
 | goto l=>exact hc _ _ _ _ _ q
 | outgrown=>exact hc _ _ _ _ _ q
theorem KJ {id:Nat}{ops:Array Oper}{i:Nat}{rest:List Nat}(hr:List.range ops.size=i :: rest){o:Oper}(ho:ops[i]?=some o)(hw:Region.wanted o (yielded ops a.tmps)=true)(hrun:∀ w1,(execOp a.eval o).runT P w1 #[]=(.ok .recover w1,#[]))
  (h:∀ v,aG P main f .deferred ops rest Q S M (a.put o.dst v) w):xk P main f (.region id ops false) Q S M a w:=by
 intro b k c cs hb hk hc
 refine aj.idle (g':=ax (b.at a (.inRegion ops (List.range ops.size) :: k)) (c :: cs)) rfl (fun _=>rfl) ?_
 rw [hr]
 exact KH hk ho hw hrun (h _ b k _ hb hk hc)
theorem KL {body:Code}(hfn:P.funcs[f]?=some aD)(hbody:aD.body=some body){ys:Array Value}
  (h:xk P main f body (uH P main f .deferred R) S M ⟨(Frame.enter P f ys .deferred).tmps,[]⟩ w):zD P main f ys R S M w:=by
 intro c cs h1 h2
 have e0:Frame.enter P f ys .deferred=(Frame.enter P f ys .deferred).at ⟨(Frame.enter P f ys .deferred).tmps,[]⟩ [.code body]:=by simp [Frame.enter,Frame.at,hfn,hbody]
 rw [e0]
 refine h _ [] c cs rfl rfl fun e S' M' a' w' q=>?_
 cases e with
 | normal=>exact aj.idle (g':=ax { (Frame.enter P f ys .deferred).at a' [] with mode:=.returning } (kI nL c :: cs)) rfl (fun _=>rfl) (q _ [] _ cs rfl rfl h1 h2)
 | ret=>exact fun todo=>q _ todo _ cs rfl rfl h1 h2
 | panic ch=>exact fun todo=>q _ todo _ cs rfl rfl h1 h2
 | exit id=>exact q.elim
 | goto l=>exact q.elim
 | outgrown=>exact q.elim
end
section
variable {P:Program}{main:Bool}{fn:FuncId}{kd:CallKind}{Q:aZ}{S:ai}{M:Nat→Prop}{a:Act}{w:World}{ops:Array Oper}{i:Nat}{rest:List Nat}{o:Oper}
theorem xm (b:Frame)(k:List Item)(ho:ops[i]?=some o)(v:Value):(b.at a (.inRegion ops (i :: rest) :: k)).finish v=b.at (a.put o.dst v) (.inRegion ops rest :: k):=by
 rw [Frame.finish_at,ho]
 rfl
theorem KM (hkd:kd≠.early)(ho:ops[i]?=some o)(hw:Region.wanted o (yielded ops a.tmps)=true){f:FuncId}{ys:Array Value}(hr:∀ w1,(execOp a.eval o).runT P w1 #[]=(.ok (.enter f ys) w1,#[]))
  (h:bn P main f ys (fun e S' M w=>match e with | .returned y=>aG P main fn kd ops rest Q S' M (a.put o.dst y) w | .panicked ch=>Q (.panic ch) S' M a w | .outgrown=>False) S M w):aG P main fn kd ops (i :: rest) Q S M a w:=by
 intro b k cs hb hkind hc
 refine aj.idle (g':=ax (Frame.enter P f ys .normal) (b.at a (.inRegion ops (i :: rest) :: k) :: cs)) rfl (fun w2=>?_) ?_
 ·refine (stepG_oper (P:=P) (main:=main) (b:=b) (a:=a) (k:=k) (cs:=cs) (w:=w2) (rest:=rest) ho hw).trans ?_
  have hke:((b.at a (.inRegion ops (i :: rest) :: k)).kind == CallKind.early)=false:=by show (b.kind == _)=_;rw [hkind];exact qm hkd
  unfold stepG.apply
  simp only [if_true,hr,hke,Bool.false_eq_true,if_false,GStep.after,Array.append_empty]
  rfl
 ·refine h _ cs (fun y S' M' w' hco=>?_) fun ch S' M' w' hq=>?_
  ·rw [xm b k ho]
   exact hco b k cs hb hkind hc
  ·exact hc _ _ _ _ _ hq (.inRegion ops (i :: rest) :: k)
set_option linter.unusedSimpArgs false in
theorem KN (hkd:kd≠.early)(ho:ops[i]?=some o)(hw:Region.wanted o (yielded ops a.tmps)=true){d:Deferred}(hg:d.target≠.nil)(hr:∀ w1,(execOp a.eval o).runT P w1 #[]=(.ok (.spawn d) w1,#[]))
  {mD:ai→(Nat→Prop)→World→Prop}
  (hS:∀ g g',C8 P main g g' (ax (floor P [d]) [])→(∀ S' M' w',mD S' M' w'→aj P main S' M' g' w')→∀ w1,ay P M w w1→S M g w1)
  (hk:∀ S' M' w',mD S' M' w'→aG P main fn kd ops rest Q S' M' (a.put o.dst undef) w'):aG P main fn kd ops (i :: rest) Q S M a w:=by
 intro b k cs hb hkind hc
 refine .stop fun w1 hrel=>hS _ (ax (b.at (a.put o.dst undef) (.inRegion ops rest :: k)) cs) ⟨rfl,fun w2=>?_⟩ (fun S' M' w' uG=>hk S' M' w' uG b k cs hb hkind hc) w1 hrel
 refine (stepG_oper (P:=P) (main:=main) (b:=b) (a:=a) (k:=k) (cs:=cs) (w:=w2) (rest:=rest) ho hw).trans ?_
 have hke:((b.at a (.inRegion ops (i :: rest) :: k)).kind == CallKind.early)=false:=by show (b.kind == _)=_;rw [hkind];exact qm hkd
 unfold stepG.apply
 obtain ⟨tg,ar⟩:=d
 cases tg with
 | nil=>exact absurd rfl hg
 | _ =>
  simp only [if_true,hr,hke,Bool.and_false,Bool.false_and,Bool.false_eq_true,if_false,GStep.after,Array.append_empty,xm b k ho]
  rfl
end
section
variable {P:Program}{C:Nat→Prop}{E:Env}{τ0:Nat→Nat}{O O':Nat→Option (Array CommCase×CommShape)}{Home dw:Nat→(Nat→Prop)→Goroutine→World→Prop}
structure Duo (P:Program)(C:Nat→Prop)(E:Env)(τ:Nat→Nat)(O:Nat→Option (Array CommCase×CommShape))(Home:Nat→(Nat→Prop)→Goroutine→World→Prop)(Sh Sj:ai)(h j:Nat)(gs:Array Goroutine)(w:World)(T:Trace)(own:Nat→Nat→Prop)(L:List Nat):Prop where
 eZ:bu P C E τ T w own
 one:∀ g,gs[h]?=some g→aj P (h == 0) Sh (own h) g w
 two:∀ g,gs[j]?=some g→aj P (j == 0) Sj (own j) g w
 act:∀ i g,i≠h→i≠j→gs[i]?=some g→i∈L→aj P (i == 0) (dm P E O Home (τ i) i) (own i) g w
 sat:∀ i g,i≠h→i≠j→gs[i]?=some g→i∉L→Sat P E O Home (τ i) i (own i) g w
 live:∀ i,i∈L→E.lv i (τ i)
variable {h j c k:Nat}{v z zj:Value}{fM shj:CommShape}{eF:Array CommCase}{Sh Sj:ai}{gs:Array Goroutine}{w:World}{sl:Option (Nat×Nat)}{T:Trace}{own:Nat→Nat→Prop}{L:List Nat}
theorem Sys.meets (K:dB P E)(F:Fits C O h j c k v z zj fM shj eF)(hC:C c)(hx:∀ τ o,¬ E.at_ τ c o)(hh:E.hr h (τ0 h))(hj:E.hr j (τ0 j))(lh:E.lv h (τ0 h))(lj:E.lv j (τ0 j))(H:Sys P C E τ0 O Home gs w T own L)(hL:h∈L∨j∈L)(zF:h < gs.size)(hjs:j < gs.size)
  (share:∀ (w:World)(Mh Mj:Nat→Prop)(gh gj:Goroutine)(k0:Nat),w.heap[c]?=some (.chan 0 #[] false k0 k0 false)→(∀ b,Mh b→Mj b→False)→¬ has Mh c→¬ has Mj c→Home h Mh gh w→Home j Mj gj w→∃ oh oj:Nat→Prop,(∀ b,oh b→Mh b∨Mj b)∧(∀ b,oj b→Mh b∨Mj b)∧(∀ b,oh b→oj b→False) ∧
   aj P (h == 0) Sh oh (gh.finishComm P #[scase c v z] fM 0 undef false) (w.setChan c 0 #[] false (k0+1) (k0+1) false)∧aj P (j == 0) Sj oj (gj.finishComm P eF shj k v true) (w.setChan c 0 #[] false (k0+1) (k0+1) false)) :
  ∃ N gs' w' sl' T' own' τ L',runNT P N (crowd gs w sl) T=(.next (crowd gs' w' sl'),T')∧gs'.size=gs.size∧Kept O τ0 τ∧Duo P C E τ O Home Sh Sj h j gs' w' T' own' L'∧h∉L'∧j∉L':=by
 obtain ⟨N,m,T1,hrun,gs1,w1,sl1,T2,eT,L1,gh,gj,k0,fh,fj,ps,pj,τ,rfl,rfl,hsz,-,-,H1,hq,hoth,KO,hHj,hlive,hτ⟩:=meeting K F L.length L (Nat.le_refl _) gs w sl T own τ0 H hL zF hjs
 have hno:∀ i,¬ has (eT i) c:=(H1.chans c hC).2
 have Dh:τ h=τ0 h:=hτ.1 h _ F.send
 have Di:τ j=τ0 j:=hτ.1 j _ F.recv
 obtain ⟨oh,oj,s1,s2,s3,r1,r2⟩:=share w1 (eT h) (eT j) gh gj k0 hq (fun b hb hb'=>F.apart (H1.ledger.apart h j b hb hb')) (hno h) (hno j) KO hHj
 let own':Nat→Nat→Prop:=fun i=>if i=h then oh else if i=j then oj else eT i
 have eh:own' h=oh:=if_pos rfl
 have ej:own' j=oj:=by show (if j=h then oh else if j=j then oj else eT j)=oj;rw [if_neg (fun e=>F.apart e.symm),if_pos rfl]
 have eo:∀ i,i≠h→i≠j→own' i=eT i:=fun i a b=>by show (if i=h then oh else if i=j then oj else eT i)=_;rw [if_neg a,if_neg b]
 have rG:∀ i b,own' i b→(i=h∨i=j)∧(eT h b∨eT j b)∨(i≠h∧i≠j)∧eT i b:=by
  intro i b hb
  by_cases a1:i=h
  ·subst a1;rw [eh] at hb;exact .inl ⟨.inl rfl,s1 b hb⟩
  ·by_cases a2:i=j
   ·subst a2;rw [ej] at hb;exact .inl ⟨.inr rfl,s2 b hb⟩
   ·rw [eo i a1 a2] at hb;exact .inr ⟨⟨a1,a2⟩,hb⟩
 have hap:∀ i l b,own' i b→own' l b→i=l:=by
  intro i l b hi hl
  rcases rG i b hi with ⟨ei,di⟩ | ⟨ni,di⟩ <;> rcases rG l b hl with ⟨el,dl⟩ | ⟨nl,dl⟩
  ·rcases ei with rfl | rfl <;> rcases el with rfl | rfl
   ·rfl
   ·rw [eh] at hi;rw [ej] at hl;exact (s3 b hi hl).elim
   ·rw [ej] at hi;rw [eh] at hl;exact (s3 b hl hi).elim
   ·rfl
  ·rcases di with q | q
   ·exact absurd (H1.ledger.apart _ _ b q dl).symm nl.1
   ·exact absurd (H1.ledger.apart _ _ b q dl).symm nl.2
  ·rcases dl with q | q
   ·exact absurd (H1.ledger.apart _ _ b q di).symm ni.1
   ·exact absurd (H1.ledger.apart _ _ b q di).symm ni.2
  ·exact H1.ledger.apart i l b di dl
 have hT:=H1.met (own':=own') hC (hx τ) (by rw [Dh];exact hh) (by rw [Di];exact hj) (by rw [Dh];exact lh) (by rw [Di];exact lj) hq fh ps fj pj hap (fun i b a1 a2 hb=>by rw [eo i a1 a2] at hb;exact hb) (fun b hb=>by rw [eh] at hb;exact s1 b hb) (fun b hb=>by rw [ej] at hb;exact s2 b hb)
 have qo:∀ i,ay P (eT i) w1 (w1.setChan c 0 #[] false (k0+1) (k0+1) false):=fun i=>rD hq (hno i) _
 have pick:∀ i g,((gs1.setIfInBounds j (gj.finishComm P eF shj k v true)).setIfInBounds h (gh.finishComm P #[scase c v z] fM 0 undef false))[i]?=some g→(i=h∧g=gh.finishComm P #[scase c v z] fM 0 undef false)∨(i=j∧i≠h∧g=gj.finishComm P eF shj k v true)∨(i≠h∧i≠j∧gs1[i]?=some g):=by
  intro i g hg
  by_cases a1:i=h
  ·subst a1
   rw [Array.getElem?_setIfInBounds_self_of_lt (by simp;omega)] at hg
   exact .inl ⟨rfl,(Option.some.inj hg).symm⟩
  ·rw [Array.getElem?_setIfInBounds_ne (fun e=>a1 e.symm)] at hg
   by_cases a2:i=j
   ·subst a2
    rw [Array.getElem?_setIfInBounds_self_of_lt ag] at hg
    exact .inr (.inl ⟨rfl,a1,(Option.some.inj hg).symm⟩)
   ·rw [Array.getElem?_setIfInBounds_ne (fun e=>a2 e.symm)] at hg
    exact .inr (.inr ⟨a1,a2,hg⟩)
 have hmem:∀ x,x∈L1.filter (fun x=>x≠h∧x≠j)↔x∈L1∧x≠h∧x≠j:=fun x=>by simp
 refine ⟨N,_,_,sl1,_,own',τ,L1.filter (fun x=>x≠h∧x≠j),hrun,by simpa using hsz,hτ,⟨hT,fun g hg=>?_,fun g hg=>?_,fun i g a1 a2 hg hi=>?_,fun i g a1 a2 hg hi=>?_,fun i hi=>hlive i ((hmem i).1 hi).1⟩,fun q=>((hmem h).1 q).2.1 rfl,fun q=>((hmem j).1 q).2.2 rfl⟩
 ·rcases pick h g hg with ⟨-,rfl⟩ | ⟨-,q,-⟩ | ⟨q,-⟩
  ·rw [eh];exact r1
  ·exact absurd rfl q
  ·exact absurd rfl q
 ·rcases pick j g hg with ⟨q,-⟩ | ⟨-,-,rfl⟩ | ⟨-,q,-⟩
  ·exact absurd q.symm F.apart
  ·rw [ej];exact r2
  ·exact absurd rfl q
 ·rcases pick i g hg with ⟨q,-⟩ | ⟨q,-⟩ | ⟨-,-,hg'⟩
  ·exact absurd q a1
  ·exact absurd q a2
  ·rw [eo i a1 a2]
   exact ((hoth i g a1 a2 hg').1 ((hmem i).1 hi).1).rely (qo i)
 ·rcases pick i g hg with ⟨q,-⟩ | ⟨q,-⟩ | ⟨-,-,hg'⟩
  ·exact absurd q a1
  ·exact absurd q a2
  ·rw [eo i a1 a2]
   exact ((hoth i g a1 a2 hg').2 fun q=>hi ((hmem i).2 ⟨q,a1,a2⟩)).rely (qo i)
theorem aP.seat {St:ai}(H:aP P C E τ0 O Home St h gs w T own L)(hO:∀ i,i≠h→O' i=O i∧dw i=Home i)(hSt:∀ M g w,St M g w→dm P E O' dw (τ0 h) h M g w):Sys P C E τ0 O' dw gs w T own (h :: L):=by
 have other:∀ i,i≠h→dm P E O' dw (τ0 i) i=dm P E O Home (τ0 i) i∧Sat P E O' dw (τ0 i) i=Sat P E O Home (τ0 i) i:=fun i e=>by
  unfold dm Sat
  rw [(hO i e).1,(hO i e).2]
  exact ⟨rfl,rfl⟩
 refine ⟨H.eZ,fun i g hg hi=>?_,fun i g hg hi=>?_,fun i hi=>?_⟩
 ·by_cases e:i=h
  ·subst e
   exact (H.one g hg).mono hSt
  ·rw [(other i e).1]
   exact H.act i g e hg ((List.mem_cons.1 hi).resolve_left e)
 ·rw [(other i fun e=>hi (by simp [e])).2]
  exact H.sat i g (fun e=>hi (by simp [e])) hg fun q=>hi (by simp [q])
 ·rcases List.mem_cons.1 hi with e | e
  ·rw [e];exact H.mine
  ·exact H.live i e
end
end Go.Blind

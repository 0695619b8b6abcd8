/- Of the proof. -/
import Derived.Test.YtanploaffndpjaaJ02
import Derived.DyingRun
import Derived.Calls
import Derived.Conc.Beside
namespace Go.Blind
structure Good (P:Program)(G:FuncId→Bool):Prop extends FitX P (G ·=true) where
 body:∀ f fn c,G f=true→P.funcs[f]?=some fn→fn.body=some c→fI P G c=true
def Leaves (lb:List Frame)(fr:Frame)(cs:List Frame):Prop:=cs=lb∧fr.defers=[]∧(match fr.mode with | .run=>False | _=>True)
def ax (fr:Frame)(cs:List Frame):Goroutine:={ frame:=fr,callers:=cs,status:=.running,dying:=none }
def uu:GStep→Prop
 | .go g _ _=>(∃ fr cs,g=ax fr cs)∨g.status=.blocked∨g.status=.waiting
 | .comm _ cs b _ u _=>b=true∧∀ c∈cs,∀ r,c.chan=.chan (some r)→∀ cap buf cl s t tm,u.heap[r]?≠some (.chan cap buf cl s t tm)
 | .ended ..=>True
 | _=>False
structure Beside (P:Program)(G:FuncId→Bool)(K:av)(lb below:List Frame)(v w:World)(s s':GStep):Prop where
 goes:∀ g1 v1 es1,s=.go g1 v1 es1→g1.status=.running→∃ L fr cs fr' cs' w1 es',g1=ax fr cs∧s'=.go (ax fr' cs') w1 es'∧SK P G L lb below fr cs fr' cs'∧Then P K L v v1 w w1 es'
 kinds:uu s
section
variable {P:Program}{G:FuncId→Bool}{K:av}{lb below:List Frame}
theorem Beside.ended {v w:World}{o:Outcome}{u:World}{es:Array Event}{s':GStep}:Beside P G K lb below v w (.ended o u es) s':=⟨fun _ _ _ h=>(by cases h),trivial⟩
theorem aY.Jt {v w:World}(hs:aY P K v w){x y:Value}(h:VR K x y){r:Nat}(e:x=.chan (some r))(cap:Nat)(buf:Array Value)(cl:Bool)(s t:Nat)(tm:Bool):v.heap[r]?≠some (.chan cap buf cl s t tm):=by
 subst e
 cases h with
 | chan _ r' b =>
  intro z
  by_cases ho:K.own r
  ·obtain ⟨o,o',e1,e2,hr⟩:=hs.at_ ho b
   rw [e1] at z
   cases z
   cases hr
  ·rw [hs.off _ _ b ho] at z
   cases z
theorem Beside.comm {v w:World}{g:Goroutine}{cs:Array CommCase}{sh:CommShape}{u w1:World}{es:Array Event}{s':GStep}{L:av}(hs:aY P L u w1)(h:∀ c∈cs,∃ y,VR L c.chan y):Beside P G K lb below v w (.comm g cs true sh u es) s' :=
 ⟨fun _ _ _ h=>(by cases h),rfl,fun c hc r e=>by obtain ⟨y,hy⟩:=h c hc;exact hs.Jt hy e⟩
theorem Beside.go {v w:World}{fr fr':Frame}{cs cs':List Frame}{v1 w1:World}{es es':Array Event}{L:av}(h:SK P G L lb below fr cs fr' cs')(ht:Then P K L v v1 w w1 es') :
  Beside P G K lb below v w (.go (ax fr cs) v1 es) (.go (ax fr' cs') w1 es'):=by
 refine ⟨?_,.inl ⟨fr,cs,rfl⟩⟩
 intro g1 u es1 e _
 cases e
 exact ⟨L,fr,cs,fr',cs',w1,es',rfl,rfl,h,ht⟩
theorem Beside.idle {v w:World}{fr fr':Frame}{cs cs':List Frame}(hs:aY P K v w)(ha:Agree v w)(h:SK P G K lb below fr cs fr' cs') :
  Beside P G K lb below v w (.go (ax fr cs) v) (.go (ax fr' cs') w):=Beside.go h (.refl hs ha)
theorem Beside.asleep {v w v1:World}{g:Goroutine}{es:Array Event}{s':GStep}(h:g.status=.blocked∨g.status=.waiting):Beside P G K lb below v w (.go g v1 es) s' :=
 ⟨fun _ _ _ e hr=>(by cases e;rcases h with h | h <;> rw [h] at hr <;> cases hr),.inr h⟩
theorem Ju {f:Bool×Array Event→Event→Bool×Array Event}(hf:∀ x a e,e∈(f x a).2→e∈x.2∨e=a):∀ (l:List Event)(q:Bool×Array Event)(e:Event),e∈(l.foldl f q).2→e∈q.2∨e∈l:=by
 intro l
 induction l with
 | nil=>intro q e h;exact .inl h
 | cons a l ih =>
  intro q e h
  simp only [List.foldl_cons] at h
  rcases ih _ e h with z | z
  ·exact (hf q a e z).imp id fun z=>by simp [z]
  ·exact .inr (by simp [z])
theorem iG {fn:FuncId}{es:Array Event}{e:Event}(h:e∈seen P fn es):e∈es:=by
 unfold seen at h
 dsimp only at h
 rw [← Array.foldl_toList] at h
 refine (Ju ?_ _ _ _ h).elim (fun z=>?_) fun z=>?_
 ·intro x a e z
  split at z
  ·exact .inl z
  ·simp only at z
   split at z
   ·exact .inl z
   ·exact (Array.mem_push.1 z)
 ·simp at z
 ·simpa using z
theorem Then.fewer {v v' w w':World}{L:av}{es es':Array Event}(h:Then P K L v v' w w' es)(k:∀ e∈es',e∈es):Then P K L v v' w w' es':=⟨h.le,h.fH,h.agree,h.eX,fun e he=>h.evs e (k e he)⟩
theorem Agree.draw {v w:World}(ha:Agree v w):Agree { v with drawn:=v.drawn+1 } { w with drawn:=w.drawn+1 }:=fun i r=>by
 have:=ha (1+i) r
 simpa [Nat.add_assoc] using this
theorem Then.draw {v w:World}(hs:aY P K v w)(ha:Agree v w):Then P K K v { v with drawn:=v.drawn+1 } w { w with drawn:=w.drawn+1 } #[] :=
 ⟨.refl K,⟨hs.gQ,hs.dom,hs.mine,hs.off,hs.base,hs.aX,hs.env⟩,ha.draw,⟨Nat.le_refl _,fun _ _ _=>rfl,fun _ _ h=>.inl h,fun _ h1 h2=>absurd h2 (Nat.not_lt.2 h1),rfl,rfl,rfl,Nat.le_succ _,rfl,by simp only;omega,rfl⟩,fun e he=>by simp at he⟩
theorem Cj {fr fr':Frame}{cs cs':List Frame}(h:SK P G K lb below fr cs fr' cs') :
  (tryRecover fr cs=none∧tryRecover fr' cs'=none)∨∃ x y ds ds',tryRecover fr cs=some (x,ds)∧tryRecover fr' cs'=some (y,ds')∧VR K x y∧SK P G K lb below fr ds fr' ds':=by
 cases h with
 | bottom _ _ r k =>
  refine .inl ⟨?_,?_⟩
  ·unfold tryRecover;rw [k]
  ·unfold tryRecover;rw [← r.kind,k]
 | push _ _ c c' cs cs' r rest =>
  rcases r.kinds with k | k
  ·refine .inl ⟨?_,?_⟩
   ·unfold tryRecover;rw [k]
   ·unfold tryRecover;rw [← r.kind,k]
  ·unfold tryRecover
   rw [← r.kind,k]
   have hm:=rest.top.mode
   dsimp only
   generalize em:c.mode=m at hm
   generalize p9:c'.mode=m' at hm
   cases hm with
   | run=>exact .inl ⟨rfl,rfl⟩
   | returning=>exact .inl ⟨rfl,rfl⟩
   | panicking ps qs hp =>
    cases hp with
    | nil=>exact .inl ⟨rfl,rfl⟩
    | cons p q ps qs hpq hps =>
     obtain ⟨pv,pr,pg⟩:=p
     obtain ⟨qv,qr,qg⟩:=q
     obtain ⟨hv,hr,hg⟩:=hpq
     simp only at hv hr hg
     subst hr
     subst hg
     cases pr with
     | true=>exact .inl ⟨rfl,rfl⟩
     | false =>
      cases pg with
      | true=>exact .inl ⟨rfl,rfl⟩
      | false=>exact .inr ⟨pv,qv,_,_,rfl,rfl,hv,.push _ _ _ _ _ _ r (rest.put (rest.top.qW (.panicking _ _ (.cons _ _ _ _ ⟨hv,rfl,rfl⟩ hps))) rfl)⟩
theorem Jv (H:Good P G)(hK:∀ f,K.good f↔G f=true){v w:World}(hs:aY P K v w)(ha:Agree v w){fr fr':Frame}{cs cs':List Frame}(h:SK P G K lb below fr cs fr' cs'){s t:Sem Next}(hst:SR P (NR P) K s t) :
  Beside P G K lb below v w (stepG.apply P true fr cs none s v) (stepG.apply P true fr' cs' none t w):=by
 have hr:=(hst v w #[] hs ha).1
 have r:=h.top
 have hne:(fr'.kind == .early)=false:=by rw [← r.kind];rcases r.kinds with k | k <;> rw [k] <;> rfl
 obtain ⟨rl,el,hl0⟩:∃ rl el,s.runT P v #[]=(rl,el):=⟨_,_,rfl⟩
 have h1:rl=s.run P v:=by have:=Sem.runT_fst P s v #[];rw [hl0] at this;exact this
 have hl:s.runT P v #[]=(s.run P v,el):=by rw [← h1];exact hl0
 unfold stepG.apply
 simp only [if_true,hl,hne,Bool.false_eq_true,if_false]
 cases hrun:s.run P v with
 | halt q v1 =>
  rw [hrun] at hr
  cases q with
  | panic x =>
   obtain ⟨L,y,w1,new,e',hv,ht⟩:=hr
   simp only [e',Array.empty_append]
   dsimp only [GStep.after]
   have hev:∀ e∈seen P fr'.fn new ++ #[],e∈new:=fun e he=>by simp only [Array.append_empty] at he;exact iG he
   exact Beside.go ((h.mono ht.le).put ((r.mono ht.le).raise (.cons { v:=x,recovered:=false } { v:=y,recovered:=false } [] [] ⟨hv,rfl,rfl⟩ .nil)) (y8 _ _)) (ht.fewer hev)
  | blocked=>exact Beside.asleep (.inl rfl)
  | waiting=>exact Beside.asleep (.inr rfl)
  | exit c=>exact Beside.ended
  | fatal m=>cases hr
  | throw m=>cases hr
  | goexit=>cases hr
  | unsupported u=>cases u <;> first | (cases hr;done) | exact Beside.ended
  | stuck m=>exact Beside.ended
 | ok n v1 =>
  rw [hrun] at hr
  obtain ⟨L,n',w1,new,e',hn,ht⟩:=hr
  simp only [e',Array.empty_append]
  have hev:∀ e∈seen P fr'.fn new ++ #[],e∈new:=fun e he=>by simp only [Array.append_empty] at he;exact iG he
  have hL:=h.mono ht.le
  cases hn with
  | value x y hv=>dsimp only [GStep.after];exact Beside.go (hL.put (hL.top.finish hv) (p8 _ _)) (ht.fewer hev)
  | skip=>dsimp only [GStep.after];exact Beside.go (hL.put (hL.top.finish (jI L)) (p8 _ _)) (ht.fewer hev)
  | enter f xs ys hf hb hx =>
   dsimp only [GStep.after]
   rw [← r.todo]
   split
   ·rename_i z
    have:=r.fits
    rw [z] at this
    cases this
   exact Beside.go (.push _ _ _ _ _ _ (FR.enter ((hK f).1 ((ht.le.good f).2 hf)) H.body hb hx (.inl rfl)) hL) (ht.fewer hev)
  | defer d d' hd =>
   dsimp only [GStep.after]
   exact Beside.go (hL.put ((hL.top.defer (.cons _ _ _ _ hd hL.top.defers)).finish (jI L)) (p8 _ _)) (ht.fewer hev)
  | recover =>
   dsimp only [GStep.after]
   rw [r.round,r.round']
   rcases Cj hL with ⟨t1,t2⟩ | ⟨x,y,ds,ds',t1,t2,hv,hd⟩
   ·simp only [t1,t2]
    exact Beside.go (hL.put (hL.top.finish .nilIface) (p8 _ _)) (ht.fewer hev)
   ·simp only [t1,t2]
    exact Beside.go (hd.put (hd.top.finish hv) (p8 _ _)) (ht.fewer hev)
  | comm as bs sh hc=>dsimp only [GStep.after];exact Beside.comm ht.fH hc
theorem Jw (H:Good P G)(hK:∀ f,K.good f↔G f=true){main:Bool}{v w:World}(hs:aY P K v w)(ha:Agree v w){fr fr':Frame}{cs cs':List Frame}(h:SK P G K lb below fr cs fr' cs') :
  Beside P G K lb below v w (stepG.exec P true true fr cs none v) (stepG.exec P main true fr' cs' none w):=by
 obtain ⟨fn,tmps,todo,defers,mode,kind,ro⟩:=fr
 obtain ⟨fn',tmps',todo',defers',mode',kind',ro'⟩:=fr'
 have r:=h.top
 obtain rfl:fn=fn':=r.fn
 obtain rfl:todo=todo':=r.todo
 obtain rfl:kind=kind':=r.kind
 obtain rfl:ro=none:=r.round
 obtain rfl:ro'=none:=r.round'
 have hb:∀ g,g < P.globals.size→K.b g g:=fun g hg=>hs.base g ag
 have hf:todo.all (gT P G)=true:=r.fits
 have go:∀ {k:List Item},k.all (gT P G)=true→Beside P G K lb below v w (.go { frame:={ fn:=fn,tmps:=tmps,todo:=k,defers:=defers,mode:=mode,kind:=kind },callers:=cs,status:=.running,dying:=none } v) (.go { frame:={ fn:=fn,tmps:=tmps',todo:=k,defers:=defers',mode:=mode',kind:=kind },callers:=cs',status:=.running,dying:=none } w) :=
  fun hk=>Beside.idle hs ha (h.put (r.walk hk) rfl)
 have ret:Beside P G K lb below v w (.go { frame:={ fn:=fn,tmps:=tmps,todo:=todo,defers:=defers,mode:=.returning,kind:=kind },callers:=cs,status:=.running,dying:=none } v) (.go { frame:={ fn:=fn,tmps:=tmps',todo:=todo,defers:=defers',mode:=.returning,kind:=kind },callers:=cs',status:=.running,dying:=none } w) :=
  Beside.idle hs ha (h.put (r.qW .returning) rfl)
 unfold stepG.exec
 rcases todo with _ | ⟨it,k⟩
 ·exact ret
 simp only [List.all_cons,Bool.and_eq_true] at hf
 obtain ⟨h1,h2⟩:=hf
 cases it with
 | inBlock id=>exact go h2
 | inScope c=>exact go h2
 | inLoop c=>exact go (by simp only [List.all_cons,Bool.and_eq_true];exact ⟨h1,h1,h2⟩)
 | inRangeFunc _=>cases h1
 | endRangeFunc _=>cases h1
 | beginRound=>cases h1
 | call _ _ _ _=>cases h1
 | extern _ _=>cases h1
 | inRegion ops l =>
  cases l with
  | nil=>exact go h2
  | cons i rest =>
   have hy:yielded ops tmps=yielded ops tmps':=Ci r ops
   dsimp only
   rw [hy]
   split
   ·unfold stepG.oper
    cases ho:ops[i]? with
    | none=>simp only [Frame.oper?,ho];exact Beside.ended
    | some o =>
     simp only [Frame.oper?,ho]
     have hof:pZ P G o=true:=Array.all_eq_true_iff_forall_mem.1 h1 o (Array.mem_of_getElem? ho)
     have hap:=Jv H hK hs ha h (SR.execOp H.toFitX hK hof fun x hx=>r.eval hK hb (Array.all_eq_true_iff_forall_mem.1 (Bool.and_eq_true_iff.1 hof).2 x hx))
     exact hap
   ·exact Beside.idle hs ha (h.put (r.finish (jI K)) (p8 _ _))
 | code c =>
  cases c with
  | skip=>exact go h2
  | label l=>exact go h2
  | ret=>exact ret
  | seq a b =>
   simp only [gT,fI,Bool.and_eq_true] at h1
   exact go (by simp only [List.all_cons,Bool.and_eq_true];exact ⟨h1.1,h1.2,h2⟩)
  | block id b=>exact go (by simp only [List.all_cons,Bool.and_eq_true];exact ⟨h1,rfl,h2⟩)
  | loop b=>exact go (by simp only [List.all_cons,Bool.and_eq_true];exact ⟨h1,h1,h2⟩)
  | scope b=>exact go (by simp only [List.all_cons,Bool.and_eq_true];exact ⟨h1,h1,h2⟩)
  | refuse s=>exact Beside.ended
  | goto l=>cases h1
  | rangeFunc _ _ _ _=>cases h1
  | exit id =>
   dsimp only
   cases hx:exitTo id k with
   | none=>exact Beside.ended
   | some k'=>exact go (Js hx h2)
  | cond c a b =>
   simp only [gT,fI,Bool.and_eq_true] at h1
   have rc:=r.eval hK hb h1.1.1
   dsimp only
   generalize Frame.eval _ c=x at rc ⊢
   generalize Frame.eval _ c=y at rc ⊢
   cases rc with
   | bool t =>
    cases t with
    | true=>exact go (by simp only [List.all_cons,Bool.and_eq_true];exact ⟨h1.1.2,h2⟩)
    | false=>exact go (by simp only [List.all_cons,Bool.and_eq_true];exact ⟨h1.2,h2⟩)
   | _=>exact Beside.ended
  | region id ops draw =>
   have h1':ops.all (pZ P G)=true:=h1
   cases draw with
   | false=>exact go (by simp only [List.all_cons,Bool.and_eq_true];exact ⟨h1',h2⟩)
   | true =>
    have h0:=ha 0 (.order fn id)
    simp only [Nat.add_zero] at h0
    dsimp only
    simp only [Bool.not_true,Bool.false_eq_true,if_false,Go.choose,Sem.run,Question.forced,Question.cut,h0]
    exact Beside.go (h.put (r.walk (by simp only [List.all_cons,Bool.and_eq_true];exact ⟨h1',h2⟩)) rfl) (Then.draw hs ha)
end
section
variable {P:Program}{G:FuncId→Bool}{K:av}{lb below:List Frame}
theorem LR.get {xs ys:List Value}(r:LR K xs ys):xs.length=ys.length∧∀ (i:Nat)(x y:Value),xs[i]?=some x→ys[i]?=some y→VR K x y:=by
 induction r with
 | nil=>exact ⟨rfl,fun i x y hx=>by simp at hx⟩
 | cons x y xs ys hv _ ih =>
  refine ⟨by simp [ih.1],fun i a b ha hb=>?_⟩
  cases i with
  | zero=>simp at ha hb;subst ha;subst hb;exact hv
  | succ i=>exact ih.2 i a b (by simpa using ha) (by simpa using hb)
theorem SR.results {fn:Func}{xs ys:Array Value}(h:AR K xs ys):SR P VR K (Go.results fn xs) (Go.results fn ys):=by
 unfold Go.results
 refine SR.bind (SR.mapM (R:=VR) (Rs:=LR) _ (fun L M xs ys x y hL hs hv=>.cons _ _ _ _ (hv.mono hL) hs) (fun _=>.nil) fun L x hL _=>?_) fun L vs us hL e=>?_
 ·cases x with
  | tmp t=>exact SR.pure ((h.mono hL).getD t (jI L))
  | cell a t=>exact SR.bind (SR.asAddr ((h.mono hL).getD a (jI L))) fun _ _ _ _ e=>SR.loadVar e
 ·obtain ⟨e1,e2⟩:=e.get
  have hsz:vs.size=us.size:=by simpa using e1
  refine SR.pure ?_
  by_cases h1:vs.size=1
  ·have h2:us.size=1:=hsz ▸ h1
   rw [dif_pos h1,dif_pos h2]
   exact e2 0 _ _ (by simp [h1]) (by simp [h2])
  ·have h2:¬ us.size=1:=fun z=>h1 (hsz.trans z)
   rw [dif_neg h1,dif_neg h2]
   exact .tuple _ _ hsz fun i x y hx hy=>e2 i x y (by simpa using hx) (by simpa using hy)
theorem Beside.skip {v w:World}{c c':Prop}{hc:Decidable c}{hc':Decidable c'}{o:Outcome}{u:World}{es:Array Event}{s s' t':GStep}(h:c↔c')(hs:Beside P G K lb below v w s s'):Beside P G K lb below v w (if c then .ended o u es else s) (if c' then t' else s'):=by
 by_cases z:c
 ·rw [if_pos z];exact Beside.ended
 ·rw [if_neg z,if_neg fun y=>z (h.2 y)];exact hs
theorem Jy (H:Good P G)(hK:∀ f,K.good f↔G f=true){v w:World}(hs:aY P K v w)(ha:Agree v w){fr fr':Frame}{cs cs':List Frame}(h:SK P G K lb below fr cs fr' cs'){d d':Deferred}(hd:DR K d d') :
  Beside P G K lb below v w (callDeferred P fr cs none d v) (callDeferred P fr' cs' none d' w):=by
 have r:=h.top
 have hr:=(SR.invoke H.toFitX hK hd.target hd.args v w #[] hs ha).1
 obtain ⟨rl,el,hl0⟩:∃ rl el,(invoke d.target d.args).runT P v #[]=(rl,el):=⟨_,_,rfl⟩
 have h1:rl=(invoke d.target d.args).run P v:=by have:=Sem.runT_fst P (invoke d.target d.args) v #[];rw [hl0] at this;exact this
 have hl:(invoke d.target d.args).runT P v #[]=((invoke d.target d.args).run P v,el):=by rw [← h1];exact hl0
 unfold callDeferred
 refine Beside.skip ?_ ?_
 ·have ht:=hd.target
  have hm:=r.mode
  generalize d.target=a at ht ⊢
  generalize d'.target=b at ht ⊢
  generalize fr.mode=m at hm ⊢
  generalize fr'.mode=m' at hm ⊢
  cases ht <;> cases hm <;> exact Iff.rfl
 simp only [hl]
 cases hrun:(invoke d.target d.args).run P v with
 | halt q v1 =>
  rw [hrun] at hr
  cases q with
  | panic x =>
   obtain ⟨L,y,w1,new,e',hv,ht⟩:=hr
   simp only [e',Array.empty_append]
   dsimp only [GStep.after]
   have hev:∀ e∈seen P fr'.fn new ++ #[],e∈new:=fun e he=>by simp only [Array.append_empty] at he;exact iG he
   exact Beside.go ((h.mono ht.le).put ((r.mono ht.le).raise (.cons { v:=x,recovered:=false } { v:=y,recovered:=false } [] [] ⟨hv,rfl,rfl⟩ .nil)) (y8 _ _)) (ht.fewer hev)
  | blocked=>exact Beside.asleep (.inl rfl)
  | waiting=>exact Beside.asleep (.inr rfl)
  | exit c=>exact Beside.ended
  | fatal m=>cases hr
  | throw m=>cases hr
  | goexit=>cases hr
  | unsupported u=>cases u <;> first | (cases hr;done) | exact Beside.ended
  | stuck m=>exact Beside.ended
 | ok n v1 =>
  rw [hrun] at hr
  obtain ⟨L,n',w1,new,e',hn,ht⟩:=hr
  simp only [e',Array.empty_append]
  have hev:∀ e∈seen P fr'.fn new ++ #[],e∈new:=fun e he=>by simp only [Array.append_empty] at he;exact iG he
  have hL:=h.mono ht.le
  cases hn with
  | value x y hv=>dsimp only [GStep.after];exact Beside.go hL (ht.fewer hev)
  | skip=>dsimp only [GStep.after];exact Beside.go hL (ht.fewer hev)
  | enter f xs ys hf hb hx =>
   dsimp only [GStep.after]
   exact Beside.go (.push _ _ _ _ _ _ (FR.enter ((hK f).1 ((ht.le.good f).2 hf)) H.body hb hx (.inr rfl)) hL) (ht.fewer hev)
  | defer d d' hd=>dsimp only [GStep.after];exact Beside.go hL (ht.fewer hev)
  | comm as bs sh hc=>dsimp only [GStep.after];exact Beside.go hL (ht.fewer hev)
  | recover =>
   dsimp only [GStep.after]
   have hm:=hL.top.mode
   generalize fr.mode=m at hm ⊢
   generalize fr'.mode=m' at hm ⊢
   rcases Cj hL with ⟨t1,t2⟩ | ⟨x,y,ds,ds',t1,t2,hv,hd⟩
   ·simp only [t1,t2]
    cases hm <;> exact Beside.go hL (ht.fewer hev)
   ·simp only [t1,t2]
    cases hm with
    | returning=>exact Beside.go hd (ht.fewer hev)
    | _=>exact Beside.go hL (ht.fewer hev)
theorem Jz {main main':Bool}{v w v0 w0:World}{K0:av}{new:Array Event}(ht:Then P K0 K v0 v w0 w new){fr fr' c c':Frame}{cs cs':List Frame}(r:FR P G K fr fr')(h:SK P G K lb below c cs c' cs'){x y:Value}(hx:VR K x y)(es es':Array Event)(hev:∀ e∈es',e∈new) :
  Beside P G K0 lb below v0 w0 (GStep.after es (doReturn P main fr (c :: cs) none x v)) (GStep.after es' (doReturn P main' fr' (c' :: cs') none y w)):=by
 have ht':Then P K0 K v0 v w0 w (es' ++ #[]):=ht.fewer fun e he=>hev e (by simpa using he)
 unfold doReturn
 rw [← r.kind]
 rcases r.kinds with k | k
 ·rw [k]
  dsimp only [GStep.after]
  exact Beside.go (h.put (h.top.finish hx) (p8 _ _)) ht'
 ·rw [k]
  dsimp only [GStep.after]
  have hm:=h.top.mode
  have hput:∀ {a b:FrameMode},MR K a b→Beside P G K0 lb below v0 w0 (.go (ax { c with mode:=a } cs) v (es ++ #[])) (.go (ax { c' with mode:=b } cs') w (es' ++ #[])):=fun hab=>Beside.go (h.put (h.top.qW hab) rfl) ht'
  have hsame:Beside P G K0 lb below v0 w0 (.go (ax c cs) v (es ++ #[])) (.go (ax c' cs') w (es' ++ #[])):=Beside.go h ht'
  generalize c.mode=m at hm ⊢
  generalize c'.mode=m' at hm ⊢
  cases hm with
  | run=>exact hsame
  | returning=>exact hsame
  | panicking ps qs hp =>
   cases hp with
   | nil=>exact hsame
   | cons p q ps qs hpq hps =>
    obtain ⟨pv,pr,pg⟩:=p
    obtain ⟨qv,qr,qg⟩:=q
    obtain ⟨hv,hr,hg⟩:=hpq
    simp only at hv hr hg
    subst hr
    subst hg
    cases pr with
    | false=>exact hsame
    | true =>
     dsimp only
     have hdw:=hps.drop
     generalize ps.dropWhile (!·.goexit)=as at hdw ⊢
     generalize qs.dropWhile (!·.goexit)=bs at hdw ⊢
     cases hdw with
     | nil=>exact hput .returning
     | cons p q as bs h1 h2=>exact hput (.panicking _ _ (.cons _ _ _ _ h1 h2))
theorem Ck (H:Good P G)(hK:∀ f,K.good f↔G f=true){main:Bool}{v w:World}(hs:aY P K v w)(ha:Agree v w){fr fr':Frame}{cs cs':List Frame}(h:SK P G K lb below fr cs fr' cs')(hl:¬ Leaves lb fr cs)(hrun:match fr.mode with | .run=>False | _=>True) :
  Beside P G K lb below v w (unwind P true fr cs none v) (unwind P main fr' cs' none w):=by
 have r:=h.top
 have hd:=r.defers
 unfold unwind
 generalize ed:fr.defers=ds at hd
 generalize Cm:fr'.defers=ds' at hd
 cases hd with
 | cons d d' ds ds' h1 h2 =>
  have hcd:=Jy H hK hs ha (h.put (r.defer h2) rfl) h1
  have ht:=h1.target
  obtain ⟨tg,ar⟩:=d
  obtain ⟨Cn,Co⟩:=d'
  simp only at ht
  cases ht <;> exact hcd
 | nil =>
  cases h with
  | bottom _ _ _ _=>exact absurd ⟨rfl,ed,hrun⟩ hl
  | push _ _ c c' cs cs' _ rest =>
   have hm:=r.mode
   obtain ⟨fn,hfn⟩:=r.there
   generalize em:fr.mode=m at hm hrun
   generalize p9:fr'.mode=m' at hm
   cases hm with
   | run=>exact hrun.elim
   | panicking ps qs hp =>
    have c1:fr.catches P=false:=by unfold Frame.catches;rw [hfn]
    have c2:fr'.catches P=false:=by unfold Frame.catches;rw [← r.fn,hfn]
    simp only [c1,c2,Bool.false_eq_true,if_false]
    exact Beside.idle hs ha (rest.put (rest.top.raise hp) (y8 _ _))
   | returning =>
    have hfn':P.funcs[fr'.fn]?=some fn:=by rw [← r.fn];exact hfn
    simp only [hfn,hfn']
    have hr:=(SR.results (P:=P) (fn:=fn) r.tmps v w #[] hs ha).1
    obtain ⟨rl,el,hl0⟩:∃ rl el,(results fn fr.tmps).runT P v #[]=(rl,el):=⟨_,_,rfl⟩
    have e1:rl=(results fn fr.tmps).run P v:=by have:=Sem.runT_fst P (results fn fr.tmps) v #[];rw [hl0] at this;exact this
    have hll:(results fn fr.tmps).runT P v #[]=((results fn fr.tmps).run P v,el):=by rw [← e1];exact hl0
    simp only [hll]
    cases hres:(results fn fr.tmps).run P v with
    | halt q v1=>cases q <;> exact Beside.ended
    | ok x v1 =>
     rw [hres] at hr
     obtain ⟨L,y,w1,new,e',hv,ht⟩:=hr
     simp only [e',Array.empty_append]
     exact Jz ht (r.mono ht.le) (rest.mono ht.le) hv _ _ fun e he=>iG he
theorem Cq (H:Good P G)(hK:∀ f,K.good f↔G f=true){main:Bool}{v w:World}(hs:aY P K v w)(ha:Agree v w){fr fr':Frame}{cs cs':List Frame}(h:SK P G K lb below fr cs fr' cs')(hl:¬ Leaves lb fr cs) :
  Beside P G K lb below v w (stepG P true (ax fr cs) v) (stepG P main (ax fr' cs') w):=by
 have hm:=h.top.mode
 unfold stepG ax
 dsimp only
 generalize em:fr.mode=m at hm
 generalize p9:fr'.mode=m' at hm
 cases hm with
 | run=>exact Jw H hK hs ha h
 | returning=>exact Ck H hK hs ha h hl (by rw [em];trivial)
 | panicking ps qs hp=>exact Ck H hK hs ha h hl (by rw [em];trivial)
end
def Local (f:World→GStep)(v:World):Prop :=
 ∀ g1 v1 es1,f v=.go g1 v1 es1→g1.status=.running→∀ τ,(∀ i,i < v1.drawn→τ i=v.tape i)→∃ es,f (tp τ v)=.go g1 (tp τ v1) es
theorem Local.ended {f:World→GStep}{v:World}{o:Outcome}{u:World}{es:Array Event}(h:f v=.ended o u es):Local f v:=fun _ _ _ e=>by rw [h] at e;cases e
theorem Local.idle {f:World→GStep}{v:World}{g:Goroutine}(h:∀ u,f u=.go g u):Local f v:=by
 intro g1 v1 es1 e _ τ _
 rw [h] at e
 cases e
 exact ⟨_,h _⟩
section
variable {P:Program}{G:FuncId→Bool}{K:av}{lb below:List Frame}
theorem jJ {α:Type}{s:Sem α}{v:World}:∃ el,s.runT P v #[]=(s.run P v,el):=⟨_,Prod.ext (Sem.runT_fst P s v #[]) rfl⟩
theorem JA {v w:World}(hs:aY P K v w)(ha:Agree v w){fr fr':Frame}{cs cs':List Frame}(h:SK P G K lb below fr cs fr' cs'){s t:Sem Next}(hst:SR P (NR P) K s t) :
  Local (stepG.apply P true fr cs none s) v:=by
 obtain ⟨hr,hl⟩:=hst v w #[] hs ha
 have r:=h.top
 intro g1 v1 es1 e hrun τ hτ
 obtain ⟨el,e1⟩:=jJ (P:=P) (s:=s) (v:=v)
 obtain ⟨Cr,e2⟩:=jJ (P:=P) (s:=s) (v:=tp τ v)
 unfold Loc at hl
 unfold stepG.apply at e ⊢
 simp only [if_true,e1] at e
 simp only [if_true,e2]
 cases hv:s.run P v with
 | halt q u =>
  rw [hv] at hr e
  simp only [hv] at hl
  cases q with
  | panic x =>
   have:v1=u:=by cases e;rfl
   subst this
   rw [hl τ hτ]
   cases e
   exact ⟨_,rfl⟩
  | blocked=>cases e;cases hrun
  | waiting=>cases e;cases hrun
  | exit c=>cases e
  | fatal m=>cases hr
  | throw m=>cases hr
  | goexit=>cases hr
  | unsupported z=>cases z <;> first | (cases hr;done) | cases e
  | stuck m=>cases e
 | ok n u =>
  rw [hv] at hr e
  simp only [hv] at hl
  obtain ⟨L,n',w1,new,e',hn,ht⟩:=hr
  cases hn with
  | value x y hv=>cases e;rw [hl τ hτ];exact ⟨_,rfl⟩
  | skip=>cases e;rw [hl τ hτ];exact ⟨_,rfl⟩
  | enter f xs ys hf hb hx=>cases e;rw [hl τ hτ];exact ⟨_,rfl⟩
  | defer d d' hd=>cases e;rw [hl τ hτ];exact ⟨_,rfl⟩
  | comm as bs sh hc=>cases e
  | recover =>
   dsimp only [GStep.after] at e
   rw [r.round] at e
   dsimp only at e
   cases hq:tryRecover fr cs with
   | none =>
    rw [hq] at e
    cases e
    rw [hl τ hτ]
    dsimp only [GStep.after]
    rw [r.round]
    exact ⟨_,rfl⟩
   | some p =>
    rw [hq] at e
    cases e
    rw [hl τ hτ]
    dsimp only [GStep.after]
    rw [r.round]
    exact ⟨_,rfl⟩
theorem Cs {c:Prop}{hc:Decidable c}{o:Outcome}{u v1:World}{es es1:Array Event}{s:GStep}{g:Goroutine}(h:(if c then .ended o u es else s)=GStep.go g v1 es1):¬ c∧s=.go g v1 es1:=by
 by_cases z:c
 ·rw [if_pos z] at h;cases h
 ·rw [if_neg z] at h;exact ⟨z,h⟩
theorem JB (H:Good P G)(hK:∀ f,K.good f↔G f=true){v w:World}(hs:aY P K v w)(ha:Agree v w)(fr:Frame)(cs:List Frame){d d':Deferred}(hd:DR K d d') :
  Local (callDeferred P fr cs none d) v:=by
 obtain ⟨hr,hl⟩:=SR.invoke H.toFitX hK hd.target hd.args v w #[] hs ha
 intro g1 v1 es1 e hrun τ hτ
 obtain ⟨el,e1⟩:=jJ (P:=P) (s:=invoke d.target d.args) (v:=v)
 obtain ⟨Cr,e2⟩:=jJ (P:=P) (s:=invoke d.target d.args) (v:=tp τ v)
 unfold Loc at hl
 unfold callDeferred at e ⊢
 replace e:=Cs e
 obtain ⟨hcc,e⟩:=e
 rw [if_neg hcc]
 simp only [e1] at e
 simp only [e2]
 cases hv:(invoke d.target d.args).run P v with
 | halt q u =>
  rw [hv] at hr e
  simp only [hv] at hl
  cases q with
  | panic x =>
   have:v1=u:=by cases e;rfl
   subst this
   rw [hl τ hτ]
   cases e
   exact ⟨_,rfl⟩
  | blocked=>cases e;cases hrun
  | waiting=>cases e;cases hrun
  | exit c=>cases e
  | fatal m=>cases hr
  | throw m=>cases hr
  | goexit=>cases hr
  | unsupported z=>cases z <;> first | (cases hr;done) | cases e
  | stuck m=>cases e
 | ok n u =>
  rw [hv] at hr e
  simp only [hv] at hl
  obtain ⟨L,n',w1,new,e',hn,ht⟩:=hr
  cases hn with
  | value x y hv=>cases e;rw [hl τ hτ];exact ⟨_,rfl⟩
  | skip=>cases e;rw [hl τ hτ];exact ⟨_,rfl⟩
  | enter f xs ys hf hb hx=>cases e;rw [hl τ hτ];exact ⟨_,rfl⟩
  | defer d d' hd=>cases e;rw [hl τ hτ];exact ⟨_,rfl⟩
  | comm as bs sh hc=>cases e;rw [hl τ hτ];exact ⟨_,rfl⟩
  | recover =>
   cases hm:fr.mode <;> cases hq:tryRecover fr cs <;> simp only [hm,hq,GStep.after] at e <;> (cases e;rw [hl τ hτ];exact ⟨_,rfl⟩)
theorem JC (H:Good P G)(hK:∀ f,K.good f↔G f=true){v w:World}(hs:aY P K v w)(ha:Agree v w){fr fr':Frame}{cs cs':List Frame}(h:SK P G K lb below fr cs fr' cs') :
  Local (stepG.exec P true true fr cs none) v:=by
 obtain ⟨fn,tmps,todo,defers,mode,kind,ro⟩:=fr
 have r:=h.top
 obtain rfl:ro=none:=r.round
 have hb:∀ g,g < P.globals.size→K.b g g:=fun g hg=>hs.base g ag
 have hf:todo.all (gT P G)=true:=r.fits
 rcases todo with _ | ⟨it,k⟩
 ·exact Local.idle fun _=>rfl
 simp only [List.all_cons,Bool.and_eq_true] at hf
 obtain ⟨h1,h2⟩:=hf
 cases it with
 | inBlock id=>exact Local.idle fun _=>rfl
 | inScope c=>exact Local.idle fun _=>rfl
 | inLoop c=>exact Local.idle fun _=>rfl
 | inRangeFunc _=>cases h1
 | endRangeFunc _=>cases h1
 | beginRound=>cases h1
 | call _ _ _ _=>cases h1
 | extern _ _=>cases h1
 | inRegion ops l =>
  cases l with
  | nil=>exact Local.idle fun _=>rfl
  | cons i rest =>
   by_cases hw:((ops[i]?).map (Region.wanted · (yielded ops tmps))).getD false=true
   ·cases ho:ops[i]? with
    | none=>rw [ho] at hw;cases hw
    | some o =>
     have hof:pZ P G o=true:=Array.all_eq_true_iff_forall_mem.1 h1 o (Array.mem_of_getElem? ho)
     have hap:=JA hs ha h (SR.execOp H.toFitX hK hof fun x hx=>r.eval hK hb (Array.all_eq_true_iff_forall_mem.1 (Bool.and_eq_true_iff.1 hof).2 x hx))
     have e0:stepG.exec P true true { fn:=fn,tmps:=tmps,todo:=.inRegion ops (i :: rest) :: k,defers:=defers,mode:=mode,kind:=kind } cs none=stepG.apply P true { fn:=fn,tmps:=tmps,todo:=.inRegion ops (i :: rest) :: k,defers:=defers,mode:=mode,kind:=kind } cs none (execOp (Frame.eval { fn:=fn,tmps:=tmps,todo:=.inRegion ops (i :: rest) :: k,defers:=defers,mode:=mode,kind:=kind }) o):=by
      funext u
      unfold stepG.exec
      dsimp only
      rw [if_pos hw]
      unfold stepG.oper
      simp only [Frame.oper?,ho]
     rw [e0]
     exact hap
   ·refine Local.idle (g:={ frame:=Frame.finish { fn:=fn,tmps:=tmps,todo:=.inRegion ops (i :: rest) :: k,defers:=defers,mode:=mode,kind:=kind } undef,callers:=cs,status:=.running,dying:=none }) fun u=>?_
    unfold stepG.exec
    dsimp only
    rw [if_neg hw]
 | code c =>
  cases c with
  | skip=>exact Local.idle fun _=>rfl
  | label l=>exact Local.idle fun _=>rfl
  | ret=>exact Local.idle fun _=>rfl
  | seq a b=>exact Local.idle fun _=>rfl
  | block id b=>exact Local.idle fun _=>rfl
  | loop b=>exact Local.idle fun _=>rfl
  | scope b=>exact Local.idle fun _=>rfl
  | refuse s=>exact Local.ended rfl
  | goto l=>cases h1
  | rangeFunc _ _ _ _=>cases h1
  | exit id =>
   cases hx:exitTo id k with
   | none =>
    refine Local.ended (o:=.stuck "exit, goto: no such block or label" (Frame.pos P { fn:=fn,tmps:=tmps,todo:=.code (.exit id) :: k,defers:=defers,mode:=mode,kind:=kind })) (u:=v) (es:=#[]) ?_
    unfold stepG.exec
    dsimp only
    rw [hx]
    rfl
   | some k' =>
    refine Local.idle (g:={ frame:={ fn:=fn,tmps:=tmps,todo:=k',defers:=defers,mode:=mode,kind:=kind },callers:=cs,status:=.running,dying:=none }) fun u=>?_
    unfold stepG.exec
    dsimp only
    rw [hx]
    rfl
  | cond c a b =>
   simp only [gT,fI,Bool.and_eq_true] at h1
   have rc:=r.eval hK hb h1.1.1
   cases hx:Frame.eval { fn:=fn,tmps:=tmps,todo:=.code (.cond c a b) :: k,defers:=defers,mode:=mode,kind:=kind } c with
   | bool t =>
    refine Local.idle (g:={ frame:={ fn:=fn,tmps:=tmps,todo:=.code (if t then a else b) :: k,defers:=defers,mode:=mode,kind:=kind },callers:=cs,status:=.running,dying:=none }) fun u=>?_
    unfold stepG.exec
    dsimp only
    rw [hx]
   | _ =>
    refine Local.ended (o:=.stuck "cond: bool expected" (Frame.pos P { fn:=fn,tmps:=tmps,todo:=.code (.cond c a b) :: k,defers:=defers,mode:=mode,kind:=kind })) (u:=v) (es:=#[]) ?_
    unfold stepG.exec
    dsimp only
    rw [hx]
  | region id ops draw =>
   cases draw with
   | false=>exact Local.idle fun _=>rfl
   | true =>
    intro g1 v1 es1 e _ τ hτ
    have e0:∀ u,stepG.exec P true true { fn:=fn,tmps:=tmps,todo:=.code (.region id ops true) :: k,defers:=defers,mode:=mode,kind:=kind } cs none u=.go { frame:={ fn:=fn,tmps:=tmps,todo:=.inRegion ops (Region.schedule (P.follows .mixedOrders) ops (u.tape u.drawn (.order fn id))) :: k,defers:=defers,mode:=mode,kind:=kind },callers:=cs,status:=.running,dying:=none } { u with drawn:=u.drawn+1 }:=by
     intro u
     unfold stepG.exec
     dsimp only
     simp only [Bool.not_true,Bool.false_eq_true,if_false,Go.choose,Sem.run,Question.forced,Question.cut]
    rw [e0] at e
    cases e
    have:τ v.drawn=v.tape v.drawn:=hτ v.drawn (Nat.lt_succ_self _)
    rw [e0]
    simp only [tp,this]
    exact ⟨_,rfl⟩
theorem Ct (H:Good P G)(hK:∀ f,K.good f↔G f=true){v w:World}(hs:aY P K v w)(ha:Agree v w){fr fr':Frame}{cs cs':List Frame}(h:SK P G K lb below fr cs fr' cs')(hl:¬ Leaves lb fr cs)(hrun:match fr.mode with | .run=>False | _=>True) :
  Local (unwind P true fr cs none) v:=by
 have r:=h.top
 have hd:=r.defers
 generalize ed:fr.defers=ds at hd
 generalize Cm:fr'.defers=ds' at hd
 cases hd with
 | cons d d' ds ds' h1 _ =>
  have hcd:=JB H hK hs ha { fr with defers:=ds } cs h1
  have e0:unwind P true fr cs none=callDeferred P { fr with defers:=ds } cs none d:=by
   funext u
   unfold unwind
   rw [ed]
   have ht:=h1.target
   obtain ⟨tg,ar⟩:=d
   obtain ⟨Cn,Co⟩:=d'
   simp only at ht
   cases ht <;> rfl
  rw [e0]
  exact hcd
 | nil =>
  cases h with
  | bottom _ _ _ _=>exact absurd ⟨rfl,ed,hrun⟩ hl
  | push _ _ c c' cs cs' _ rest =>
   have hm:=r.mode
   obtain ⟨fn,hfn⟩:=r.there
   generalize em:fr.mode=m at hm hrun
   generalize p9:fr'.mode=m' at hm
   cases hm with
   | run=>exact hrun.elim
   | panicking ps qs hp =>
    have c1:fr.catches P=false:=by unfold Frame.catches;rw [hfn]
    refine Local.idle (g:={ frame:=c.raise ps,callers:=cs,status:=.running,dying:=none }) fun u=>?_
    unfold unwind
    rw [ed]
    simp only [em,c1,Bool.false_eq_true,if_false]
   | returning =>
    obtain ⟨hr,hloc⟩:=SR.results (P:=P) (fn:=fn) r.tmps v w #[] hs ha
    unfold Loc at hloc
    intro g1 v1 es1 e hrn τ hτ
    obtain ⟨el,e1⟩:=jJ (P:=P) (s:=results fn fr.tmps) (v:=v)
    obtain ⟨Cr,e2⟩:=jJ (P:=P) (s:=results fn fr.tmps) (v:=tp τ v)
    unfold unwind at e ⊢
    rw [ed] at e ⊢
    simp only [em,hfn,e1] at e
    simp only [em,hfn,e2]
    cases hv:(results fn fr.tmps).run P v with
    | halt q u=>rw [hv] at e;cases q <;> cases e
    | ok x u =>
     rw [hv] at e
     simp only [hv] at hloc
     unfold doReturn at e ⊢
     rcases r.kinds with k | k
     ·rw [k] at e ⊢
      cases e
      rw [hloc τ hτ]
      exact ⟨_,rfl⟩
     ·rw [k] at e ⊢
      cases e
      rw [hloc τ hτ]
      exact ⟨_,rfl⟩
theorem Cu (H:Good P G)(hK:∀ f,K.good f↔G f=true){v w:World}(hs:aY P K v w)(ha:Agree v w){fr fr':Frame}{cs cs':List Frame}(h:SK P G K lb below fr cs fr' cs')(hl:¬ Leaves lb fr cs) :
  Local (stepG P true (ax fr cs)) v:=by
 have hm:=h.top.mode
 generalize em:fr.mode=m at hm
 generalize p9:fr'.mode=m' at hm
 cases hm with
 | run =>
  have e0:stepG P true (ax fr cs)=stepG.exec P true true fr cs none:=by funext u;unfold stepG ax;simp only [em]
  rw [e0];exact JC H hK hs ha h
 | returning =>
  have e0:stepG P true (ax fr cs)=unwind P true fr cs none:=by funext u;unfold stepG ax;simp only [em]
  rw [e0];exact Ct H hK hs ha h hl (by rw [em];trivial)
 | panicking ps qs hp =>
  have e0:stepG P true (ax fr cs)=unwind P true fr cs none:=by funext u;unfold stepG ax;simp only [em]
  rw [e0];exact Ct H hK hs ha h hl (by rw [em];trivial)
end
def lu (g:Goroutine)(w:World):Machine:={ world:=w,gs:=#[g],rest:={ timers:=#[],alone:=none,slice:=none } }
theorem JD {P:Program}{g:Goroutine}{w:World}(h:g.status=.blocked):∃ o u,step P (lu g w)=.ended o u:=by
 obtain ⟨o,u,he,_⟩:=endWith_ended w 2 (bytes "fatal error: all goroutines are asleep - deadlock!\n") (.fatal "all goroutines are asleep - deadlock!")
 refine ⟨o,u,?_⟩
 simp [step,stepT,move,ask,askOn,lu,runnable_eq,due,ahead,Goroutine.canRun,h,List.range_succ,pure,he]
theorem JE {P:Program}{g:Goroutine}{w:World}(h:g.status=.waiting):step P (lu g w)=.next (lu g w):=by
 simp [step,stepT,move,ask,askOn,lu,runnable_eq,due,ahead,Goroutine.canRun,h,List.range_succ,pure]
theorem Cv {P:Program}{g:Goroutine}(h:g.status=.blocked∨g.status=.waiting){w:World}:∀ (n:Nat)(fr:Frame)(cs:List Frame)(v:World),runN P n (lu g w)≠.next (lone fr cs v):=by
 have hne:∀ fr cs v,lu g w≠lone fr cs v:=by
  intro fr cs v e
  have:g={ frame:=fr,callers:=cs,status:=.running,dying:=none }:=by
   have:=congrArg Machine.gs e
   simpa [lu,lone] using this
  rw [this] at h
  rcases h with h | h <;> cases h
 intro n
 induction n with
 | zero=>intro fr cs v e;simp only [runN,Stepped.next.injEq] at e;exact hne fr cs v e
 | succ n ih =>
  intro fr cs v e
  rcases h with h | h
  ·obtain ⟨o,u,hs⟩:=JD (P:=P) (w:=w) h
   simp only [runN,hs] at e
   cases e
  ·simp only [runN,JE h] at e
   exact ih fr cs v e
theorem qa {fr fr':Frame}{cs cs':List Frame}{v v':World}(h:lone fr cs v=lone fr' cs' v'):fr=fr'∧cs=cs'∧v=v':=by
 have h1:=congrArg Machine.world h
 have h2:=congrArg Machine.gs h
 simp [lone] at h1 h2
 exact ⟨h2.1,h2.2,h1⟩
theorem qX {P:Program}{fr:Frame}{cs:List Frame}{v w:World}{g:Goroutine}{es:Array Event}(h:stepG P true (ax fr cs) v=.go g w es):step P (lone fr cs v)=.next (lu g w):=by
 unfold ax at h
 rw [step,stepT,move_lone]
 simp [runT,lone,Array.swapAt!,h,lu]
theorem JF {P:Program}{g:Goroutine}{cs:Array CommCase}{sh:CommShape}{u:World}(hc:∀ c∈cs,∀ r,c.chan=.chan (some r)→∀ cap buf cl s t tm,u.heap[r]?≠some (.chan cap buf cl s t tm)) :
  (∃ o w,(communicate P { timers:=#[],alone:=none,slice:=none } #[{ (default:Goroutine) with status:=.finished }] 0 g cs true sh u).1=.ended o w) ∨
  ∃ g',g'.status=.blocked∧(communicate P { timers:=#[],alone:=none,slice:=none } #[{ (default:Goroutine) with status:=.finished }] 0 g cs true sh u).1=.next (lu g' u):=by
 unfold communicate
 dsimp only
 split
 ·exact .inl ⟨_,_,rfl⟩
 ·rename_i hi
  have fK:∀ c∈cs,ways u #[{ (default:Goroutine) with status:=.finished }] c=[]:=by
   intro c hm
   unfold ways
   cases hch:c.chan with
   | chan r =>
    cases r with
    | none=>rfl
    | some r =>
     have hn:=hc c hm r hch
     dsimp only
     cases ho:u.heap[r]? with
     | none=>cases c.send <;> rfl
     | some o =>
      cases o with
      | chan cap buf cl s t tm=>exact absurd ho (hn cap buf cl s t tm)
      | _=>cases c.send <;> rfl
   | _=>rfl
  have JG:((cs.zipIdx.toList.map fun (c,k)=>(k,c,ways u #[{ (default:Goroutine) with status:=.finished }] c)).filter fun (_,_,ws)=>!ws.isEmpty)=[]:=by
   rw [List.filter_eq_nil_iff]
   intro p hp
   simp only [List.mem_map] at hp
   obtain ⟨q,hq,rfl⟩:=hp
   have hq2:q.1∈cs:=by
    rw [Array.toList_zipIdx] at hq
    simpa using List.fst_mem_of_mem_zipIdx hq
   simp [fK q.1 hq2]
  rw [JG]
  simp only [List.isEmpty_nil,if_true]
  have JH:timerAhead { timers:=#[],alone:=none,slice:=none } u.os.mono cs=false:=by
   unfold timerAhead
   rw [Array.any_eq_false]
   intro i hi
   split <;> simp
  unfold waitingAt
  rw [JH]
  exact .inr ⟨{ g with status:=.blocked,offers:=some (cs,sh) },rfl,rfl⟩
theorem Cw {P:Program}{n:Nat}{fr fr':Frame}{cs cs':List Frame}{v v':World}(hk:uu (stepG P true (ax fr cs) v))(h:runN P n (lone fr cs v)=.next (lone fr' cs' v')) :
  (n=0∧fr=fr'∧cs=cs'∧v=v')∨∃ bI cs1 v1 es m,stepG P true (ax fr cs) v=.go (ax bI cs1) v1 es∧n=m+1∧runN P m (lone bI cs1 v1)=.next (lone fr' cs' v'):=by
 cases n with
 | zero =>
  simp only [runN,Stepped.next.injEq] at h
  obtain ⟨h1,h2,h3⟩:=qa h
  exact .inl ⟨rfl,h1,h2,h3⟩
 | succ m =>
  refine .inr ?_
  have hs:∀ s,stepG P true (ax fr cs) v=s→uu s→∃ bI cs1 v1 es m',s=.go (ax bI cs1) v1 es∧m+1=m' + 1∧runN P m' (lone bI cs1 v1)=.next (lone fr' cs' v'):=by
   intro s e hk
   cases s with
   | go g u es =>
    have h1:=qX e
    simp only [runN,h1] at h
    rcases hk with ⟨bI,cs1,rfl⟩ | hz
    ·exact ⟨bI,cs1,u,es,m,rfl,rfl,h⟩
    ·exact absurd h (Cv hz m _ _ _)
   | ended o u es =>
    have h1:step P (lone fr cs v)=.ended o u:=step_lone_ended (by unfold ax at e;rw [e];rfl)
    simp only [runN,h1] at h
    cases h
   | comm g y9 b sh u es =>
    obtain ⟨rfl,hc⟩:=hk
    exfalso
    unfold ax at e
    have h1:step P (lone fr cs v)=(communicate P { timers:=#[],alone:=none,slice:=none } #[{ (default:Goroutine) with status:=.finished }] 0 g y9 true sh u).1:=by
     rw [step,stepT,move_lone]
     simp [runT,lone,Array.swapAt!,e]
    rcases JF (P:=P) (g:=g) (sh:=sh) hc with ⟨o,w,h2⟩ | ⟨g',hg,h2⟩
    ·simp only [runN,h1,h2] at h
     cases h
    ·simp only [runN,h1,h2] at h
     exact Cv (.inl hg) m _ _ _ h
   | _=>cases hk
  exact hs _ rfl hk
def cB:Frame:={ fn:=0,tmps:=#[],todo:=[],defers:=[{ target:=.collected 0,args:=#[] }],mode:=.run,kind:=.normal }
section
variable {P:Program}{G:FuncId→Bool}{K:av}{below:List Frame}
theorem aY.zero {v w:World}(hs:aY P K v w):∀ ds,v.heap[0]?≠some (.deferred ds):=by
 intro ds z
 have b:=hs.base 0 ag
 by_cases ho:K.own 0
 ·obtain ⟨o,o',e1,e2,hr⟩:=hs.at_ ho b
  rw [e1] at z
  cases z
  cases hr
 ·rw [hs.off _ _ b ho] at z
  cases z
theorem JI {v:World}(h:∀ ds,v.heap[0]?≠some (.deferred ds)):∃ q,(Instr.takeDeferred 0).run P v=.halt q v:=by
 unfold Instr.takeDeferred
 simp only [Bind.bind,run_bind',Go.getObj,Sem.run]
 cases e:v.heap[0]? with
 | none=>exact ⟨_,rfl⟩
 | some o =>
  cases o with
  | deferred ds=>exact absurd e (h ds)
  | cells c e fz=>exact ⟨_,rfl⟩
  | _=>exact ⟨_,rfl⟩
theorem JJ {v:World}(h:∀ ds,v.heap[0]?≠some (.deferred ds)){m:FrameMode}(hm:match m with | .run=>False | _=>True):∃ o u es,stepG P true (ax { cB with mode:=m } []) v=.ended o u es:=by
 obtain ⟨q,hq⟩:=JI (P:=P) h
 obtain ⟨el,e1⟩:=jJ (P:=P) (s:=Instr.takeDeferred 0) (v:=v)
 rw [hq] at e1
 cases m with
 | run=>exact hm.elim
 | returning=>unfold stepG ax cB;dsimp only;unfold unwind;simp only [e1];exact ⟨_,_,_,rfl⟩
 | panicking ps=>unfold stepG ax cB;dsimp only;unfold unwind;simp only [e1];exact ⟨_,_,_,rfl⟩
theorem Cx {v:World}(h:∀ ds,v.heap[0]?≠some (.deferred ds)){m:FrameMode}(hm:match m with | .run=>False | _=>True)(n:Nat)(fr':Frame)(c:Frame)(v':World):runN P n (lone { cB with mode:=m } [] v)≠.next (lone fr' [c] v'):=by
 intro e
 cases n with
 | zero =>
  simp only [runN,Stepped.next.injEq] at e
  have:=(qa e).2.1
  cases this
 | succ n =>
  obtain ⟨o,u,es,hs⟩:=JJ (P:=P) h hm
  have h1:step P (lone { cB with mode:=m } [] v)=.ended o u:=step_lone_ended (by unfold ax at hs;rw [hs];rfl)
  simp only [runN,h1] at e
  cases e
theorem JK {v:World}(h:∀ ds,v.heap[0]?≠some (.deferred ds))(n:Nat)(fr':Frame)(c:Frame)(v':World):runN P n (lone cB [] v)≠.next (lone fr' [c] v'):=by
 intro e
 cases n with
 | zero =>
  simp only [runN,Stepped.next.injEq] at e
  have:=(qa e).2.1
  cases this
 | succ n =>
  have h1:step P (lone cB [] v)=.next (lone { cB with mode:=.returning } [] v):=qX (fr:=cB) (cs:=[]) (g:=ax { cB with mode:=.returning } []) (es:=#[]) rfl
  simp only [runN,h1] at e
  exact Cx h trivial n fr' c v' e
theorem Cy {v w:World}(hs:aY P K v w)(ha:Agree v w){fr fr':Frame}{cs cs':List Frame}(h:SK P G K [cB] below fr cs fr' cs')(hl:Leaves [cB] fr cs){n:Nat}{bI:Frame}{v1:World}(e:runN P n (lone fr cs v)=.next (lone bI [cB] v1)):n=0∧fr=bI∧v=v1:=by
 obtain ⟨rfl,hd,hm⟩:=hl
 have r:=h.top
 cases n with
 | zero =>
  simp only [runN,Stepped.next.injEq] at e
  obtain ⟨h1,_,h3⟩:=qa e
  exact ⟨rfl,h1,h3⟩
 | succ n =>
  exfalso
  have hk:fr.kind=.normal:=by
   cases h with
   | bottom _ _ _ k=>exact k
   | push _ _ c c' cs cs' _ rest=>cases rest
  obtain ⟨fn,hfn⟩:=r.there
  cases em:fr.mode with
  | run=>rw [em] at hm;exact hm
  | panicking ps =>
   have c1:fr.catches P=false:=by unfold Frame.catches;rw [hfn]
   have h1:stepG P true (ax fr [cB]) v=.go (ax { cB with mode:=.panicking ps } []) v:=by
    unfold stepG ax
    simp only [em]
    unfold unwind
    rw [hd]
    simp only [em,c1,Bool.false_eq_true,if_false]
    rfl
   have h2:=qX h1
   simp only [runN,h2] at e
   exact Cx hs.zero trivial n _ _ _ e
  | returning =>
   obtain ⟨hr,_⟩:=SR.results (P:=P) (fn:=fn) r.tmps v w #[] hs ha
   obtain ⟨el,e1⟩:=jJ (P:=P) (s:=results fn fr.tmps) (v:=v)
   cases hv:(results fn fr.tmps).run P v with
   | halt q u =>
    have h1:∃ o u' es,stepG P true (ax fr [cB]) v=.ended o u' es:=by
     unfold stepG ax
     simp only [em]
     unfold unwind
     rw [hd]
     simp only [em,hfn,e1,hv]
     cases q <;> exact ⟨_,_,_,rfl⟩
    obtain ⟨o,u',es,h1⟩:=h1
    have h2:step P (lone fr [cB] v)=.ended o u':=step_lone_ended (by unfold ax at h1;rw [h1];rfl)
    simp only [runN,h2] at e
    cases e
   | ok x u =>
    rw [hv] at hr
    obtain ⟨L,y,w1,new,e',Xx,ht⟩:=hr
    have h1:∃ es,stepG P true (ax fr [cB]) v=.go (ax cB []) u es:=by
     unfold stepG ax
     simp only [em]
     unfold unwind
     rw [hd]
     simp only [em,hfn,e1,hv]
     unfold doReturn
     simp only [hk]
     exact ⟨_,rfl⟩
    obtain ⟨es,h1⟩:=h1
    have h2:=qX h1
    simp only [runN,h2] at e
    exact JK ht.fH.zero n _ _ _ e
end
def has (M:Nat→Prop)(b:Nat):Prop:=M (2 * b)∨M (2 * b+1)
def full (M:Nat→Prop)(b:Nat):Prop:=M (2 * b)∧M (2 * b+1)
theorem full.has {M:Nat→Prop}{b:Nat}(h:full M b):has M b:=.inl h.1
theorem qY {M:Nat→Prop}{c:Nat}(h:M c):has M (c / 2):=by
 rcases Nat.mod_two_eq_zero_or_one c with e | e
 ·exact .inl (by rw [show 2 * (c / 2)=c by omega];exact h)
 ·exact .inr (by rw [show 2 * (c / 2)+1=c by omega];exact h)
theorem iQ {M:Nat→Prop}{b:Nat}(h:has M b):∃ c,c / 2=b∧M c:=h.elim (fun h=>⟨_,ag,h⟩) fun h=>⟨_,ag,h⟩
theorem oI {M:Nat→Prop}{b c:Nat}(h:full M b)(e:c / 2=b):M c:=by
 rcases Nat.mod_two_eq_zero_or_one c with z | z
 ·rw [show c=2 * b by omega];exact h.1
 ·rw [show c=2 * b+1 by omega];exact h.2
def ic (w:World):Os×Array (Nat×ByteArray):=(w.os,w.output)
theorem Cz {w w1:World}(h:w1.os=w.os)(k:w1.output=w.output):ic w1=ic w:=by unfold ic;rw [h,k]
structure ay (P:Program)(M:Nat→Prop)(w w1:World):Prop where
 size:w.heap.size≤w1.heap.size
 mine:∀ b,has M b→w1.heap[b]?=w.heap[b]?
 aX:(∀ g,g < P.globals.size→∃ c e fz,w.heap[g]?=some (.cells c e fz))→∀ g,g < P.globals.size→∃ c e fz,w1.heap[g]?=some (.cells c e fz)
 env:ic w1=ic w
def Mine (M:Nat→Prop)(e:Event):Prop :=
 match e.loc with
 | .cell a=>has M a.block∧(e.write=true→full M a.block)
 | .obj r=>full M r
 | .mark (.extern _)=>True
 | .mark .noRoom=>True
 | .output=>True
 | _=>False
structure dY (P:Program)(M M':Nat→Prop)(w w':World)(es:Array Event):Prop where
 size:w.heap.size≤w'.heap.size
 low:(∀ y,M y→y / 2 < w.heap.size)→∀ y,M' y→y / 2 < w'.heap.size
 aX:(∀ g,g < P.globals.size→∃ c e fz,w.heap[g]?=some (.cells c e fz))→∀ g,g < P.globals.size→∃ c e fz,w'.heap[g]?=some (.cells c e fz)
 still:∀ y,y < w.heap.size→¬ full M y→w'.heap[y]?=w.heap[y]?
 iff:∀ y,M' y↔M y∨(w.heap.size≤y / 2∧y / 2 < w'.heap.size)
 tape:w'.tape=w.tape
 os:w'.os=w.os
 output:w'.output=w.output
 drawn:w.drawn≤w'.drawn
 evs:∀ e∈es,Mine M' e
inductive aj (P:Program)(main:Bool)(Stop:(Nat→Prop)→Goroutine→World→Prop):(Nat→Prop)→Goroutine→World→Prop
 | stop {M:Nat→Prop} {g:Goroutine} {w:World}:(∀ w1,ay P M w w1→Stop M g w1)→aj P main Stop M g w
 | step {M:Nat→Prop} {g:Goroutine} {w:World} (N:World→Nat→Prop) (g':World→Goroutine) (w':World→World) (es:World→Array Event):g.status=.running→(∀ w1,ay P M w w1→stepG P main g w1=.go (g' w1) (w' w1) (es w1)) →
   (∀ w1,ay P M w w1→dY P M (N w1) w1 (w' w1) (es w1))→(∀ w1,ay P M w w1→aj P main Stop (N w1) (g' w1) (w' w1))→aj P main Stop M g w
theorem aj.next {P:Program}{main:Bool}{Stop:(Nat→Prop)→Goroutine→World→Prop}{M:Nat→Prop}{g:Goroutine}{w:World}(hg:g.status=.running)
  (h:∀ w1,ay P M w w1→∃ M' g' w' es,stepG P main g w1=.go g' w' es∧dY P M M' w1 w' es∧aj P main Stop M' g' w'):aj P main Stop M g w:=by
 have h':∀ w1,∃ M' g' w' es,ay P M w w1→stepG P main g w1=.go g' w' es∧dY P M M' w1 w' es∧aj P main Stop M' g' w':=by
  intro w1
  by_cases z:ay P M w w1
  ·obtain ⟨a,b,c,d,e⟩:=h w1 z;exact ⟨a,b,c,d,fun _=>e⟩
  ·exact ⟨M,g,w,#[],fun y=>absurd y z⟩
 refine .step (fun w1=>Classical.choose (h' w1)) (fun w1=>Classical.choose (Classical.choose_spec (h' w1))) (fun w1=>Classical.choose (Classical.choose_spec (Classical.choose_spec (h' w1)))) (fun w1=>Classical.choose (Classical.choose_spec (Classical.choose_spec (Classical.choose_spec (h' w1))))) hg ?_ ?_ ?_
 ·exact fun w1 z=>(Classical.choose_spec (Classical.choose_spec (Classical.choose_spec (Classical.choose_spec (h' w1)))) z).1
 ·exact fun w1 z=>(Classical.choose_spec (Classical.choose_spec (Classical.choose_spec (Classical.choose_spec (h' w1)))) z).2.1
 ·exact fun w1 z=>(Classical.choose_spec (Classical.choose_spec (Classical.choose_spec (Classical.choose_spec (h' w1)))) z).2.2
theorem ay.trans {P:Program}{M:Nat→Prop}{w w1 w2:World}(h:ay P M w w1)(k:ay P M w1 w2):ay P M w w2 :=
 ⟨Nat.le_trans h.size k.size,fun b hb=>(k.mine b hb).trans (h.mine b hb),fun z=>k.aX (h.aX z),k.env.trans h.env⟩
theorem ay.refl (P:Program)(M:Nat→Prop)(w:World):ay P M w w:=⟨Nat.le_refl _,fun _ _=>rfl,fun h=>h,rfl⟩
theorem aj.rely {P:Program}{main:Bool}{Stop:(Nat→Prop)→Goroutine→World→Prop}{M:Nat→Prop}{g:Goroutine}{w w1:World}(h:aj P main Stop M g w)(hr:ay P M w w1):aj P main Stop M g w1:=by
 cases h with
 | stop h=>exact .stop fun w2 h2=>h w2 (hr.trans h2)
 | step N g' w' es hg h1 h2 h3=>exact .step N g' w' es hg (fun w2 z=>h1 w2 (hr.trans z)) (fun w2 z=>h2 w2 (hr.trans z)) fun w2 z=>h3 w2 (hr.trans z)
theorem aj.then {P:Program}{main:Bool}{Stop Stop':(Nat→Prop)→Goroutine→World→Prop}{M:Nat→Prop}{g:Goroutine}{w:World}(h:aj P main Stop M g w)(k:∀ M g w,Stop M g w→aj P main Stop' M g w):aj P main Stop' M g w:=by
 induction h with
 | stop h =>
  rename_i M g w
  have h0:=k _ _ _ (h w (ay.refl P M w))
  exact h0
 | step N g' w' es hg h1 h2 h3 ih=>exact .step N g' w' es hg h1 h2 ih
theorem dY.idle (P:Program)(M:Nat→Prop)(w:World):dY P M M w w #[]:=⟨Nat.le_refl _,fun h=>h,fun h=>h,fun _ _ _=>rfl,fun y=>⟨.inl,fun z=>z.elim id fun z=>absurd z.2 (Nat.not_lt.2 z.1)⟩,rfl,rfl,rfl,Nat.le_refl _,fun e he=>by simp at he⟩
theorem aj.idle {P:Program}{main:Bool}{Stop:(Nat→Prop)→Goroutine→World→Prop}{M:Nat→Prop}{g g':Goroutine}{w:World}(hg:g.status=.running)(h:∀ w1,stepG P main g w1=.go g' w1 #[])(k:aj P main Stop M g' w):aj P main Stop M g w :=
 aj.next hg fun w1 hr=>⟨M,g',w1,#[],h w1,dY.idle P M w1,k.rely hr⟩
def av.mine (K:av)(y:Nat):Prop:=∃ x,K.own x∧K.b x (y / 2)
theorem av.qb {K:av}{x y:Nat}(h:K.own x)(k:K.b x y):full K.mine y:=⟨⟨x,h,by rw [show 2 * y / 2=y by omega];exact k⟩,⟨x,h,by rw [show (2 * y+1) / 2=y by omega];exact k⟩⟩
structure LS where
 fr:Frame
 cs:List Frame
 v:World
structure Nx (P:Program)(s t:LS):Prop where
 tape:∀ i,i < s.v.drawn→t.v.tape i=s.v.tape i
 drawn:s.v.drawn≤t.v.drawn
 stays:¬ Leaves [cB] s.fr s.cs
 goes:∀ τ,(∀ i,i < t.v.drawn→τ i=t.v.tape i)→∃ es,stepG P true (ax s.fr s.cs) (tp τ s.v)=.go (ax t.fr t.cs) (tp τ t.v) es
def wP (P:Program)(f:FuncId)(R:Ending→World→Prop)(s:LS):Prop :=
 ∀ τ,(∀ i,i < s.v.drawn→τ i=s.v.tape i)→∃ n e v' fr',runN P n (lone s.fr s.cs (tp τ s.v))=.next (lone fr' [cB] v')∧R e v'∧fr'.fn=f∧fr'.leaving P v' e∧e≠.outgrown
theorem CB {P:Program}{fr:Frame}{v:World}{e:Ending}(h:fr.leaving P v e)(he:e≠.outgrown):Leaves [cB] fr [cB]:=by
 cases e with
 | returned x=>exact ⟨rfl,h.2.1,by rw [h.1];trivial⟩
 | panicked ch=>exact ⟨rfl,h.2.1,by rw [h.1];trivial⟩
 | outgrown=>exact absurd rfl he
theorem JL {P:Program}{f:FuncId}{R:Ending→World→Prop}{s:LS}(h:wP P f R s):Acc (fun t s=>Nx P s t) s:=by
 refine Classical.byContradiction fun hn=>?_
 have next:∀ s:{ s:LS // ¬ Acc (fun t s=>Nx P s t) s },∃ t:{ s:LS // ¬ Acc (fun t s=>Nx P s t) s },Nx P s.1 t.1:=by
  intro s
  refine Classical.byContradiction fun hno=>s.2 (Acc.intro _ fun t ht=>?_)
  exact Classical.byContradiction fun hb=>hno ⟨⟨t,hb⟩,ht⟩
 let g:{ s:LS // ¬ Acc (fun t s=>Nx P s t) s }→{ s:LS // ¬ Acc (fun t s=>Nx P s t) s }:=fun s=>Classical.choose (next s)
 have hg:∀ s,Nx P s.1 (g s).1:=fun s=>Classical.choose_spec (next s)
 let q:Nat→{ s:LS // ¬ Acc (fun t s=>Nx P s t) s }:=fun n=>Nat.rec ⟨s,hn⟩ (fun _ x=>g x) n
 have hq:∀ n,Nx P (q n).1 (q (n+1)).1:=fun n=>hg (q n)
 have mono:∀ n m,n≤m→(q n).1.v.drawn≤(q m).1.v.drawn:=by
  intro n m hnm
  induction hnm with
  | refl=>exact Nat.le_refl _
  | step _ ih=>exact Nat.le_trans ih (hq _).drawn
 have agree:∀ n m,n≤m→∀ i,i < (q n).1.v.drawn→(q m).1.v.tape i=(q n).1.v.tape i:=by
  intro n m hnm
  induction hnm with
  | refl=>intro i _;rfl
  | step hk ih=>intro i hi;rw [(hq _).tape i (Nat.lt_of_lt_of_le hi (mono _ _ hk)),ih i hi]
 have hex:∀ i,∃ t:Question→Nat,∀ k,i < (q k).1.v.drawn→t=(q k).1.v.tape i:=by
  intro i
  by_cases hz:∃ k,i < (q k).1.v.drawn
  ·obtain ⟨k,hk⟩:=hz
   refine ⟨(q k).1.v.tape i,fun m hm=>?_⟩
   rcases Nat.le_total k m with z | z
   ·exact (agree _ _ z i hk).symm
   ·exact agree _ _ z i hm
  ·exact ⟨s.v.tape i,fun k hk=>absurd ⟨k,hk⟩ hz⟩
 let τ:Nat→Question→Nat:=fun i=>Classical.choose (hex i)
 have hτ:∀ k i,i < (q k).1.v.drawn→τ i=(q k).1.v.tape i:=fun k i hi=>Classical.choose_spec (hex i) k hi
 have run:∀ k,runN P k (lone s.fr s.cs (tp τ s.v))=.next (lone (q k).1.fr (q k).1.cs (tp τ (q k).1.v)):=by
  intro k
  induction k with
  | zero=>rfl
  | succ k ih =>
   rw [runN_add P k 1,ih]
   obtain ⟨es,he⟩:=(hq k).goes τ (hτ (k+1))
   have h1:=qX he
   simp only [runN,h1]
   rfl
 obtain ⟨n,e,v',fr',hr,_,_,hlv,ho⟩:=h τ (hτ 0)
 rw [run n] at hr
 simp only [Stepped.next.injEq] at hr
 obtain ⟨h1,h2,h3⟩:=qa hr
 refine (hq n).stays ?_
 rw [h1,h2]
 exact CB hlv ho
section
variable {P:Program}{G:FuncId→Bool}{below:List Frame}
def iR (v w:World):Nat→Question→Nat:=fun i=>if i < v.drawn then v.tape i else w.tape (w.drawn+(i - v.drawn))
theorem wQ (v w:World):Agree (tp (iR v w) v) w:=by
 intro i r
 show iR v w (v.drawn+i) r=_
 unfold iR
 rw [if_neg ag]
 congr 2
 omega
theorem mh (v w:World):∀ i,i < v.drawn→iR v w i=v.tape i:=fun i hi=>by unfold iR;rw [if_pos hi]
theorem aY.rely {K:av}{v w w1:World}(hs:aY P K v w)(h:ay P K.mine w w1):aY P K v w1:=by
 refine ⟨hs.gQ,fun x y hb=>⟨(hs.dom x y hb).1,Nat.lt_of_lt_of_le (hs.dom x y hb).2 h.size⟩,fun x hx=>?_,hs.off,hs.base,h.aX hs.aX,hs.env.trans (congrArg (fun o=>o.1.env) h.env).symm⟩
 obtain ⟨y,hb,o,o',e1,e2,hr⟩:=hs.mine x hx
 exact ⟨y,hb,o,o',e1,by rw [h.mine y (av.qb hx hb).has];exact e2,hr⟩
theorem Then.guar {K L:av}{v v' w w':World}{es:Array Event}(h:Then P K L v v' w w' es):dY P K.mine L.mine w w' es:=by
 refine ⟨h.eX.size,fun _ y ⟨x,_,hb⟩=>(h.fH.dom x _ hb).2,fun _=>h.fH.aX,fun y hy hn=>h.eX.still y hy fun x ho hb=>hn (av.qb ho hb),fun y=>⟨fun ⟨x,ho,hb⟩=>?_,fun z=>z.elim (fun ⟨x,ho,hb⟩=>⟨x,h.le.own x ho,h.le.b x _ hb⟩) fun z=>h.eX.all _ z.1 z.2⟩,h.eX.tape,h.eX.os,h.eX.output,h.eX.drawn,fun e he=>?_⟩
 ·rcases h.eX.fresh x _ hb with z | z
  ·exact .inl ⟨x,h.le.old x _ z ho,z⟩
  ·exact .inr ⟨z.2,(h.fH.dom x _ hb).2⟩
 ·have:=h.evs e he
  unfold qV at this
  unfold Mine
  generalize e.loc=l at this ⊢
  cases l with
  | mark m=>cases m <;> exact this
  | cell a=>obtain ⟨x,ho,hb⟩:=this;exact ⟨(av.qb ho hb).has,fun _=>av.qb ho hb⟩
  | obj r=>obtain ⟨x,ho,hb⟩:=this;exact av.qb ho hb
  | _=>exact this
def Ends (P:Program)(G:FuncId→Bool)(K:av)(below:List Frame)(f:FuncId)(R:Ending→World→Prop)(M:Nat→Prop)(g:Goroutine)(w:World):Prop :=
 ∃ L fr fr' v e,K.le L∧M=L.mine∧g=ax fr' below∧FR P G L fr fr'∧aY P L v w∧fr.kind=.normal∧R e v∧fr.fn=f∧fr.leaving P v e∧e≠.outgrown
theorem JM (H:Good P G){main:Bool}{K:av}{f:FuncId}{R:Ending→World→Prop}{s:LS}(ha:Acc (fun t s=>Nx P s t) s) :
  ∀ (L:av) (fr':Frame) (cs':List Frame) (w:World),K.le L→(∀ f,L.good f↔G f=true)→SK P G L [cB] below s.fr s.cs fr' cs'→aY P L s.v w→wP P f R s→aj P main (Ends P G K below f R) L.mine (ax fr' cs') w:=by
 induction ha with
 | intro s _ ih =>
  intro L fr' cs' w hle hgood hsk ku ky
  by_cases hl:Leaves [cB] s.fr s.cs
  ·refine .stop fun w1 hrel=>?_
   have hs1:aY P L (tp (iR s.v w1) s.v) w1:=(ku.rely hrel).tp
   have hag:=wQ s.v w1
   obtain ⟨n,e,v',bI,hr,hR,hfn,hlv,ho⟩:=ky _ (mh s.v w1)
   obtain ⟨_,rfl,hv⟩:=Cy hs1 hag hsk hl hr
   have hb:cs'=below∧s.fr.kind=.normal:=by
    have h0:=hl.1
    generalize s.cs=cs at hsk h0
    subst h0
    cases hsk with
    | bottom _ _ _ k=>exact ⟨rfl,k⟩
    | push _ _ c c' cs cs2 _ rest=>cases rest
   obtain ⟨rfl,hk⟩:=hb
   exact ⟨L,s.fr,fr',v',e,hle,rfl,rfl,hsk.top,hv ▸ hs1,hk,hR,hfn,hlv,ho⟩
  ·refine aj.next rfl fun w1 hrel=>?_
   have hs1:aY P L (tp (iR s.v w1) s.v) w1:=(ku.rely hrel).tp
   have hag:=wQ s.v w1
   have uw:=Cq (main:=main) H hgood hs1 hag hsk hl
   have hloc:=Cu H hgood hs1 hag hsk hl
   have first:∀ τ,(∀ i,i < s.v.drawn→τ i=s.v.tape i)→uu (stepG P true (ax s.fr s.cs) (tp τ s.v))→∃ bI cs1 v1 es n e v' aT,stepG P true (ax s.fr s.cs) (tp τ s.v)=.go (ax bI cs1) v1 es∧runN P n (lone bI cs1 v1)=.next (lone aT [cB] v')∧R e v'∧aT.fn=f∧aT.leaving P v' e∧e≠.outgrown:=by
    intro τ hτ hk
    obtain ⟨n,e,v',aT,hr,hR,hfn,hlv,ho⟩:=ky τ hτ
    rcases Cw hk hr with ⟨_,h1,h2,_⟩ | ⟨bI,cs1,v1,es,m,h1,_,h3⟩
    ·exact absurd (by rw [h1,h2];exact CB hlv ho) hl
    ·exact ⟨bI,cs1,v1,es,m,e,v',aT,h1,h3,hR,hfn,hlv,ho⟩
   obtain ⟨bI,cs1,v1,es,_,_,_,_,hst,_⟩:=first _ (mh s.v w1) uw.kinds
   obtain ⟨L2,oJ,oK,wR,wS,w',es',e1,e2,za,ht⟩:=uw.goes _ _ _ hst rfl
   have e3:bI=oJ∧cs1=oK:=by
    unfold ax at e1
    simp only [Goroutine.mk.injEq] at e1
    exact ⟨e1.1,e1.2.1⟩
   obtain ⟨rfl,rfl⟩:=e3
   have hd:s.v.drawn≤v1.drawn:=by
    have h1:=ht.eX.qU
    have h2:=ht.eX.drawn
    have h3:(tp (iR s.v w1) s.v).drawn=s.v.drawn:=rfl
    omega
   have qc:v1.tape=iR s.v w1:=ht.eX.qT
   have hgoes:∀ τ,(∀ i,i < v1.drawn→τ i=v1.tape i)→∃ es,stepG P true (ax s.fr s.cs) (tp τ s.v)=.go (ax bI cs1) (tp τ v1) es:=by
    intro τ hτ
    exact hloc _ _ _ hst rfl τ fun i hi=>by rw [hτ i hi,qc];rfl
   have hnx:Nx P s ⟨bI,cs1,v1⟩:=⟨fun i hi=>by rw [qc];exact mh s.v w1 i hi,hd,hl,hgoes⟩
   have zb:wP P f R ⟨bI,cs1,v1⟩:=by
    intro τ hτ
    have jK:∀ i,i < s.v.drawn→τ i=s.v.tape i:=fun i hi=>by rw [hτ i (Nat.lt_of_lt_of_le hi hd),qc];exact mh s.v w1 i hi
    obtain ⟨es2,h1⟩:=hgoes τ hτ
    obtain ⟨ze,zf,v4,Xy,n,e,v',aT,h2,h3,hR,hfn,hlv,ho⟩:=first τ jK (by rw [h1];exact .inl ⟨_,_,rfl⟩)
    rw [h1] at h2
    simp only [GStep.go.injEq] at h2
    obtain ⟨h4,h5,_⟩:=h2
    unfold ax at h4
    simp only [Goroutine.mk.injEq] at h4
    obtain ⟨rfl,rfl,_⟩:=h4
    subst h5
    exact ⟨n,e,v',aT,h3,hR,hfn,hlv,ho⟩
   exact ⟨L2.mine,ax wR wS,w',es',e2,ht.guar,ih ⟨bI,cs1,v1⟩ hnx L2 wR wS w' (hle.trans ht.le) (fun f=>(ht.le.good f).symm.trans (hgood f)) za ht.fH zb⟩
theorem carry (H:Good P G){main:Bool}{K:av}(hgood:∀ f,K.good f↔G f=true){f:FuncId}(hf:G f=true)(gI:∃ fn,P.funcs[f]?=some fn){xs ys:Array Value}(hx:AR K xs ys){v w:World}(hs:aY P K v w){R:Ending→World→Prop}
  (hR:∀ τ,Calls P f xs (tp τ v) R)(hno:∀ u,¬ R .outgrown u) :
  aj P main (Ends P G K below f R) K.mine (ax (Frame.enter P f ys .normal) below) w:=by
 have ky:wP P f R ⟨Frame.enter P f xs .normal,[cB],v⟩:=by
  intro τ _
  obtain ⟨e,u,fr,h1,h2,h3,h4⟩:=hR τ [cB]
  cases e with
  | outgrown=>exact absurd h1 (hno u)
  | returned x=>obtain ⟨n,hn⟩:=h2;exact ⟨n,_,u,fr,hn,h1,h3,h4,ah⟩
  | panicked ch=>obtain ⟨n,hn⟩:=h2;exact ⟨n,_,u,fr,hn,h1,h3,h4,ah⟩
 exact JM H (JL ky) K _ _ w (.refl K) hgood (.bottom _ _ (FR.enter hf H.body gI hx (.inl rfl)) rfl) hs ky
end
section
variable {P:Program}{K:av}
theorem SR.Ap {t:Extern.Atomic.T}{a a':Addr}(h:bA K a a'):SR P VR K (Extern.Atomic.read t a) (Extern.Atomic.read t a'):=by
 unfold Extern.Atomic.read
 refine SR.bind (SR.load .atomic h) fun L v v' hL r=>?_
 cases t with
 | int k =>
  cases r with
  | int k' n=>exact SR.ite (fun _=>SR.pure (.int k' n)) fun _=>SR.unsupported
  | ptr b b' hb=>cases k <;> first | exact SR.unsupported | exact SR.pure (.ptr b b' hb)
  | _=>cases k <;> exact SR.unsupported
 | ptr =>
  cases r with
  | ptr b b' hb=>exact SR.pure (.ptr b b' hb)
  | dU=>exact SR.pure .dU
  | _=>exact SR.unsupported
theorem SR.OL {t:Extern.Atomic.T}{a a':Addr}(h:bA K a a'):SR P (fun L x y=>(∃ k n,x=.int k n∧y=.int k n)∨(x=.pointer none∧y=.pointer none)∨∃ p p',x=.pointer (some p)∧y=.pointer (some p')∧bA L p p') K (Extern.Atomic.read t a) (Extern.Atomic.read t a'):=by
 unfold Extern.Atomic.read
 refine SR.bind (SR.load .atomic h) fun L v v' hL r=>?_
 cases t with
 | int k =>
  cases r with
  | int k' n=>exact SR.ite (fun _=>SR.pure (.inl ⟨k',n,rfl,rfl⟩)) fun _=>SR.unsupported
  | ptr b b' hb=>cases k <;> first | exact SR.unsupported | exact SR.pure (.inr (.inr ⟨b,b',rfl,rfl,hb⟩))
  | _=>cases k <;> exact SR.unsupported
 | ptr =>
  cases r with
  | ptr b b' hb=>exact SR.pure (.inr (.inr ⟨b,b',rfl,rfl,hb⟩))
  | dU=>exact SR.pure (.inr (.inl ⟨rfl,rfl⟩))
  | _=>exact SR.unsupported
theorem SR.FK {t:Extern.Atomic.T}{xs ys:Array Value}(h:AR K xs ys):SR P VR K (Extern.Atomic.loadT t xs) (Extern.Atomic.loadT t ys):=by
 obtain ⟨xs⟩:=xs
 obtain ⟨ys⟩:=ys
 have hsz:=h.size
 simp only [List.size_toArray] at hsz
 rcases xs with _ | ⟨x,_ | ⟨x2,xs⟩⟩
 ·exact SR.stuck
 ·rcases ys with _ | ⟨y,_ | ⟨y2,ys⟩⟩
  ·cases hsz
  ·exact SR.bind (SR.asAddr (h.at_ 0 x y rfl rfl)) fun L a b hL r=>SR.Ap r
  ·cases hsz
 ·exact SR.stuck
theorem OM (K:av):VR K Extern.Atomic.none_ Extern.Atomic.none_:=.tuple _ _ rfl fun i x y hx=>by simp at hx
theorem SR.FL {xs ys:Array Value}(h:AR K xs ys):SR P VR K (Extern.Atomic.storeT xs) (Extern.Atomic.storeT ys):=by
 obtain ⟨xs⟩:=xs
 obtain ⟨ys⟩:=ys
 have hsz:=h.size
 simp only [List.size_toArray] at hsz
 rcases xs with _ | ⟨x,_ | ⟨x2,_ | ⟨x3,xs⟩⟩⟩
 ·exact SR.stuck
 ·exact SR.stuck
 ·rcases ys with _ | ⟨y,_ | ⟨y2,_ | ⟨y3,ys⟩⟩⟩
  ·cases hsz
  ·cases hsz
  ·have h2:VR K x2 y2:=h.at_ 1 x2 y2 rfl rfl
   exact SR.bind (SR.asAddr (h.at_ 0 x y rfl rfl)) fun L a b hL r=>SR.bind (SR.store .atomic r (h2.mono hL)) fun M _ _ _ _=>SR.pure (OM M)
  ·cases hsz
 ·exact SR.stuck
theorem SR.FM {t:Extern.Atomic.T}{xs ys:Array Value}(h:AR K xs ys):SR P VR K (Extern.Atomic.swapT t xs) (Extern.Atomic.swapT t ys):=by
 obtain ⟨xs⟩:=xs
 obtain ⟨ys⟩:=ys
 have hsz:=h.size
 simp only [List.size_toArray] at hsz
 rcases xs with _ | ⟨x,_ | ⟨x2,_ | ⟨x3,xs⟩⟩⟩
 ·exact SR.stuck
 ·exact SR.stuck
 ·rcases ys with _ | ⟨y,_ | ⟨y2,_ | ⟨y3,ys⟩⟩⟩
  ·cases hsz
  ·cases hsz
  ·have h2:VR K x2 y2:=h.at_ 1 x2 y2 rfl rfl
   exact SR.bind (SR.asAddr (h.at_ 0 x y rfl rfl)) fun L a b hL r=>SR.bind (SR.Ap r) fun M u v hM ro =>
    SR.bind (SR.store .atomic (r.mono hM) ((h2.mono hL).mono hM)) fun N _ _ hN _=>SR.pure (ro.mono hN)
  ·cases hsz
 ·exact SR.stuck
theorem SR.FN {op:BinOp}{k:IntKind}{nw:Bool}{xs ys:Array Value}(h:AR K xs ys):SR P VR K (Extern.Atomic.update (Op.intArith op) k nw xs) (Extern.Atomic.update (Op.intArith op) k nw ys):=by
 obtain ⟨xs⟩:=xs
 obtain ⟨ys⟩:=ys
 have hsz:=h.size
 simp only [List.size_toArray] at hsz
 rcases xs with _ | ⟨x,_ | ⟨x2,_ | ⟨x3,xs⟩⟩⟩
 ·exact SR.stuck
 ·exact SR.stuck
 ·rcases ys with _ | ⟨y,_ | ⟨y2,_ | ⟨y3,ys⟩⟩⟩
  ·cases hsz
  ·cases hsz
  ·have h2:VR K x2 y2:=h.at_ 1 x2 y2 rfl rfl
   refine SR.bind (SR.asAddr (h.at_ 0 x y rfl rfl)) fun L a b hL r=>SR.bind (SR.Ap r) fun M u v hM ro=>?_
   refine SR.bind (SR.asInt ro) fun N p q hN e=>?_
   subst e
   refine SR.bind (SR.asInt (((h2.mono hL).mono hM).mono hN)) fun N2 p2 q2 jQ e=>?_
   subst e
   refine SR.bind SR.intArith fun N3 n n' FO rn=>?_
   refine SR.bind (SR.store .atomic ((((r.mono hM).mono hN).mono jQ).mono FO) rn) fun N4 _ _ FP _=>?_
   cases nw with
   | true=>exact SR.pure (rn.mono FP)
   | false=>exact SR.pure ((((ro.mono hN).mono jQ).mono FO).mono FP)
  ·cases hsz
 ·exact SR.stuck
theorem OO {v w:World}(hs:aY P K v w){a a':Addr}(h:bA K a a')(ho:¬ K.own a.block):∃ q,(Go.load a .atomic).run P v=.halt q v∧iP q=true:=by
 have h1:=hs.off _ _ h.block ho
 have hc:v.cell? a=none:=by simp [World.cell?,h1,fB]
 obtain ⟨q,e1,e2⟩:=uk (P:=P) (v:=v) (a:=a) (m:=(Mode.atomic == .atomic)) (fun x t z=>by rw [h1] at z;cases z <;> rfl) (fun x t z=>by rw [h1] at z;cases z)
 exact ⟨q,by simp only [Go.load,Sem.run,hc,e1],e2⟩
theorem OP {f:Nat→Addr}{v:World}:∀ l:List Nat,∃ b,(l.anyM fun i=>Go.frozen (f i)).run P v=.ok b v:=by
 intro l
 induction l with
 | nil=>exact ⟨false,rfl⟩
 | cons x l ih =>
  obtain ⟨b,hb⟩:=ih
  simp only [List.anyM,Bind.bind,run_bind',Go.frozen,Sem.run]
  cases v.frozen? (f x) with
  | true=>exact ⟨true,rfl⟩
  | false=>exact ⟨b,hb⟩
theorem OQ {v w:World}(hs:aY P K v w){a a':Addr}(h:bA K a a')(ho:¬ K.own a.block):(∃ b,(Extern.Atomic.touchesFrozen a).run P v=.ok b v)∨∃ q,(Extern.Atomic.touchesFrozen a).run P v=.halt q v∧iP q=true:=by
 have h1:=hs.off _ _ h.block ho
 have hv:(Go.viewAt a.block).run P v=.ok (some (⟨0,0,some 0⟩,0)) v:=by
  simp [Go.viewAt,Go.shape,Go.getObj,Bind.bind,Pure.pure,Sem.bind,Sem.run,World.shape?,h1,fB]
 unfold Extern.Atomic.touchesFrozen
 simp only [Bind.bind,run_bind',hv]
 cases hi:P.info? 0 with
 | none=>exact .inr ⟨.stuck "no such type",by simp [Go.typeInfo,Go.program,Bind.bind,Sem.bind,Sem.run,hi,Go.stuck],rfl⟩
 | some i =>
  have ht:(Go.typeInfo 0).run P v=.ok i v:=by simp [Go.typeInfo,Go.program,Bind.bind,Pure.pure,Sem.bind,Sem.run,hi]
  simp only [ht]
  by_cases hn:i.bytes > 4096
  ·rw [if_pos hn]
   exact .inr ⟨_,rfl,rfl⟩
  ·rw [if_neg hn]
   exact .inl (OP _)
theorem SR.touches {a a':Addr}(r:bA K a a')(ho:K.own a.block):SR P (fun _ x y=>x=y) K (Extern.Atomic.touchesFrozen a) (Extern.Atomic.touchesFrozen a'):=by
 unfold Extern.Atomic.touchesFrozen
 refine SR.viewAt r ?_ fun z=>absurd ho z
 show SR P _ K (Go.frozen a >>= Pure.pure) (Go.frozen a' >>= Pure.pure)
 exact SR.frozen r (fun _ s=>SR.pure rfl) fun z=>absurd ho z
theorem SR.FQ {t:Extern.Atomic.T}{xs ys:Array Value}(h:AR K xs ys):SR P VR K (Extern.Atomic.casT t xs) (Extern.Atomic.casT t ys):=by
 obtain ⟨xs⟩:=xs
 obtain ⟨ys⟩:=ys
 have hsz:=h.size
 simp only [List.size_toArray] at hsz
 rcases xs with _ | ⟨x,_ | ⟨x2,_ | ⟨x3,_ | ⟨x4,xs⟩⟩⟩⟩
 ·exact SR.stuck
 ·exact SR.stuck
 ·exact SR.stuck
 ·rcases ys with _ | ⟨y,_ | ⟨y2,_ | ⟨y3,_ | ⟨y4,ys⟩⟩⟩⟩
  ·cases hsz
  ·cases hsz
  ·cases hsz
  ·have h2:VR K x2 y2:=h.at_ 1 x2 y2 rfl rfl
   have h3:VR K x3 y3:=h.at_ 2 x3 y3 rfl rfl
   refine SR.bind (SR.asAddr (h.at_ 0 x y rfl rfl)) fun L a b hL r=>?_
   by_cases ho:L.own a.block
   ·refine SR.bind (SR.touches r ho) fun M s s' hM e=>?_
    subst e
    cases s with
    | true=>exact SR.unsupported
    | false =>
     refine SR.bind (SR.OL (r.mono hM)) fun N u v hN ru=>?_
     have h2':=((h2.mono hL).mono hM).mono hN
     have h3':=((h3.mono hL).mono hM).mono hN
     have r':=(r.mono hM).mono hN
     have fin:∀ (N2:av) (q:Bool),N.le N2→SR P VR N2 (if q=true then (Go.store a x3 .atomic >>= fun _=>Pure.pure (Value.bool q)) else Pure.pure (Value.bool q)) (if q=true then (Go.store b y3 .atomic >>= fun _=>Pure.pure (Value.bool q)) else Pure.pure (Value.bool q)):=by
      intro N2 q jQ
      cases q with
      | true=>exact SR.bind (SR.store .atomic (r'.mono jQ) (h3'.mono jQ)) fun _ _ _ _ _=>SR.pure (.bool true)
      | false=>exact SR.pure (.bool false)
     rcases ru with ⟨k',n,rfl,rfl⟩ | ⟨rfl,rfl⟩ | ⟨p,p',rfl,rfl,hp⟩
     ·cases h2' with
      | int k2 m=>exact fin N _ (.refl N)
      | ptr c c' hc =>
       cases t with
       | int k =>
        by_cases hz:n=0
        ·subst hz;exact fin N false (.refl N)
        ·rcases n with (_ | n) | n
         ·exact absurd rfl hz
         ·exact SR.unsupported
         ·exact SR.unsupported
       | ptr=>rcases n with (_ | n) | n <;> exact SR.stuck
      | _=>cases t <;> exact SR.stuck
     ·cases h2' with
      | ptr c c' hc =>
       cases t with
       | int k=>exact SR.unsupported
       | ptr=>exact SR.bind (SR.samePointer .dU (.ptr c c' hc)) fun N2 q q' jQ e=>by subst e;exact fin N2 q jQ
      | dU =>
       cases t with
       | int k=>exact SR.stuck
       | ptr=>exact SR.bind (SR.samePointer .dU .dU) fun N2 q q' jQ e=>by subst e;exact fin N2 q jQ
      | _=>cases t <;> exact SR.stuck
     ·cases h2' with
      | int k2 m =>
       cases t with
       | int k =>
        by_cases hz:m=0
        ·subst hz;exact fin N false (.refl N)
        ·rcases m with (_ | m) | m
         ·exact absurd rfl hz
         ·exact SR.unsupported
         ·exact SR.unsupported
       | ptr=>rcases m with (_ | m) | m <;> exact SR.stuck
      | ptr c c' hc =>
       cases t with
       | int k=>exact SR.unsupported
       | ptr=>exact SR.bind (SR.samePointer (.ptr p p' hp) (.ptr c c' hc)) fun N2 q q' jQ e=>by subst e;exact fin N2 q jQ
      | dU =>
       cases t with
       | int k=>exact SR.unsupported
       | ptr=>exact SR.bind (SR.samePointer (.ptr p p' hp) .dU) fun N2 q q' jQ e=>by subst e;exact fin N2 q jQ
      | _=>cases t <;> first | exact SR.stuck | exact SR.unsupported
   ·refine SR.dead fun v w hs=>?_
    obtain ⟨q,hq,tq⟩:=OO (P:=P) hs r ho
    rcases OQ (P:=P) hs r ho with ⟨s,hs'⟩ | ⟨q',hq',OT⟩
    ·simp only [Bind.bind,run_bind',hs']
     cases s with
     | true=>exact ⟨_,_,rfl,rfl⟩
     | false=>exact ⟨q,v,by simp [Extern.Atomic.read,Bind.bind,run_bind',hq],tq⟩
    ·exact ⟨q',v,by simp only [Bind.bind,run_bind',hq'],OT⟩
  ·cases hsz
 ·exact SR.stuck
theorem SR.mK {f:FuncId}{fn:Func}{e:Array Value→Sem Value}(hf:P.funcs[f]?=some fn)(hn:(fn.name == "runtime.NumGoroutine")=false)(hb:fn.body=none)(h1:Extern.findNext fn=none)(h2:Extern.find fn=some e)
  (he:∀ (K:av)(xs ys:Array Value),AR K xs ys→SR P VR K (e xs) (e ys)){xs ys:Array Value}(h:AR K xs ys):SR P (NR P) K (Go.callFunc f xs) (Go.callFunc f ys):=by
 unfold Go.callFunc
 refine SR.iF ?_
 rw [hf]
 simp only [hn,Bool.false_eq_true,if_false,hb,Option.isNone_none,if_true,h1,h2]
 exact SR.bind (SR.Jc f) fun L _ _ hL _=>SR.bind (he L xs ys (h.mono hL)) fun M x y _ r=>SR.pure (.value x y r)
end
end Go.Blind
namespace Go.Blind
open Go.Conc
def dI (b:Nat):Go.Loc→Prop
 | .cell a=>a.block=b
 | .obj r=>r=b
 | _=>False
structure iT (T:Trace)(own:Nat→Nat→Prop)(B:Nat):Prop where
 clean:∀ said,¬ Race said T
 apart:∀ i j b,own i b→own j b→i=j
 low:∀ i b,own i b→b / 2 < B
 known:∀ k a b,touchAt T k=some a→dI b a.loc→(∃ h,h / 2=b∧∀ i,own i h→Knows T i k)∧(a.write=true→∀ i h,h / 2=b→own i h→Knows T i k)
 seen:∀ op∈T,op.act.low B
theorem iT.all {T:Trace}{own:Nat→Nat→Prop}{B:Nat}(H:iT T own B){i b k:Nat}{a:Touch}(hf:full (own i) b)(ha:touchAt T k=some a)(hl:dI b a.loc):Knows T i k:=by
 obtain ⟨⟨h,e,q⟩,_⟩:=H.known k a b ha hl
 exact q i (oI hf e)
theorem JN {M:Nat→Prop}{B:Nat}{e:Event}(h:Mine M e)(hM:∀ b,M b→b / 2 < B):(MemAct.ofEvent e).low B:=by
 have hM':∀ b,has M b→b < B:=fun b hb=>by obtain ⟨c,e,q⟩:=iQ hb;rw [← e];exact hM c q
 obtain ⟨loc,wr,sy⟩:=e
 unfold Mine at h
 cases loc with
 | cell a=>exact hM' _ h.1
 | obj r =>
  have hr:=hM' _ (full.has h)
  cases wr <;> cases sy <;> exact hr
 | output=>trivial
 | goroutines=>exact h.elim
 | mark m=>cases m <;> first | trivial | exact h.elim
theorem zg {M:Nat→Prop}{e:Event}(h:Mine M e){x:Touch}(hx:(MemAct.ofEvent e).touch?=some x)(hm:x.loc.isMemory=true):∃ b,has M b∧(x.write=true→full M b)∧dI b x.loc:=by
 obtain ⟨loc,wr,sy⟩:=e
 unfold Mine at h
 cases loc with
 | cell a=>cases hx;exact ⟨a.block,h.1,h.2,rfl⟩
 | obj r=>cases wr <;> cases sy <;> cases hx <;> exact ⟨r,full.has h,fun _=>h,rfl⟩
 | output=>cases hx;cases hm
 | goroutines=>exact h.elim
 | mark m=>cases m <;> first | exact h.elim | cases hx
theorem CE {M:Nat→Prop}{e:Event}(h:Mine M e):e.loc≠.mark .disable∧e.loc≠.mark .enable:=by
 unfold Mine at h
 constructor <;> (intro z;rw [z] at h;exact h)
theorem CF {b:Nat}{x y:Touch}{said:Bool}(h:x.conflicts said y)(hy:dI b y.loc):dI b x.loc:=by rw [h.1];exact hy
theorem CG {T:Trace}{B b k:Nat}{a:Touch}(hs:∀ op∈T,op.act.low B)(hk:touchAt T k=some a)(hb:dI b a.loc):b < B:=by
 obtain ⟨op,hop,hox⟩:=touch_of hk
 have hl:=hs op (Array.mem_of_getElem? hop)
 cases ha:op.act with
 | access e =>
  rw [ha] at hl hox
  cases hox
  cases he:e.loc with
  | cell x=>simp only [he,dI] at hb;subst hb;simpa [MemAct.low,Go.Loc.low,he] using hl
  | obj r=>simp only [he,dI] at hb;subst hb;simpa [MemAct.low,Go.Loc.low,he] using hl
  | _=>simp only [he,dI] at hb
 | mark m =>
  rw [ha] at hl hox
  cases m <;> first | (cases hox;done) | (cases hox;simp only [dI] at hb;subst hb;exact hl)
 | _=>rw [ha] at hox;cases hox
theorem iT.step {T:Trace}{own:Nat→Nat→Prop}{B B':Nat}(H:iT T own B){i:Nat}{fn:FuncId}{pos:String}{es:Array Event}{M':Nat→Prop}(hB:B≤B')(hM:∀ b,M' b→own i b∨B≤b / 2)(hlow:∀ b,M' b→b / 2 < B')(hes:∀ e∈es,Mine M' e) :
  iT (T ++ MemOp.ofEvents i fn pos es) (fun j b=>(j=i∧M' b)∨(j≠i∧own j b)) B':=by
 have hg:∀ op∈MemOp.ofEvents i fn pos es,op.g=i:=fun op hop=>by obtain ⟨e,_,rfl⟩:=Go.Conc.mem_ofEvents hop;rfl
 have hold:∀ c,M' c→∀ k a,touchAt T k=some a→dI (c / 2) a.loc→own i c:=by
  intro c hc k a ha hl
  rcases hM c hc with z | z
  ·exact z
  ·have:=CG H.seen ha hl;omega
 refine ⟨fun said=>noRace_append (H.clean said) hg fun k a ha op hop b hb hc=>?_,?_,?_,?_,?_⟩
 ·obtain ⟨e,he,rfl⟩:=Go.Conc.mem_ofEvents hop
  have hmem:b.loc.isMemory=true:=by rw [← hc.1];exact hc.2.1
  obtain ⟨c,hc1,hc2,hc3⟩:=zg (hes e he) hb hmem
  have hl:=CF hc hc3
  rcases hc.2.2.1 with z | z
  ·obtain ⟨h,e1,q⟩:=iQ hc1
   exact (H.known k a c ha hl).2 z i h e1 (hold h q k a ha (by rw [e1];exact hl))
  ·have hf:=hc2 z
   exact H.all ⟨hold _ hf.1 k a ha (by rw [show 2 * c / 2=c by omega];exact hl),hold _ hf.2 k a ha (by rw [show (2 * c+1) / 2=c by omega];exact hl)⟩ ha hl
 ·rintro j k b (⟨rfl,hj⟩ | ⟨hj,hj2⟩) (⟨rfl,hk⟩ | ⟨hk,hk2⟩)
  ·rfl
  ·rcases hM b hj with z | z
   ·exact H.apart _ _ b z hk2
   ·have:=H.low k b hk2;omega
  ·rcases hM b hk with z | z
   ·exact H.apart _ _ b hj2 z
   ·have:=H.low j b hj2;omega
  ·exact H.apart _ _ b hj2 hk2
 ·rintro j b (⟨rfl,hj⟩ | ⟨_,hj⟩)
  ·exact hlow b hj
  ·exact Nat.lt_of_lt_of_le (H.low j b hj) hB
 ·intro k a b ha hl
  obtain ⟨x,hx,hxa⟩:=touch_of ha
  rcases getElem?_append_cases hx with ⟨hi,hx'⟩ | ⟨_,hxu⟩
  ·have hak:touchAt T k=some a:=by rw [touchAt_of hx'];exact hxa
   obtain ⟨⟨h,e,q⟩,q2⟩:=H.known k a b hak hl
   have old:∀ j c,c / 2=b→((j=i∧M' c)∨(j≠i∧own j c))→own j c:=by
    rintro j c e1 (⟨rfl,hj⟩ | ⟨_,hj⟩)
    ·exact hold c hj k a hak (by rw [e1];exact hl)
    ·exact hj
   exact ⟨⟨h,e,fun j hj=>(q j (old j h e hj)).app _⟩,fun hw j c e1 hj=>(q2 hw j c e1 (old j c e1 hj)).app _⟩
  ·have hxg:=hg x hxu
   obtain ⟨e,he,rfl⟩:=Go.Conc.mem_ofEvents hxu
   have hmem:a.loc.isMemory=true:=by
    cases hz:a.loc <;> rw [hz] at hl <;> first | rfl | exact hl.elim
   obtain ⟨c,hc1,hc2,hc3⟩:=zg (hes e he) hxa hmem
   have hcb:c=b:=by
    cases hz:a.loc <;> rw [hz] at hl hc3 <;> first | exact hl.elim | exact hc3.symm.trans hl
   subst hcb
   have mine:∀ j h,M' h→((j=i∧M' h)∨(j≠i∧own j h))→Knows (T ++ MemOp.ofEvents i fn pos es) j k:=by
    rintro j h hM1 (⟨rfl,_⟩ | ⟨hne,hj⟩)
    ·have:=knows_own hx;rw [hxg] at this;exact this
    ·exfalso
     rcases hM h hM1 with z | z
     ·exact hne (H.apart _ _ h hj z)
     ·have:=H.low j h hj;omega
   obtain ⟨h,e1,q⟩:=iQ hc1
   exact ⟨⟨h,e1,fun j hj=>mine j h q hj⟩,fun hw j h' e2 hj=>mine j h' (oI (hc2 hw) e2) hj⟩
 ·intro op hop
  rcases Array.mem_append.1 hop with z | z
  ·exact MemAct.low_mono hB (H.seen op z)
  ·obtain ⟨e,he,rfl⟩:=Go.Conc.mem_ofEvents z
   exact JN (hes e he) hlow
end Go.Blind

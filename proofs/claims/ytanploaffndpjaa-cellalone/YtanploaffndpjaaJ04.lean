/- Of the proof. -/
import Derived.Test.YtanploaffndpjaaJ03
import Derived.Conc.TokenTrace
import Derived.Conc.Token
import Derived.Conc.CrowdSel
namespace Go.Blind
open Go.Conc
theorem iT.mute {T u:Trace}{own own':Nat→Nat→Prop}{B:Nat}(H:iT T own B)(hn:∀ op∈u,op.act.touch?=none)(hl:∀ op∈u,op.act.low B)
  (hap:∀ i j b,own' i b→own' j b→i=j)(hown:∀ i b,own' i b→∃ j,own j b∧∀ k,Knows T j k→Knows (T ++ u) i k):iT (T ++ u) own' B:=by
 refine ⟨fun said=>noRace_appendMute (H.clean said) hn,hap,fun i b hb=>?_,fun k a b ha hl=>?_,fun op hop=>(Array.mem_append.1 hop).elim (H.seen op) (hl op)⟩
 ·obtain ⟨j,hj,_⟩:=hown i b hb
  exact H.low j b hj
 ·obtain ⟨x,hx,hxa⟩:=touch_of ha
  rcases getElem?_append_cases hx with ⟨_,hx'⟩ | ⟨_,hxu⟩
  ·obtain ⟨⟨h,e,q⟩,q2⟩:=H.known k a b (by rw [touchAt_of hx'];exact hxa) hl
   refine ⟨⟨h,e,fun i hi=>?_⟩,fun hw i h' e' hi=>?_⟩
   ·obtain ⟨j,hj,hk⟩:=hown i h hi
    exact hk k (q j hj)
   ·obtain ⟨j,hj,hk⟩:=hown i h' hi
    exact hk k (q2 hw j h' e' hj)
  ·rw [hn x hxu] at hxa;cases hxa
theorem JO {T:Trace}{h j:Nat}(hh:Deaf T h=0)(hj:Deaf T j=0)(fh:FuncId)(ph:String)(fj:FuncId)(pj:String)(c k:Nat) :
  (∀ i,Knows T h i→Knows (T ++ met h j fh ph fj pj c k 0) j i)∧∀ i,Knows T j i→Knows (T ++ met h j fh ph fj pj c k 0) h i:=by
 have hq:=met_quiet h j fh ph fj pj c k 0
 have e0:(T ++ met h j fh ph fj pj c k 0)[T.size]?=some { g:=h,fn:=fh,pos:=ph,act:=.send c k }:=by simp [met]
 have e1:(T ++ met h j fh ph fj pj c k 0)[T.size+1]?=some { g:=j,fn:=fj,pos:=pj,act:=.recv c k 0 }:=by simp [met]
 have e2:(T ++ met h j fh ph fj pj c k 0)[T.size+2]?=some { g:=h,fn:=fh,pos:=ph,act:=.sendDone c (k+0) }:=by simp [met]
 have e3:(T ++ met h j fh ph fj pj c k 0)[T.size+3]?=some { g:=j,fn:=fj,pos:=pj,act:=.recvDone c k }:=by simp [met]
 have dh:∀ n,n≤4→(T ++ met h j fh ph fj pj c k 0).deaf h (T.size+n)=0:=fun n hn=>(deaf_quiet (hq h) n (by simp [met];exact hn)).trans hh
 have dj:∀ n,n≤4→(T ++ met h j fh ph fj pj c k 0).deaf j (T.size+n)=0:=fun n hn=>(deaf_quiet (hq j) n (by simp [met];exact hn)).trans hj
 have JP:HappensBefore (T ++ met h j fh ph fj pj c k 0) T.size (T.size+3) :=
  Relation.TransGen.single (.inr ⟨.handOver (act?_of e0) (act?_of e3),⟨h,g?_of e0,dh 0 ag⟩,⟨j,g?_of e3,dj 3 ag⟩⟩)
 have JQ:HappensBefore (T ++ met h j fh ph fj pj c k 0) (T.size+1) (T.size+2) :=
  Relation.TransGen.single (.inr ⟨.room (act?_of e1) (act?_of e2),⟨j,g?_of e1,dj 1 ag⟩,⟨h,g?_of e2,dh 2 ag⟩⟩)
 exact ⟨fun i hi=>⟨T.size+3,_,e3,rfl,.inr ((hi.hb_new (Nat.le_refl _) e0 rfl).trans JP)⟩,fun i hi=>⟨T.size+2,_,e2,rfl,.inr ((hi.hb_new (Nat.le_succ _) e1 rfl).trans JQ)⟩⟩
theorem iT.meet {T:Trace}{own own':Nat→Nat→Prop}{B:Nat}(H:iT T own B){h j:Nat}(hh:Deaf T h=0)(hj:Deaf T j=0)(fh:FuncId)(ph:String)(fj:FuncId)(pj:String){c:Nat}(k:Nat)(hc:c < B)
  (hap:∀ i l b,own' i b→own' l b→i=l)(h1:∀ i b,i≠h→i≠j→own' i b→own i b)(h2:∀ b,own' h b→own h b∨own j b)(h3:∀ b,own' j b→own h b∨own j b) :
  iT (T ++ met h j fh ph fj pj c k 0) own' B:=by
 obtain ⟨m1,m2⟩:=JO hh hj fh ph fj pj c k
 refine H.mute (met_mute h j fh ph fj pj c k 0) (fun op hop=>?_) hap fun i b hb=>?_
 ·simp only [met,List.mem_toArray,List.mem_cons,List.not_mem_nil,or_false] at hop
  rcases hop with rfl | rfl | rfl | rfl <;> exact hc
 ·by_cases e1:i=h
  ·subst e1
   rcases h2 b hb with z | z
   ·exact ⟨_,z,fun k hk=>hk.app _⟩
   ·exact ⟨j,z,m2⟩
  ·by_cases e2:i=j
   ·subst e2
    rcases h3 b hb with z | z
    ·exact ⟨h,z,m1⟩
    ·exact ⟨_,z,fun k hk=>hk.app _⟩
   ·exact ⟨i,h1 i b e1 e2 hb,fun k hk=>hk.app _⟩
theorem iT.hire {T:Trace}{own own':Nat→Nat→Prop}{B:Nat}(H:iT T own B){h c:Nat}(hh:Deaf T h=0)(hc:Deaf T c=0)(fh:FuncId)(ph:String)(fc:FuncId)
  (hap:∀ i l b,own' i b→own' l b→i=l)(h1:∀ i b,i≠c→own' i b→own i b)(h2:∀ b,own' c b→own h b) :
  iT (T ++ #[{ g:=h,fn:=fh,pos:=ph,act:=.go c },{ g:=c,fn:=fc,pos:=ph,act:=.start }]) own' B:=by
 generalize hu:(#[{ g:=h,fn:=fh,pos:=ph,act:=.go c },{ g:=c,fn:=fc,pos:=ph,act:=.start }]:Trace)=u
 have hn:∀ op∈u,op.act.touch?=none:=by
  intro op hop
  subst hu
  simp only [List.mem_toArray,List.mem_cons,List.not_mem_nil,or_false] at hop
  rcases hop with rfl | rfl <;> rfl
 have hq:∀ g,∀ op∈u,∀ d,deafStep g d op=d:=by
  intro g op hop d
  subst hu
  simp only [List.mem_toArray,List.mem_cons,List.not_mem_nil,or_false] at hop
  rcases hop with rfl | rfl <;> rfl
 have e0:(T ++ u)[T.size]?=some { g:=h,fn:=fh,pos:=ph,act:=.go c }:=by subst hu;simp
 have e1:(T ++ u)[T.size+1]?=some { g:=c,fn:=fc,pos:=ph,act:=.start }:=by subst hu;simp
 have edge:HappensBefore (T ++ u) T.size (T.size+1) :=
  Relation.TransGen.single (.inr ⟨.spawn (act?_of e0) (act?_of e1) (g?_of e1),⟨h,g?_of e0,by rw [deaf_old (Nat.le_refl _)];exact hh⟩,⟨c,g?_of e1,by rw [deaf_quiet (hq c) 1 (by subst hu;simp)];exact hc⟩⟩)
 refine H.mute hn (fun op hop=>?_) hap fun i b hb=>?_
 ·subst hu
  simp only [List.mem_toArray,List.mem_cons,List.not_mem_nil,or_false] at hop
  rcases hop with rfl | rfl <;> trivial
 ·by_cases e:i=c
  ·subst e
   exact ⟨h,h2 b hb,fun k hk=>⟨T.size+1,_,e1,rfl,.inr ((hk.hb_new (Nat.le_refl _) e0 rfl).trans edge)⟩⟩
  ·exact ⟨i,h1 i b e hb,fun k hk=>hk.app u⟩
section product
variable {S:Type}(sub:Nat→S→S→Prop)
def under (i:Nat)(y x:S):Prop:=∀ z,sub i z y→sub i z x
def nE (n:Nat)(s' s:Nat→S):Prop:=∃ i,i < n∧sub i (s' i) (s i)∧∀ j,j < n→j≠i→under sub j (s' j) (s j)
theorem qZ (i:Nat)(x:S):under sub i x x:=fun _ h=>h
theorem uy {i:Nat}{x y z:S}(h:under sub i x y)(k:under sub i y z):under sub i x z:=fun _ a=>k _ (h _ a)
theorem CJ:∀ (n:Nat)(s:Nat→S),(∀ i,i < n→Acc (sub i) (s i))→Acc (nE sub n) s:=by
 intro n
 induction n with
 | zero=>intro s _;exact Acc.intro _ fun t ⟨i,hi,_⟩=>absurd hi (Nat.not_lt_zero _)
 | succ n ih =>
  have main:∀ a,Acc (nE sub n) a→∀ x,Acc (sub n) x→∀ s:Nat→S,(∀ j,j < n→under sub j (s j) (a j))→under sub n (s n) x→Acc (nE sub (n+1)) s:=by
   intro a ha
   induction ha with
   | intro a _ iha =>
    intro x hx
    induction hx with
    | intro x JR JS =>
     intro s hs hn
     refine Acc.intro _ fun t ⟨i,hi,hd,ho⟩=>?_
     by_cases e:i=n
     ·subst e
      exact JS (t i) (hn _ hd) t (fun j hj=>uy sub (ho j ag ag) (hs j hj)) (qZ sub _ _)
     ·have hi':i < n:=by omega
      refine iha t ⟨i,hi',hs i hi' _ hd,fun j hj hne=>uy sub (ho j ag hne) (hs j hj)⟩ x (Acc.intro _ JR) t (fun j _=>qZ sub _ _) (uy sub (ho n ag fun z=>e z.symm) hn)
  intro s h
  exact main s (ih s fun i hi=>h i ag) (s n) (h n ag) s (fun j _=>qZ sub _ _) (qZ sub _ _)
end product
abbrev nG:=(Nat→Prop)×Goroutine×World
def jL (P:Program)(Stop:(Nat→Prop)→Goroutine→World→Prop)(x:nG):Prop:=∀ w1,ay P x.1 x.2.2 w1→Stop x.1 x.2.1 w1
def grown (M:Nat→Prop)(w w':World):Nat→Prop:=fun y=>M y∨(w.heap.size≤y / 2∧y / 2 < w'.heap.size)
def Sub (P:Program)(main:Bool)(Stop:(Nat→Prop)→Goroutine→World→Prop)(z x:nG):Prop :=
 ¬ jL P Stop x∧∃ w1 g' w' es,ay P x.1 x.2.2 w1∧stepG P main x.2.1 w1=.go g' w' es∧z=(grown x.1 w1 w',g',w')
theorem CK {P:Program}{main:Bool}{Stop:(Nat→Prop)→Goroutine→World→Prop}{M:Nat→Prop}{g:Goroutine}{w:World}(h:aj P main Stop M g w):Acc (Sub P main Stop) (M,g,w):=by
 induction h with
 | stop h=>exact Acc.intro _ fun z hz=>absurd h hz.1
 | step N g' w' es hg h1 h2 h3 ih =>
  refine Acc.intro _ fun z hz=>?_
  obtain ⟨_,w1,g2,w2,es2,hr,hs,rfl⟩:=hz
  rw [h1 w1 hr] at hs
  simp only [GStep.go.injEq] at hs
  obtain ⟨rfl,rfl,_⟩:=hs
  have e:grown _ w1 (w' w1)=N w1:=funext fun y=>propext ((h2 w1 hr).iff y).symm
  simp only [e]
  exact ih w1 hr
theorem JU {P:Program}{main:Bool}{Stop:(Nat→Prop)→Goroutine→World→Prop}{M:Nat→Prop}{g:Goroutine}{w w1:World}(h:ay P M w w1):∀ z,Sub P main Stop z (M,g,w1)→Sub P main Stop z (M,g,w):=by
 rintro z ⟨hn,w2,g',w',es,hr,hs,rfl⟩
 exact ⟨fun ha=>hn fun w3 h3=>ha w3 (h.trans h3),w2,g',w',es,h.trans hr,hs,rfl⟩
theorem CL {P:Program}{S:Type}{r:S→S→Prop}{Inv:S→Machine→Trace→Prop}{Done:Machine→Trace→Prop}
  (step:∀ s m t,Inv s m t→Done m t∨∃ m' ops s',stepT P m=(.next m',ops)∧r s' s∧Inv s' m' (t ++ ops)) :
  ∀ s,Acc r s→∀ m t,Inv s m t→∃ N m' t',runNT P N m t=(.next m',t')∧Done m' t':=by
 intro s hs
 induction hs with
 | intro s _ ih =>
  intro m t h
  rcases step s m t h with hd | ⟨m',ops,s',h1,h2,h3⟩
  ·exact ⟨0,m,t,rfl,hd⟩
  ·obtain ⟨N,m'',t'',hr,hd⟩:=ih s' h2 m' (t ++ ops) h3
   exact ⟨N+1,m'',t'',by simp only [runNT,h1];exact hr,hd⟩
def uz (C:Nat→Prop)(g:Goroutine):Prop:=g.status=.finished∨∃ g2 cs sh,g=parked g2 cs sh∧∀ cc∈cs,∃ c,cc.chan=.chan (some c)∧C c
structure Env where
 shut:Nat→Prop
 wk:Nat→Prop
 jo:∀ i,wk i→i≠0
 ok:Nat→Goroutine→Prop
 Pre:Nat→World→Prop
 aI:Nat→World→Nat
 lv:Nat→Nat→Prop
 hr:Nat→Nat→Prop
 at_:(Nat→Nat)→Nat→Obj→Prop
 may:Nat→Touch→Prop
 told:(Nat→Nat)→Trace→Prop
 out:Os×Array (Nat×ByteArray)
 lasts:∀ τ T u,told τ T→(∀ op∈u,lv op.g (τ op.g))→(∀ j,Deaf (T ++ u) j=Deaf T j)→(∀ op∈u,∀ a,op.act≠.mark (.release a))→told τ (T ++ u)
structure bu (P:Program)(C:Nat→Prop)(E:Env)(τ:Nat→Nat)(T:Trace)(w:World)(own:Nat→Nat→Prop):Prop where
 ledger:iT T own w.heap.size
 chans:∀ c,C c→(∃ k,w.heap[c]?=some (.chan 0 #[] false k k false))∧∀ i,¬ has (own i) c
 closed:∀ c,E.shut c→(∃ k,w.heap[c]?=some (.chan 0 #[] true k k false))∧∀ i,¬ has (own i) c
 aX:∀ g,g < P.globals.size→∃ c e fz,w.heap[g]?=some (.cells c e fz)
 deaf:∀ i,E.hr i (τ i)→Deaf T i=0
 hush:∀ c,C c→∀ k a,touchAt T k=some a→¬ dI c a.loc
 gy:∀ b o,E.at_ τ b o→w.heap[b]?=some o∧(∀ i,¬ has (own i) b)∧∀ k a,touchAt T k=some a→dI b a.loc→∃ g,T.g? k=some g∧E.may g a
 told:E.told τ T
 out:ic w=E.out
inductive aH (P:Program)(ok:Nat→Goroutine→Prop)(Pre:Nat→World→Prop)(aI:Nat→World→Nat):Nat→Nat→Goroutine→Prop
 | fin {n:Nat} {g:Goroutine}:g.status=.finished→aH P ok Pre aI n 0 g
 | slip {n s:Nat} {g g':Goroutine}:g.status=.running→(∀ w,(1 < s→Pre 0 w)→stepG P false g w=.go g' w #[])→aH P ok Pre aI n s g'→aH P ok Pre aI (n+1) s g
 | op {n s:Nat} {g:Goroutine}:g.status=.running→ok (s+1) g→(∀ w g' w' es,Pre (s+1) w→stepG P false g w=.go g' w' es→aH P ok Pre aI n (aI (s+1) w) g')→aH P ok Pre aI (n+1) (s+1) g
def upd (τ:Nat→Nat)(i s:Nat):Nat→Nat:=fun j=>if j=i then s else τ j
theorem dH (τ:Nat→Nat)(i s:Nat):upd τ i s i=s:=if_pos rfl
theorem upd_ne (τ:Nat→Nat){i j:Nat}(s:Nat)(h:j≠i):upd τ i s j=τ j:=if_neg h
structure dB (P:Program)(E:Env):Prop where
 root:∀ (C:Nat→Prop) (τ:Nat→Nat) (T:Trace) (w:World) (own:Nat→Nat→Prop),bu P C E τ T w own→E.Pre 0 w
 op:∀ (C:Nat→Prop) (τ:Nat→Nat) (i s:Nat) (T:Trace) (w:World) (own:Nat→Nat→Prop) (g:Goroutine),E.wk i→bu P C E τ T w own→τ i=s+1→E.ok (s+1) g →
  E.Pre (s+1) w∧∃ g' w' es,stepG P false g w=.go g' w' es∧bu P C E (upd τ i (E.aI (s+1) w)) (T ++ MemOp.ofEvents i g.frame.fn g.frame.place es) w' own∧∀ j,ay P (own j) w w'
 low:∀ s w,E.aI (s+1) w≤s
theorem qd {P:Program}{ok:Nat→Goroutine→Prop}{Pre:Nat→World→Prop}{aI:Nat→World→Nat}{n s:Nat}{g:Goroutine}(h:aH P ok Pre aI n s g):g.status=.running∨g.status=.finished:=by
 cases h with
 | fin h=>exact .inr h
 | slip h _ _=>exact .inl h
 | op h _ _=>exact .inl h
theorem wT {T u:Trace}{c:Nat}(h:∀ k a,touchAt T k=some a→¬ dI c a.loc)(hu:∀ op∈u,∀ a,op.act.touch?=some a→¬ dI c a.loc):∀ k a,touchAt (T ++ u) k=some a→¬ dI c a.loc:=by
 intro k a ha
 obtain ⟨x,hx,hxa⟩:=touch_of ha
 rcases getElem?_append_cases hx with ⟨_,hx'⟩ | ⟨_,hxu⟩
 ·exact h k a (by rw [touchAt_of hx'];exact hxa)
 ·exact hu x hxu a hxa
theorem wU {T u:Trace}{b:Nat}{may:Nat→Touch→Prop}(h:∀ k a,touchAt T k=some a→dI b a.loc→∃ g,T.g? k=some g∧may g a)(hu:∀ op∈u,∀ a,op.act.touch?=some a→dI b a.loc→may op.g a):∀ k a,touchAt (T ++ u) k=some a→dI b a.loc→∃ g,(T ++ u).g? k=some g∧may g a:=by
 intro k a ha hl
 obtain ⟨x,hx,hxa⟩:=touch_of ha
 have hg:(T ++ u).g? k=some x.g:=by simp [Trace.g?,hx]
 rcases getElem?_append_cases hx with ⟨_,hx'⟩ | ⟨_,hxu⟩
 ·obtain ⟨g,h1,h2⟩:=h k a (by rw [touchAt_of hx'];exact hxa) hl
  have:g=x.g:=by simp [Trace.g?,hx'] at h1;exact h1.symm
  exact ⟨_,hg,this ▸ h2⟩
 ·exact ⟨_,hg,hu x hxu a hxa hl⟩
theorem CO {c:Nat}{l:Go.Loc}(h:dI c l):l.isMemory=true:=by cases l <;> first | rfl | exact h.elim
theorem zh {b c:Nat}{l:Go.Loc}(h:dI b l)(k:dI c l):b=c:=by cases l <;> first | exact h.elim | exact h.symm.trans k
theorem zi {C:Nat→Prop}{g:Goroutine}{w:World}(h:uz C g)(hC:∀ c,C c→∃ k,w.heap[c]?=some (.chan 0 #[] false k k false)):g.again w=g:=by
 rcases h with h | ⟨g2,cs,sh,rfl,hc⟩
 ·unfold Goroutine.again;rw [h]
 ·unfold Goroutine.again parked
  dsimp only
  rw [if_neg]
  rw [Array.any_eq_true]
  rintro ⟨i,hi,z⟩
  obtain ⟨c,e,hcc⟩:=hc cs[i] (Array.getElem_mem hi)
  obtain ⟨k,hw⟩:=hC c hcc
  rw [e] at z
  simp [hw] at z
theorem wV {C:Nat→Prop}{g:Goroutine}(h:uz C g):g.status≠.running∧awake g:=by
 rcases h with h | ⟨g2,cs,sh,rfl,_⟩
 ·exact ⟨by rw [h];simp,fun t=>by rw [h];simp⟩
 ·exact ⟨by simp [parked],fun t=>by simp [parked]⟩
theorem ay.at_ (P:Program)(M:Nat→Prop)(w:World)(d:Nat):ay P M w (w.at d):=⟨Nat.le_refl _,fun _ _=>rfl,fun h=>h,rfl⟩
theorem lz {P:Program}{main:Bool}{St:(Nat→Prop)→Goroutine→World→Prop}{M:Nat→Prop}{g:Goroutine}{w:World}(h:aj P main St M g w)(hst:∀ M g w,St M g w→g.status=.running):g.status=.running:=by
 cases h with
 | stop h=>exact hst _ _ _ (h w (ay.refl P M w))
 | step N g' w' es hg h1 h2 h3=>exact hg
theorem bu.at_ {P:Program}{C:Nat→Prop}{E:Env}{τ:Nat→Nat}{T:Trace}{w:World}{own:Nat→Nat→Prop}(H:bu P C E τ T w own)(d:Nat):bu P C E τ T (w.at d) own:=⟨H.ledger,H.chans,H.closed,H.aX,H.deaf,H.hush,H.gy,H.told,H.out⟩
section
variable {P:Program}{C:Nat→Prop}{E:Env}{τ:Nat→Nat}{A B:Nat→Prop}{Stop:Nat→(Nat→Prop)→Goroutine→World→Prop}
structure rf (P:Program)(C:Nat→Prop)(E:Env)(τ:Nat→Nat)(A B:Nat→Prop)(Stop:Nat→(Nat→Prop)→Goroutine→World→Prop)(gs:Array Goroutine)(w:World)(own:Nat→Nat→Prop):Prop where
 walk:∀ i g,gs[i]?=some g→A i→aj P (i == 0) (Stop i) (own i) g w
 tail:∀ i g,gs[i]?=some g→B i→∃ n,aH P E.ok E.Pre E.aI n (τ i) g
 rest:∀ i g,gs[i]?=some g→¬ A i→¬ B i→uz C g
theorem CP (hst:∀ i M g w,A i→Stop i M g w→g.status=.running){gs:Array Goroutine}{w w':World}{own:Nat→Nat→Prop}(hR:rf P C E τ A B Stop gs w own)(hch:∀ c,C c→∃ k,w'.heap[c]?=some (.chan 0 #[] false k k false)){i:Nat}{g g':Goroutine} :
  ∀ j x,j≠i→gs[j]?=some x→((gs.map (woken P g g' w')).setIfInBounds i g')[j]?=some x:=by
 intro j x hj hx
 rw [Array.getElem?_setIfInBounds_ne (fun z=>hj z.symm),Array.getElem?_map,hx]
 have hag:x.again w'=x:=by
  by_cases ha:A j
  ·exact again_of_running (.inl (lz (hR.walk j x hx ha) fun M g w=>hst j M g w ha)) w'
  ·by_cases hb:B j
   ·obtain ⟨n,ht⟩:=hR.tail j x hx hb
    exact again_of_running (qd ht) w'
   ·exact zi (hR.rest j x hx ha hb) hch
 simp only [Option.map_some,woken_of_again hag]
theorem mi {gs:Array Goroutine}{f:Goroutine→Goroutine}{i:Nat}{g':Goroutine}(hoth:∀ j x,j≠i→gs[j]?=some x→((gs.map f).setIfInBounds i g')[j]?=some x){j:Nat}{x:Goroutine}(e:j≠i)(hx:((gs.map f).setIfInBounds i g')[j]?=some x):gs[j]?=some x:=by
 cases hz:gs[j]? with
 | none =>
  rw [Array.getElem?_setIfInBounds_ne (fun z=>e z.symm),Array.getElem?_map,hz] at hx
  cases hx
 | some y=>rw [hoth j y e hz] at hx;exact hx
theorem JV {M:Nat→Prop}{e:Event}(h:Mine M e)(a:Addr):MemAct.ofEvent e≠.mark (.release a):=by
 obtain ⟨l,wr,sy⟩:=e
 unfold Mine at h
 cases l with
 | mark m=>cases m <;> first | exact h.elim | (intro z;cases z)
 | _=>cases wr <;> cases sy <;> (intro z;cases z)
theorem bu.step {T:Trace}{w:World}{own:Nat→Nat→Prop}(H:bu P C E τ T w own){i:Nat}(hlv:E.lv i (τ i)){fn:FuncId}{pos:String}{d:Nat}{w':World}{es:Array Event}{M':Nat→Prop}(hG:dY P (own i) M' (w.at d) w' es) :
  bu P C E τ (T ++ MemOp.ofEvents i fn pos es) w' (fun j b=>(j=i∧M' b)∨(j≠i∧own j b))∧(∀ j,j≠i→ay P (own j) w w'):=by
 have hM:∀ b,M' b→own i b∨w.heap.size≤b / 2:=fun b hb=>((hG.iff b).1 hb).imp id (·.1)
 have hrel:∀ j,j≠i→ay P (own j) w w':=fun j hj =>
  ⟨hG.size,fun b hb=>(iQ hb).elim fun c hc=>hG.still b (hc.1 ▸ H.ledger.low j c hc.2) fun z=>hj (H.ledger.apart _ _ c hc.2 (oI z hc.1)),fun hg=>hG.aX hg,Cz hG.os hG.output⟩
 have nobody:∀ b o,w.heap[b]?=some o→(∀ i,¬ has (own i) b)→w'.heap[b]?=some o∧∀ j,¬ has (fun c=>(j=i∧M' c)∨(j≠i∧own j c)) b:=by
  intro b o hb hno
  have hlt:=(Array.getElem?_eq_some_iff.1 hb).1
  refine ⟨by rw [hG.still b hlt fun z=>hno i z.has];exact hb,fun j hj=>?_⟩
  obtain ⟨c,hc,hq⟩:=iQ hj
  subst hc
  rcases hq with ⟨rfl,hq⟩ | ⟨_,hq⟩
  ·rcases hM c hq with z | z
   ·exact hno _ (qY z)
   ·omega
  ·exact hno j (qY hq)
 have touches:∀ op∈MemOp.ofEvents i fn pos es,∀ a,op.act.touch?=some a→∀ b o,w.heap[b]?=some o→(∀ i,¬ has (own i) b)→¬ dI b a.loc:=by
  intro op hop a ha b o hb hno hl
  obtain ⟨e,he,rfl⟩:=Go.Conc.mem_ofEvents hop
  obtain ⟨c,hc1,-,hc2⟩:=zg (hG.evs e he) ha (CO hl)
  have hbc:=zh hc2 hl
  subst hbc
  have hlt:=(Array.getElem?_eq_some_iff.1 hb).1
  obtain ⟨c',e',hq1⟩:=iQ hc1
  subst e'
  rcases hM c' hq1 with z | z
  ·exact hno _ (qY z)
  ·omega
 refine ⟨⟨H.ledger.step hG.size hM (hG.low (H.ledger.low i)) hG.evs,fun c hc=>?_,fun c hc=>?_,hG.aX H.aX,fun j hj=>?_,fun c hc=>wT (H.hush c hc) fun op hop a ha hl=>?_,fun b o hb=>?_,E.lasts τ _ _ H.told (fun op hop=>?_) (fun j=>?_) (fun op hop a=>?_),(Cz hG.os hG.output).trans H.out⟩,hrel⟩
 ·obtain ⟨⟨k,hw⟩,hno⟩:=H.chans c hc
  obtain ⟨q1,q2⟩:=nobody c _ hw hno
  exact ⟨⟨k,q1⟩,q2⟩
 ·obtain ⟨⟨k,hw⟩,hno⟩:=H.closed c hc
  obtain ⟨q1,q2⟩:=nobody c _ hw hno
  exact ⟨⟨k,q1⟩,q2⟩
 ·by_cases e:j=i
  ·subst e
   rw [Deaf_own,deafBehind_still fun e he=>CE (hG.evs e he)]
   exact H.deaf j hj
  ·rw [Deaf_other T (g':=i) (fun z=>e z.symm) _ fun op hop=>by obtain ⟨e,_,rfl⟩:=Go.Conc.mem_ofEvents hop;rfl]
   exact H.deaf j hj
 ·obtain ⟨⟨k,hw⟩,hno⟩:=H.chans c hc
  exact touches op hop a ha c _ hw hno hl
 ·obtain ⟨hw,hno,ht⟩:=H.gy b o hb
  obtain ⟨q1,q2⟩:=nobody b _ hw hno
  exact ⟨q1,q2,wU ht fun op hop a ha hl=>(touches op hop a ha b _ hw hno hl).elim⟩
 ·obtain ⟨e,_,rfl⟩:=Go.Conc.mem_ofEvents hop
  exact hlv
 ·by_cases e:j=i
  ·subst e
   rw [Deaf_own,deafBehind_still fun e he=>CE (hG.evs e he)]
  ·rw [Deaf_other T (g':=i) (fun z=>e z.symm) _ fun op hop=>by obtain ⟨e,_,rfl⟩:=Go.Conc.mem_ofEvents hop;rfl]
 ·obtain ⟨e,he,rfl⟩:=Go.Conc.mem_ofEvents hop
  exact JV (hG.evs e he) a
end
section
variable {P:Program}{C:Nat→Prop}{E:Env}{τ0:Nat→Nat}{A B:Nat→Prop}{Stop:Nat→(Nat→Prop)→Goroutine→World→Prop}
def down (P:Program)(A:Nat→Prop)(Stop:Nat→(Nat→Prop)→Goroutine→World→Prop)(i:Nat)(z x:nG×Nat):Prop :=
 (A i∧Sub P (i == 0) (Stop i) z.1 x.1)∨(¬ A i∧z.2 < x.2)
theorem uA {i:Nat}{M:Nat→Prop}{g:Goroutine}{w w1:World}{n:Nat}(h:A i→ay P M w w1):under (down P A Stop) i ((M,g,w1),n) ((M,g,w),n):=by
 rintro z (⟨ha,hz⟩ | ⟨ha,hz⟩)
 ·exact .inl ⟨ha,JU (h ha) _ hz⟩
 ·exact .inr ⟨ha,hz⟩
theorem phase (K:dB P E)(hst:∀ i M g w,A i→Stop i M g w→g.status=.running)(qf:∀ i,A i→¬ B i)(hB0:∀ i,B i→E.wk i)(hlv:∀ i,A i→E.lv i (τ0 i)){gs0:Array Goroutine}{w0:World}{sl0:Option (Nat×Nat)}{T0:Trace}{aU:Nat→Nat→Prop}
  (H0:bu P C E τ0 T0 w0 aU)(hR0:rf P C E τ0 A B Stop gs0 w0 aU)(h1:∃ i g,A i∧gs0[i]?=some g) :
  ∃ N gs w sl T own τ,runNT P N (crowd gs0 w0 sl0) T0=(.next (crowd gs w sl),T)∧gs.size=gs0.size∧(∀ i,¬ B i→τ i=τ0 i)∧(∀ i,τ i≤τ0 i)∧bu P C E τ T w own∧rf P C E τ A B Stop gs w own∧(∀ i,¬ A i→own i=aU i∧ay P (aU i) w0 w∧(¬ B i→gs[i]?=gs0[i]?)) ∧
   ∃ i g d sl',A i∧gs[i]?=some g∧jL P (Stop i) (own i,g,w)∧stepT P (crowd gs w sl)=runT P (crowd gs (w.at d) sl') i:=by
 have hfuel:∀ i,∃ n,∀ g,gs0[i]?=some g→B i→aH P E.ok E.Pre E.aI n (τ0 i) g:=by
  intro i
  by_cases hb:B i
  ·cases hg:gs0[i]? with
   | none=>exact ⟨0,fun g h=>by cases h⟩
   | some g =>
    obtain ⟨n,hn⟩:=hR0.tail i g hg hb
    exact ⟨n,fun g' h _=>by cases h;exact hn⟩
  ·exact ⟨0,fun _ _ h=>absurd h hb⟩
 let fuel:Nat→Nat:=fun i=>Classical.choose (hfuel i)
 have hfu:∀ i g,gs0[i]?=some g→B i→aH P E.ok E.Pre E.aI (fuel i) (τ0 i) g:=fun i=>Classical.choose_spec (hfuel i)
 let s0:Nat→nG×Nat:=fun i=>((aU i,gs0.getD i default,w0),fuel i)
 have hacc:Acc (nE (down P A Stop) gs0.size) s0:=by
  refine CJ _ _ _ fun i hi=>?_
  have hgi:gs0[i]?=some (gs0.getD i default):=by rw [Array.getD_eq_getD_getElem?,Array.getElem?_eq_getElem hi];rfl
  by_cases ha:A i
  ·have key:∀ x:nG,Acc (Sub P (i == 0) (Stop i)) x→∀ n,Acc (down P A Stop i) (x,n):=by
    intro x hx
    induction hx with
    | intro x _ ih =>
     intro n
     refine Acc.intro _ fun z hz=>?_
     rcases hz with ⟨_,hz⟩ | ⟨hn,_⟩
     ·exact ih z.1 hz z.2
     ·exact absurd ha hn
   exact key _ (CK (hR0.walk i _ hgi ha)) _
  ·have key:∀ n:Nat,∀ x:nG,Acc (down P A Stop i) (x,n):=by
    intro n
    induction n using Nat.strongRecOn with
    | ind n ih =>
     intro x
     refine Acc.intro _ fun z hz=>?_
     rcases hz with ⟨hn,_⟩ | ⟨_,hz⟩
     ·exact absurd hn ha
     ·exact ih z.2 hz z.1
   exact key _ _
 obtain ⟨N,m',T',hrun,hd⟩:=CL (P:=P) (r:=nE (down P A Stop) gs0.size)
  (Inv:=fun s m t=>∃ gs w sl own τ,m=crowd gs w sl∧gs.size=gs0.size∧(∀ i,¬ B i→τ i=τ0 i)∧(∀ i,τ i≤τ0 i)∧bu P C E τ t w own∧rf P C E τ A B Stop gs w own∧(∀ i g,gs[i]?=some g→(s i).1=(own i,g,w))∧(∀ i g,gs[i]?=some g→B i→aH P E.ok E.Pre E.aI (s i).2 (τ i) g)∧∀ i,¬ A i→own i=aU i∧ay P (aU i) w0 w∧(¬ B i→gs[i]?=gs0[i]?))
  (Done:=fun m t=>∃ gs w sl own τ,m=crowd gs w sl∧gs.size=gs0.size∧(∀ i,¬ B i→τ i=τ0 i)∧(∀ i,τ i≤τ0 i)∧bu P C E τ t w own∧rf P C E τ A B Stop gs w own∧(∀ i,¬ A i→own i=aU i∧ay P (aU i) w0 w∧(¬ B i→gs[i]?=gs0[i]?)) ∧
   ∃ i g d sl',A i∧gs[i]?=some g∧jL P (Stop i) (own i,g,w)∧stepT P (crowd gs w sl)=runT P (crowd gs (w.at d) sl') i)
  (fun s m t hI=>by
   obtain ⟨gs,w,sl,own,τ,rfl,hsz,hτ,hle,H,hR,hs,hf,hrest⟩:=hI
   have haw:∀ g∈gs,awake g:=by
    intro g hg
    obtain ⟨i,hi,rfl⟩:=Array.mem_iff_getElem.1 hg
    have hgi:=Array.getElem?_eq_getElem hi
    by_cases ha:A i
    ·exact awake_of (.inl (lz (hR.walk i _ hgi ha) fun M g w=>hst i M g w ha))
    ·by_cases hb:B i
     ·obtain ⟨n,hn⟩:=hR.tail i _ hgi hb
      exact awake_of ((qd hn).imp id .inr)
     ·exact (wV (hR.rest i _ hgi ha hb)).2
   have hsome:∃ (i:Nat) (g:Goroutine),gs[i]?=some g∧g.status=.running:=by
    obtain ⟨i,g,ha,hg⟩:=h1
    have hlt:i < gs.size:=by rw [hsz];exact (Array.getElem?_eq_some_iff.1 hg).1
    exact ⟨i,gs[i],Array.getElem?_eq_getElem hlt,lz (hR.walk i _ (Array.getElem?_eq_getElem hlt) ha) fun M g w=>hst i M g w ha⟩
   obtain ⟨i,g,d,sl',hi,hg,hstep⟩:=crowd_pick (P:=P) (w:=w) (sl:=sl) haw hsome
   have hlt:i < gs.size:=(Array.getElem?_eq_some_iff.1 hi).1
   have uB:i < gs0.size:=by rw [← hsz];exact hlt
   by_cases ha:A i
   ·by_cases hat:jL P (Stop i) (own i,g,w)
    ·exact .inl ⟨gs,w,sl,own,τ,rfl,hsz,hτ,hle,H,hR,hrest,i,g,d,sl',ha,hi,hat,hstep⟩
    refine .inr ?_
    have hrn:=hR.walk i g hi ha
    cases hrn with
    | stop h=>exact absurd h hat
    | step N g' w' es hgr r1 r2 r3 =>
     have hrel:=ay.at_ P (own i) w d
     obtain ⟨H',hrl⟩:=H.step (d:=d) (i:=i) (fn:=g.frame.fn) (pos:=g.frame.place) (by rw [hτ i (qf i ha)];exact hlv i ha) (r2 _ hrel)
     have hoth:=CP (g:=g) (g':=g' (w.at d)) (i:=i) hst hR (fun c hc=>(H'.chans c hc).1)
     have e1:(fun b=>(i=i∧N (w.at d) b)∨(i≠i∧own i b))=N (w.at d):=funext fun b=>propext ⟨fun z=>z.elim (·.2) fun z=>absurd rfl z.1,fun z=>.inl ⟨rfl,z⟩⟩
     have e2:∀ j,j≠i→(fun b=>(j=i∧N (w.at d) b)∨(j≠i∧own j b))=own j:=fun j e=>funext fun b=>propext ⟨fun z=>z.elim (fun z=>absurd z.1 e) (·.2),fun z=>.inr ⟨e,z⟩⟩
     refine ⟨_,_,fun j=>(((fun b=>(j=i∧N (w.at d) b)∨(j≠i∧own j b)),(if j=i then g' (w.at d) else (s j).1.2.1),w' (w.at d)),(s j).2),by rw [hstep];exact runT_crowd_go (sl:=sl') hi (r1 _ hrel),?_,_,_,sl',_,τ,rfl,by simpa using hsz,hτ,hle,H',⟨fun j x hx hj=>?_,fun j x hx hj=>?_,fun j x hx hj hj2=>?_⟩,fun j x hx=>?_,fun j x hx hj=>?_,fun j hj=>?_⟩
     ·refine ⟨i,uB,?_,fun j hj hne=>?_⟩
      ·refine .inl ⟨ha,?_⟩
       show Sub P (i == 0) (Stop i) ((fun b=>(i=i∧N (w.at d) b)∨(i≠i∧own i b)),(if i=i then g' (w.at d) else (s i).1.2.1),w' (w.at d)) (s i).1
       rw [hs i g hi,if_pos rfl,e1]
       refine ⟨hat,w.at d,g' (w.at d),w' (w.at d),es (w.at d),hrel,r1 _ hrel,?_⟩
       have:N (w.at d)=grown (own i) (w.at d) (w' (w.at d)):=funext fun b=>propext ((r2 _ hrel).iff b)
       rw [this]
      ·have hjl:j < gs.size:=by rw [hsz];exact hj
       have hgj:=Array.getElem?_eq_getElem hjl
       have e3:=hs j _ hgj
       show under (down P A Stop) j (((fun b=>(j=i∧N (w.at d) b)∨(j≠i∧own j b)),(if j=i then g' (w.at d) else (s j).1.2.1),w' (w.at d)),(s j).2) (s j)
       rw [e2 j hne,if_neg hne]
       have e4:s j=((own j,gs[j],w),(s j).2):=Prod.ext e3 rfl
       rw [e4]
       exact uA fun _=>hrl j hne
     ·by_cases e:j=i
      ·subst e
       rw [Array.getElem?_setIfInBounds_self_of_lt (by simpa using hlt)] at hx
       cases hx
       show aj P (j == 0) (Stop j) (fun b=>(j=j∧N (w.at d) b)∨(j≠j∧own j b)) (g' (w.at d)) (w' (w.at d))
       rw [e1]
       exact r3 _ hrel
      ·have hx0:=mi hoth e hx
       rw [e2 j e]
       exact (hR.walk j x hx0 hj).rely (hrl j e)
     ·have e:j≠i:=fun e=>qf i ha (e ▸ hj)
      exact hR.tail j x (mi hoth e hx) hj
     ·have e:j≠i:=fun e=>hj (e ▸ ha)
      exact hR.rest j x (mi hoth e hx) hj hj2
     ·by_cases e:j=i
      ·subst e
       rw [Array.getElem?_setIfInBounds_self_of_lt (by simpa using hlt)] at hx
       cases hx
       simp
      ·have hx0:=mi hoth e hx
       simp only [e,if_false,hs j x hx0]
     ·have e:j≠i:=fun e=>qf i ha (e ▸ hj)
      exact hf j x (mi hoth e hx) hj
     ·have e:j≠i:=fun z=>hj (z ▸ ha)
      obtain ⟨q1,q2,q3⟩:=hrest j hj
      refine ⟨(e2 j e).trans q1,q2.trans (q1 ▸ hrl j e),fun hb=>?_⟩
      rw [← q3 hb]
      cases hz:gs[j]? with
      | none=>rw [Array.getElem?_setIfInBounds_ne (fun z=>e z.symm),Array.getElem?_map,hz];rfl
      | some y=>exact hoth j y e hz
   ·by_cases hb:B i
    ·have hi0:(i == 0)=false:=by simpa using E.jo i (hB0 i hb)
     have go:∀ (n:Nat) (g':Goroutine) (w':World) (es:Array Event) (τ':Nat→Nat),n < (s i).2→stepG P (i == 0) g (w.at d)=.go g' w' es→bu P C E τ' (t ++ MemOp.ofEvents i g.frame.fn g.frame.place es) w' own→(∀ j,ay P (own j) w w')→aH P E.ok E.Pre E.aI n (τ' i) g'→(∀ j,j≠i→τ' j=τ j)→τ' i≤τ i →
       ∃ m' ops s',stepT P (crowd gs w sl)=(.next m',ops)∧nE (down P A Stop) gs0.size s' s∧∃ gs w sl own τ,m'=crowd gs w sl∧gs.size=gs0.size∧(∀ i,¬ B i→τ i=τ0 i)∧(∀ i,τ i≤τ0 i)∧bu P C E τ (t ++ ops) w own∧rf P C E τ A B Stop gs w own∧(∀ i g,gs[i]?=some g→(s' i).1=(own i,g,w))∧(∀ i g,gs[i]?=some g→B i→aH P E.ok E.Pre E.aI (s' i).2 (τ i) g)∧∀ i,¬ A i→own i=aU i∧ay P (aU i) w0 w∧(¬ B i→gs[i]?=gs0[i]?):=by
      intro n g' w' es τ' hn hst' H' hrl ht jK zk
      have hoth:=CP (g:=g) (g':=g') (i:=i) hst hR (fun c hc=>(H'.chans c hc).1)
      refine ⟨_,_,fun j=>((own j,(if j=i then g' else (s j).1.2.1),w'),(if j=i then n else (s j).2)),by rw [hstep];exact runT_crowd_go (sl:=sl') hi hst',?_,_,_,sl',own,τ',rfl,by simpa using hsz,fun j hj=>(jK j fun e=>hj (e ▸ hb)).trans (hτ j hj),fun j=>(if e:j=i then (by rw [e];exact Nat.le_trans zk (hle i)) else (by rw [jK j e];exact hle j)),H',⟨fun j x hx hj=>?_,fun j x hx hj=>?_,fun j x hx hj hj2=>?_⟩,fun j x hx=>?_,fun j x hx hj=>?_,fun j hj=>?_⟩
      ·refine ⟨i,uB,.inr ⟨ha,by simpa using hn⟩,fun j hj hne=>?_⟩
       have hjl:j < gs.size:=by rw [hsz];exact hj
       have e3:=hs j _ (Array.getElem?_eq_getElem hjl)
       show under (down P A Stop) j ((own j,(if j=i then g' else (s j).1.2.1),w'),(if j=i then n else (s j).2)) (s j)
       rw [if_neg hne,if_neg hne]
       have e4:s j=((own j,gs[j],w),(s j).2):=Prod.ext e3 rfl
       rw [e4]
       exact uA fun _=>hrl j
      ·have e:j≠i:=fun e=>ha (e ▸ hj)
       exact (hR.walk j x (mi hoth e hx) hj).rely (hrl j)
      ·by_cases e:j=i
       ·subst e
        rw [Array.getElem?_setIfInBounds_self_of_lt (by simpa using hlt)] at hx
        cases hx
        exact ⟨n,ht⟩
       ·rw [jK j e]
        exact hR.tail j x (mi hoth e hx) hj
      ·have e:j≠i:=fun e=>hj2 (e ▸ hb)
       exact hR.rest j x (mi hoth e hx) hj hj2
      ·by_cases e:j=i
       ·subst e
        rw [Array.getElem?_setIfInBounds_self_of_lt (by simpa using hlt)] at hx
        cases hx
        simp
       ·have hx0:=mi hoth e hx
        simp only [e,if_false,hs j x hx0]
      ·by_cases e:j=i
       ·subst e
        rw [Array.getElem?_setIfInBounds_self_of_lt (by simpa using hlt)] at hx
        cases hx
        simpa using ht
       ·rw [jK j e]
        simp only [e,if_false]
        exact hf j x (mi hoth e hx) hj
      ·obtain ⟨q1,q2,q3⟩:=hrest j hj
       refine ⟨q1,q2.trans (q1 ▸ hrl j),fun hb2=>?_⟩
       have e:j≠i:=fun e=>hb2 (e ▸ hb)
       rw [← q3 hb2]
       cases hz:gs[j]? with
       | none=>rw [Array.getElem?_setIfInBounds_ne (fun z=>e z.symm),Array.getElem?_map,hz];rfl
       | some y=>exact hoth j y e hz
     refine .inr ?_
     have htl:=hf i g hi hb
     generalize hn0:(s i).2=n0 at htl
     generalize hs0:τ i=s0 at htl
     cases htl with
     | fin h=>rw [hg] at h;cases h
     | slip hr0 h1 h2 =>
      rename_i n g'
      have hev:MemOp.ofEvents i g.frame.fn g.frame.place #[]=#[]:=rfl
      exact go n g' (w.at d) #[] τ ag (by rw [hi0];exact h1 _ fun _=>K.root C τ t _ own (H.at_ d)) (by rw [hev,Array.append_empty];exact H.at_ d) (fun j=>ay.at_ P _ w d) (by rw [hs0];exact h2) (fun _ _=>rfl) (Nat.le_refl _)
     | op hr0 hok h2 =>
      rename_i n s1
      obtain ⟨hpre,g',w',es,hst',H',hrl⟩:=K.op C τ i s1 t (w.at d) own g (hB0 i hb) (H.at_ d) hs0 hok
      exact go n g' w' es (upd τ i (E.aI (s1+1) (w.at d))) ag (by rw [hi0];exact hst') H' (fun j=>(ay.at_ P _ w d).trans (hrl j)) (by rw [dH];exact h2 _ _ _ _ hpre hst') (fun j hj=>upd_ne τ _ hj) (by rw [dH,hs0];have:=K.low s1 (w.at d);omega)
    ·exact absurd hg (wV (hR.rest i g hi ha hb)).1)
  s0 hacc (crowd gs0 w0 sl0) T0 ⟨gs0,w0,sl0,aU,τ0,rfl,rfl,fun _ _=>rfl,fun _=>Nat.le_refl _,H0,hR0,fun i g hg=>by show (aU i,gs0.getD i default,w0)=_;rw [Array.getD_eq_getD_getElem?,hg];rfl,hfu,fun i _=>⟨rfl,ay.refl P (aU i) w0,fun _=>rfl⟩⟩
 obtain ⟨gs,w,sl,own,τ,rfl,rest⟩:=hd
 exact ⟨N,gs,w,sl,T',own,τ,hrun,rest⟩
end
def nH (P:Program)(main:Bool)(cs:Array CommCase)(sh:CommShape)(g g2:Goroutine):Prop:=g.status=.running∧∀ w,stepG P main g w=.comm g2 cs true sh w #[]
def Plain (C:Nat→Prop)(cs:Array CommCase):Prop:=(∃ c v z,cs=#[scase c v z]∧C c)∨∀ cc∈cs,∃ c z,cc=rcase c z∧C c
def dm (P:Program)(E:Env)(O:Nat→Option (Array CommCase×CommShape))(Home:Nat→(Nat→Prop)→Goroutine→World→Prop)(s i:Nat)(M:Nat→Prop)(g:Goroutine)(w:World):Prop :=
 (∃ cs sh g2,O i=some (cs,sh)∧nH P (i == 0) cs sh g g2∧Home i M g2 w)∨(O i=none∧E.wk i∧g.status=.running∧∃ n,aH P E.ok E.Pre E.aI n s g)
def Kept (O:Nat→Option (Array CommCase×CommShape))(τ0 τ:Nat→Nat):Prop:=(∀ i cs,O i=some cs→τ i=τ0 i)∧∀ i,τ i≤τ0 i
theorem Kept.trans {O:Nat→Option (Array CommCase×CommShape)}{τ0 τ1 τ2:Nat→Nat}(a:Kept O τ0 τ1)(b:Kept O τ1 τ2):Kept O τ0 τ2:=⟨fun i cs e=>(b.1 i cs e).trans (a.1 i cs e),fun i=>Nat.le_trans (b.2 i) (a.2 i)⟩
structure Fits (C:Nat→Prop)(O:Nat→Option (Array CommCase×CommShape))(h j c k:Nat)(v z zj:Value)(fM shj:CommShape)(eF:Array CommCase):Prop where
 plain:∀ i cs sh,O i=some (cs,sh)→Plain C cs
 send:O h=some (#[scase c v z],fM)
 recv:O j=some (eF,shj)
 at_:eF[k]?=some (rcase c zj)
 once:∀ (m:Nat) (cc:CommCase),m≠k→eF[m]?=some cc→cc.chan≠.chan (some c)
 apart:h≠j
 lone:∀ i l iU jM jq shl a b,i≠l→O i=some (iU,jM)→O l=some (jq,shl)→a∈iU→b∈jq→a.send.isSome=true→b.send=none→a.chan=b.chan→i=h∧l=j
theorem JW {g:Goroutine}{cs:Array CommCase}{sh:CommShape}{c:Nat}{s:Bool}(h:∀ cc∈cs,cc.send.isSome=s→cc.chan≠.chan (some c)):offersAt (parked g cs sh) c s=[]:=by
 unfold offersAt parked
 dsimp only
 rw [List.map_eq_nil_iff,List.filter_eq_nil_iff]
 intro p hp hz
 have hm:p.1∈cs:=by rw [Array.toList_zipIdx] at hp;simpa using List.fst_mem_of_mem_zipIdx hp
 simp only [Bool.and_eq_true,beq_iff_eq] at hz
 refine h p.1 hm hz.1 ?_
 have h2:=hz.2
 split at h2
 ·rename_i r e;rw [e];simp only [beq_iff_eq] at h2;rw [h2]
 ·cases h2
theorem CQ {P:Program}{main:Bool}{cs cs':Array CommCase}{sh sh':CommShape}{g g2 g2':Goroutine}(h:nH P main cs sh g g2)(k:nH P main cs' sh' g g2'):g2=g2':=by
 have:=(h.2 default).symm.trans (k.2 default)
 simp only [GStep.comm.injEq] at this
 exact this.1
section
variable {P:Program}{C:Nat→Prop}{E:Env}{O:Nat→Option (Array CommCase×CommShape)}{Home:Nat→(Nat→Prop)→Goroutine→World→Prop}{h j c k:Nat}{v z zj:Value}{fM shj:CommShape}{eF:Array CommCase}
def Sat (P:Program)(E:Env)(O:Nat→Option (Array CommCase×CommShape))(Home:Nat→(Nat→Prop)→Goroutine→World→Prop)(s i:Nat)(M:Nat→Prop)(g:Goroutine)(w:World):Prop :=
 (O i=none∧E.wk i∧∃ n,aH P E.ok E.Pre E.aI n s g)∨∃ cs sh g2,O i=some (cs,sh)∧g=parked g2 cs sh∧∀ w1,ay P M w w1→Home i M g2 w1
def Last (E:Env)(O:Nat→Option (Array CommCase×CommShape))(L:List Nat)(i:Nat):Prop:=i∉L∧O i=none∧E.wk i
theorem Sat.CR (F:∀ i cs sh,O i=some (cs,sh)→Plain C cs){s i:Nat}{M:Nat→Prop}{g:Goroutine}{w:World}(hs:Sat P E O Home s i M g w)(hn:¬ (O i=none∧E.wk i)):uz C g:=by
 rcases hs with ⟨e,e2,_⟩ | ⟨cs,sh,g2,ho,rfl,_⟩
 ·exact absurd ⟨e,e2⟩ hn
 ·refine .inr ⟨g2,cs,sh,rfl,fun cc hcc=>?_⟩
  rcases F i cs sh ho with ⟨c,v,z,rfl,hc⟩ | hr
  ·simp only [List.mem_toArray,List.mem_cons,List.not_mem_nil,or_false] at hcc
   subst hcc
   exact ⟨c,rfl,hc⟩
  ·obtain ⟨c,z,rfl,hc⟩:=hr cc hcc
   exact ⟨c,rfl,hc⟩
theorem Sat.rely {s i:Nat}{M:Nat→Prop}{g:Goroutine}{w w1:World}(hs:Sat P E O Home s i M g w)(hr:ay P M w w1):Sat P E O Home s i M g w1:=by
 rcases hs with e | ⟨cs,sh,g2,ho,hg,hh⟩
 ·exact .inl e
 ·exact .inr ⟨cs,sh,g2,ho,hg,fun w2 h2=>hh w2 (hr.trans h2)⟩
theorem uC:∀ s i M g w,dm P E O Home s i M g w→g.status=.running:=by
 rintro s i M g w (⟨_,_,_,_,hc,_⟩ | ⟨_,_,h,_⟩)
 ·exact hc.1
 ·exact h
theorem nI {τ:Nat→Nat}{gs:Array Goroutine}{w:World}{own:Nat→Nat→Prop}{L:List Nat}(hact:∀ i g,gs[i]?=some g→i∈L→g.status=.running)(eY:∀ i g,gs[i]?=some g→i∉L→Sat P E O Home (τ i) i (own i) g w)
  {i x:Nat}{y:Goroutine}(hy:(gs.setIfInBounds i ph)[x]?=some y){c':Nat}{s:Bool}(hno:x≠i→x∉L→∀ cs sh,O x=some (cs,sh)→∀ cc∈cs,cc.send.isSome=s→cc.chan≠.chan (some c')):offersAt y c' s=[]:=by
 rcases getElem?_stand gs i x y hy with ⟨_,rfl⟩ | ⟨hx,hy'⟩
 ·exact offersAt_ph _ _
 ·by_cases hL:x∈L
  ·exact offersAt_of_not_blocked (by rw [hact x y hy' hL];simp) _ _
  ·rcases eY x y hy' hL with ⟨_,_,n,ht⟩ | ⟨cs,sh,g2,ho,rfl,_⟩
   ·exact offersAt_of_not_blocked (by rcases qd ht with e | e <;> rw [e] <;> simp) _ _
   ·exact JW (hno hx hL cs sh ho)
theorem zl (K:dB P E)(F:∀ i cs sh,O i=some (cs,sh)→Plain C cs){Stop:Nat→(Nat→Prop)→Goroutine→World→Prop}(L:List Nat)(hst:∀ i M g w,i∈L→Stop i M g w→g.status=.running){τ0:Nat→Nat}(hlv:∀ i,i∈L→E.lv i (τ0 i)){gs0:Array Goroutine}{w0:World}{sl0:Option (Nat×Nat)}{T0:Trace}{aU:Nat→Nat→Prop}
  (H0:bu P C E τ0 T0 w0 aU)(nJ:∀ i g,gs0[i]?=some g→i∈L→aj P (i == 0) (Stop i) (aU i) g w0)(lC:∀ i g,gs0[i]?=some g→i∉L→Sat P E O Home (τ0 i) i (aU i) g w0)(h1:∃ i,i∈L∧i < gs0.size) :
  ∃ N gs w sl T own τ,runNT P N (crowd gs0 w0 sl0) T0=(.next (crowd gs w sl),T)∧gs.size=gs0.size∧(∀ i,i∈L→τ i=τ0 i)∧bu P C E τ T w own∧(∀ i g,gs[i]?=some g→i∈L→aj P (i == 0) (Stop i) (own i) g w)∧(∀ i g,gs[i]?=some g→i∉L→Sat P E O Home (τ i) i (own i) g w)∧Kept O τ0 τ ∧
   ∃ i g d sl',i∈L∧gs[i]?=some g∧jL P (Stop i) (own i,g,w)∧stepT P (crowd gs w sl)=runT P (crowd gs (w.at d) sl') i:=by
 obtain ⟨N,gs,w,sl,T,own,τ,hrun,hsz,hτ,hle,H,hR,hrest,i,g,d,sl',gU,hig,hat,hstep⟩:=phase (P:=P) (C:=C) (E:=E) (A:=(·∈L)) (B:=Last E O L) (Stop:=Stop) (sl0:=sl0) K hst (fun i hi hb=>hb.1 hi) (fun i hb=>hb.2.2) hlv H0
  ⟨fun i g hg ha=>nJ i g hg ha,fun i g hg hb=>(by
   rcases lC i g hg hb.1 with ⟨_,_,q⟩ | ⟨cs,sh,g2,ho,_⟩
   ·exact q
   ·exact absurd (ho.symm.trans hb.2.1) ah),fun i g hg ha hb=>(lC i g hg ha).CR F fun q=>hb ⟨ha,q⟩⟩
  (by obtain ⟨i,hi,hlt⟩:=h1;exact ⟨i,_,hi,Array.getElem?_eq_getElem hlt⟩)
 refine ⟨N,gs,w,sl,T,own,τ,hrun,hsz,fun i hi=>hτ i fun q=>q.1 hi,H,fun i g hg hi=>hR.walk i g hg hi,fun x y hy hx=>?_,⟨fun i cs ho=>hτ i fun q=>absurd (ho.symm.trans q.2.1) ah,hle⟩,i,g,d,sl',gU,hig,hat,hstep⟩
 obtain ⟨q1,q2,q3⟩:=hrest x hx
 by_cases hb:Last E O L x
 ·exact .inl ⟨hb.2.1,hb.2.2,hR.tail x y hy hb⟩
 ·rw [q1,hτ x hb]
  exact (lC x y (q3 hb ▸ hy) hx).rely q2
theorem runNT_then {P:Program}:∀ (N M:Nat)(m m1:Machine)(t t1:Trace),runNT P N m t=(.next m1,t1)→runNT P (N+M) m t=runNT P M m1 t1:=by
 intro N
 induction N with
 | zero=>intro M m m1 t t1 e;simp only [runNT,Prod.mk.injEq,Stepped.next.injEq] at e;rw [e.1,e.2,Nat.zero_add]
 | succ N ih =>
  intro M m m1 t t1 e
  have e2:N+1+M=(N+M)+1:=by omega
  rw [e2]
  simp only [runNT] at e ⊢
  cases hs:stepT P m with
  | mk s ops =>
   rw [hs] at e
   cases s with
   | next m2=>exact ih M m2 m1 _ t1 e
   | ended o w=>simp at e
structure Sys (P:Program)(C:Nat→Prop)(E:Env)(τ:Nat→Nat)(O:Nat→Option (Array CommCase×CommShape))(Home:Nat→(Nat→Prop)→Goroutine→World→Prop)(gs:Array Goroutine)(w:World)(T:Trace)(own:Nat→Nat→Prop)(L:List Nat):Prop where
 eZ:bu P C E τ T w own
 act:∀ i g,gs[i]?=some g→i∈L→aj P (i == 0) (dm P E O Home (τ i) i) (own i) g w
 sat:∀ i g,gs[i]?=some g→i∉L→Sat P E O Home (τ i) i (own i) g w
 live:∀ i,i∈L→E.lv i (τ i)
def Met (P:Program)(C:Nat→Prop)(E:Env)(τ0:Nat→Nat)(O:Nat→Option (Array CommCase×CommShape))(Home:Nat→(Nat→Prop)→Goroutine→World→Prop)(h j c k:Nat)(v z:Value)(fM shj:CommShape)(eF:Array CommCase)(size:Nat)(m:Machine)(t:Trace):Prop :=
 ∃ (gs:Array Goroutine) (w:World) (sl:Option (Nat×Nat)) (T:Trace) (own:Nat→Nat→Prop) (L:List Nat) (gh gj:Goroutine) (k0:Nat) (fh fj:FuncId) (ps pj:String) (τ:Nat→Nat),
  m=crowd ((gs.setIfInBounds j (gj.finishComm P eF shj k v true)).setIfInBounds h (gh.finishComm P #[scase c v z] fM 0 undef false)) (w.setChan c 0 #[] false (k0+1) (k0+1) false) sl ∧
  t=T ++ met h j fh ps fj pj c k0 0∧gs.size=size∧h < size∧j < size∧bu P C E τ T w own∧w.heap[c]?=some (.chan 0 #[] false k0 k0 false) ∧
  (∀ i g,i≠h→i≠j→gs[i]?=some g→(i∈L→aj P (i == 0) (dm P E O Home (τ i) i) (own i) g w)∧(i∉L→Sat P E O Home (τ i) i (own i) g w))∧Home h (own h) gh w∧Home j (own j) gj w∧(∀ i,i∈L→E.lv i (τ i))∧Kept O τ0 τ
theorem meeting (K:dB P E)(F:Fits C O h j c k v z zj fM shj eF):∀ (n:Nat)(L:List Nat),L.length≤n→∀ (gs0:Array Goroutine)(w0:World)(sl0:Option (Nat×Nat))(T0:Trace)(aU:Nat→Nat→Prop)(τ0:Nat→Nat),Sys P C E τ0 O Home gs0 w0 T0 aU L→(h∈L∨j∈L)→h < gs0.size→j < gs0.size →
  ∃ N m T,runNT P N (crowd gs0 w0 sl0) T0=(.next m,T)∧Met P C E τ0 O Home h j c k v z fM shj eF gs0.size m T:=by
 intro n
 induction n with
 | zero =>
  intro L hL gs0 w0 sl0 T0 aU τ0 _ qh
  have:L=[]:=List.length_eq_zero_iff.1 (Nat.le_zero.1 hL)
  subst this
  rcases qh with z | z <;> cases z
 | succ n ih =>
  intro L hL gs0 w0 sl0 T0 aU τ0 H0 qh hh0 hj0
  obtain ⟨N,gs,w,sl,T,own,τ,hrun,hsz,hτ,H,nJ,eY,qi,i,g,d,sl',gU,hig,hat,hstep⟩:=zl (P:=P) (C:=C) (E:=E) (O:=O) (Home:=Home) (Stop:=fun i=>dm P E O Home (τ0 i) i) (sl0:=sl0) K F.plain L (fun i M g w _ hs=>uC (τ0 i) i M g w hs) H0.live H0.eZ H0.act H0.sat
   (by rcases qh with q | q
       ·exact ⟨h,q,hh0⟩
       ·exact ⟨j,q,hj0⟩)
  have hact:∀ x y,gs[x]?=some y→x∈L→aj P (x == 0) (dm P E O Home (τ x) x) (own x) y w:=fun x y hy hx=>by rw [hτ x hx];exact nJ x y hy hx
  have hlive:∀ x,x∈L→E.lv x (τ x):=fun x hx=>by rw [hτ x hx];exact H0.live x hx
  have mq:∀ x y,gs[x]?=some y→x∈L→y.status=.running:=fun x y hy hx=>lz (hact x y hy hx) fun M g w=>uC _ x M g w
  have hlen:(L.filter (·≠i)).length≤n:=by
   have:(L.filter (·≠i)).length < L.length:=List.length_filter_lt_length_iff_exists.2 ⟨i,gU,ah⟩
   omega
  have hlt:i < gs.size:=(Array.getElem?_eq_some_iff.1 hig).1
  have hmem:∀ x,x∈L.filter (·≠i)↔x∈L∧x≠i:=fun x=>by simp
  have CS:∀ m T,Met P C E τ O Home h j c k v z fM shj eF gs0.size m T→Met P C E τ0 O Home h j c k v z fM shj eF gs0.size m T:=by
   rintro m T ⟨gs,w,sl,T,own,L,gh,gj,k0,fh,fj,ps,pj,τ1,q1,q2,q3,q4,q5,q6,q7,q8,q9,fq,JX,JY⟩
   exact ⟨gs,w,sl,T,own,L,gh,gj,k0,fh,fj,ps,pj,τ1,q1,q2,q3,q4,q5,q6,q7,q8,q9,fq,JX,qi.trans JY⟩
  rcases hat w (ay.refl P (own i) w) with ⟨cs,sh,g2,hO,hcomm,JZ⟩ | ⟨hO,hi0,-,n1,hn1⟩
  case inr =>
   obtain ⟨N2,m2,T2,hr2,hM⟩:=ih (L.filter (·≠i)) hlen gs w sl T own τ ⟨H,fun x y hy hx=>hact x y hy ((hmem x).1 hx).1,fun x y hy hx=>by
     by_cases e:x=i
     ·subst e
      rw [hig] at hy
      cases hy
      exact .inl ⟨hO,hi0,n1,by rw [hτ x gU];exact hn1⟩
     ·exact eY x y hy fun q=>hx ((hmem x).2 ⟨q,e⟩),fun x hx=>hlive x ((hmem x).1 hx).1⟩
    (qh.imp (fun q=>(hmem h).2 ⟨q,fun y=>by rw [← y,F.send] at hO;cases hO⟩) fun q=>(hmem j).2 ⟨q,fun y=>by rw [← y,F.recv] at hO;cases hO⟩) ag ag
   exact ⟨N+N2,m2,T2,by rw [runNT_then N N2 _ _ _ _ hrun];exact hr2,CS _ _ (by simpa [hsz] using hM)⟩
  have hhome:∀ w1,ay P (own i) w w1→Home i (own i) g2 w1:=by
   intro w1 hr
   rcases hat w1 hr with ⟨cs',sh',g2',lD,zm,hh'⟩ | ⟨lD,_⟩
   ·rw [CQ hcomm zm]
    exact hh'
   ·rw [hO] at lD;cases lD
  have hcm:=hcomm.2 (w.at d)
  have hev:MemOp.ofEvents i g.frame.fn g.frame.place #[]=#[]:=rfl
  have nK:∀ c',C c'→∃ q,(w.at d).heap[c']?=some (.chan 0 #[] false q q false):=fun c' hc=>(H.chans c' hc).1
  have rA:(∀ cc∈cs,NoWays (w.at d) (gs.setIfInBounds i ph) cc)→(i=h→j∈L)→(i=j→h∈L)→∃ N m T,runNT P N (crowd gs0 w0 sl0) T0=(.next m,T)∧Met P C E τ0 O Home h j c k v z fM shj eF gs0.size m T:=by
   intro hnw hp1 hp2
   have hrt:=crowd_waits (sl:=sl') hig hcm hnw
   obtain ⟨N2,m2,T2,hr2,hM⟩:=ih (L.filter (·≠i)) hlen (gs.setIfInBounds i (parked g2 cs sh)) (w.at d) sl' T own τ ⟨H.at_ d,
    (fun x y hy hx=>by
     obtain ⟨hx1,hx2⟩:=(hmem x).1 hx
     rw [Array.getElem?_setIfInBounds_ne (fun q=>hx2 q.symm)] at hy
     exact (hact x y hy hx1).rely (ay.at_ P _ w d)),
    (fun x y hy hx=>by
     by_cases e:x=i
     ·subst e
      rw [Array.getElem?_setIfInBounds_self_of_lt hlt] at hy
      cases hy
      exact .inr ⟨cs,sh,g2,hO,rfl,fun w1 hr=>hhome w1 ((ay.at_ P _ w d).trans hr)⟩
     ·rw [Array.getElem?_setIfInBounds_ne (fun q=>e q.symm)] at hy
      exact (eY x y hy fun q=>hx ((hmem x).2 ⟨q,e⟩)).rely (ay.at_ P _ w d)),fun x hx=>hlive x ((hmem x).1 hx).1⟩
    (by by_cases e1:i=h
        ·exact .inr ((hmem j).2 ⟨hp1 e1,fun q=>F.apart (by rw [← e1,q])⟩)
        ·by_cases e2:i=j
         ·exact .inl ((hmem h).2 ⟨hp2 e2,fun q=>e1 q.symm⟩)
         ·exact qh.imp (fun q=>(hmem h).2 ⟨q,fun y=>e1 y.symm⟩) fun q=>(hmem j).2 ⟨q,fun y=>e2 y.symm⟩)
    (by simpa [hsz] using hh0) (by simpa [hsz] using hj0)
   refine ⟨N+(1+N2),m2,T2,?_,CS _ _ (by simpa [hsz] using hM)⟩
   rw [runNT_then N (1+N2) _ _ _ _ hrun,runNT_then 1 N2 _ (crowd (gs.setIfInBounds i (parked g2 cs sh)) (w.at d) sl') _ T (by simp only [runNT,hstep,hrt,hev,Array.append_empty])]
   exact hr2
  have uD:∀ {cc:CommCase},cc.send.isSome=false→cc.send=none:=fun {cc} e=>by cases q:cc.send with
   | none=>rfl
   | some x=>rw [q] at e;cases e
  by_cases e1:i=h
  ·subst e1
   have hsend:=F.send
   rw [hO] at hsend
   simp only [Option.some.injEq,Prod.mk.injEq] at hsend
   obtain ⟨rfl,rfl⟩:=hsend
   have zn:C c:=by
    rcases F.plain _ _ _ hO with ⟨c',v',z',e,hc⟩ | hr
    ·have:=congrArg (fun a:Array CommCase=>a.map (·.chan)) e
     simp only [scase,List.map_toArray,List.map_cons,List.map_nil,Array.mk.injEq,List.cons.injEq,Value.chan.injEq,Option.some.injEq,and_true] at this
     rw [this];exact hc
    ·obtain ⟨c',z',e,hc⟩:=hr (scase c v z) ah
     cases e
   obtain ⟨q,hq⟩:=nK c zn
   by_cases oL:j∈L
   ·refine rA (fun cc hcc=>?_) (fun _=>oL) fun e=>absurd e F.apart
    simp only [List.mem_toArray,List.mem_cons,List.not_mem_nil,or_false] at hcc
    subst hcc
    exact ways_send_none hq (Nat.le_refl _) (partners_nil fun x y hy=>nI mq eY hy fun hx my cs' sh' ho cc hcc hs he=>my ((F.lone i x _ _ _ _ (scase c v z) cc hx.symm hO ho ah hcc rfl (uD hs) he.symm).2 ▸ oL))
   ·have hjl:j < gs.size:=by rw [hsz];exact hj0
    rcases eY j _ (Array.getElem?_eq_getElem hjl) oL with ⟨e,_⟩ | ⟨cs',sh',gj,ho,hgj,J2⟩
    ·rw [F.recv] at e;cases e
    rw [F.recv] at ho
    simp only [Option.some.injEq,Prod.mk.injEq] at ho
    obtain ⟨rfl,rfl⟩:=ho
    have hj:gs[j]?=some (parked gj eF shj):=by rw [Array.getElem?_eq_getElem hjl,hgj]
    have hp:partners (gs.setIfInBounds i ph) c false=[(j,k)]:=by
     rw [partners_one (stand_get (i:=i) (fun e=>F.apart e.symm) hj) fun x y hx hy=>nI mq eY hy fun hxi my cs' sh' ho cc hcc hs he=>hx (F.lone i x _ _ _ _ (scase c v z) cc hxi.symm hO ho ah hcc rfl (uD hs) he.symm).2,offersAt_parked_at F.at_ F.once]
     rfl
    have hrt:=crowd_send_meets_sel (sl:=sl') hig hcm hq (fun e=>F.apart e.symm) hj F.at_ hp
    have hfin:=runNT_then N 1 _ _ _ _ hrun
    simp only [runNT,hstep,hrt,hev,Array.empty_append] at hfin
    refine ⟨N+1,_,_,hfin,gs,w.at d,sl',T,own,L,g2,gj,q,g2.frame.fn,gj.frame.fn,g2.frame.place,gj.frame.place,τ,rfl,rfl,hsz,hh0,hj0,H.at_ d,hq,fun x y _ _ hy=>⟨fun hx=>(hact x y hy hx).rely (ay.at_ P _ w d),fun hx=>(eY x y hy hx).rely (ay.at_ P _ w d)⟩,hhome _ (ay.at_ P _ w d),J2 _ (ay.at_ P _ w d),hlive,qi⟩
  by_cases e2:i=j
  ·subst e2
   have hrecv:=F.recv
   rw [hO] at hrecv
   simp only [Option.some.injEq,Prod.mk.injEq] at hrecv
   obtain ⟨rfl,rfl⟩:=hrecv
   have hall:∀ cc∈cs,∃ c' z',cc=rcase c' z'∧C c':=by
    rcases F.plain _ _ _ hO with ⟨c',v',z',rfl,_⟩ | hr
    ·have CU:=F.at_
     cases k with
     | zero=>simp [scase,rcase] at CU
     | succ k=>simp at CU
    ·exact hr
   by_cases qj:h∈L
   ·refine rA (fun cc hcc=>?_) (fun e=>absurd e e1) fun _=>qj
    obtain ⟨c',z',rfl,hc⟩:=hall cc hcc
    obtain ⟨q,hq⟩:=nK c' hc
    exact ways_recv_none hq (partners_nil fun x y hy=>nI mq eY hy fun hx my cs' sh' ho cc jN hs he=>my ((F.lone x i _ _ _ _ _ _ hx ho hO jN hcc hs rfl he).1 ▸ qj))
   ·have CV:h < gs.size:=by rw [hsz];exact hh0
    rcases eY h _ (Array.getElem?_eq_getElem CV) qj with ⟨e,_⟩ | ⟨cs',sh',gh,ho,hgh,J3⟩
    ·rw [F.send] at e;cases e
    rw [F.send] at ho
    simp only [Option.some.injEq,Prod.mk.injEq] at ho
    obtain ⟨rfl,rfl⟩:=ho
    have hh:gs[h]?=some (parked gh #[scase c v z] fM):=by rw [Array.getElem?_eq_getElem CV,hgh]
    have hmk:=Array.mem_of_getElem? F.at_
    obtain ⟨_,_,e,zn⟩:=hall _ hmk
    simp only [rcase,CommCase.mk.injEq,Value.chan.injEq,Option.some.injEq] at e
    obtain ⟨rfl,_⟩:=e
    obtain ⟨q,hq⟩:=nK c zn
    have hp:partners (gs.setIfInBounds i ph) c true=[(h,0)]:=by
     rw [partners_one (stand_get (i:=i) F.apart hh) fun x y hx hy=>nI mq eY hy fun hxi my cs' sh' ho cc hcc hs he=>hx (F.lone x i _ _ _ _ _ _ hxi ho hO hcc hmk hs rfl he).1,offersAt_parked_send,if_pos rfl]
     rfl
    have hrt:=crowd_sel_recv_meets (sl:=sl') hig hcm F.at_ (fun m cc hm hcc=>by
     have hmem:=Array.mem_of_getElem? hcc
     obtain ⟨c',z',rfl,hc⟩:=hall cc hmem
     obtain ⟨q',hq'⟩:=nK c' hc
     refine ways_recv_none hq' (partners_nil fun x y hy=>nI mq eY hy fun hx my cs' sh' ho cc jN hs he=>?_)
     have hxh:=(F.lone x i _ _ _ _ _ _ hx ho hO jN hmem hs rfl he).1
     subst hxh
     rw [F.send] at ho
     simp only [Option.some.injEq,Prod.mk.injEq] at ho
     obtain ⟨rfl,_⟩:=ho
     simp only [List.mem_toArray,List.mem_cons,List.not_mem_nil,or_false] at jN
     subst jN
     exact F.once m _ hm hcc he.symm) hq F.apart hh hp
    have J4:(gs.setIfInBounds h (gh.finishComm P #[scase c v z] fM 0 undef false)).setIfInBounds i (g2.finishComm P cs sh k v true)=(gs.setIfInBounds i (g2.finishComm P cs sh k v true)).setIfInBounds h (gh.finishComm P #[scase c v z] fM 0 undef false):=Array.setIfInBounds_comm _ _ F.apart
    have hfin:=runNT_then N 1 _ _ _ _ hrun
    simp only [runNT,hstep,hrt,hev,Array.empty_append] at hfin
    refine ⟨N+1,_,_,hfin,gs,w.at d,sl',T,own,L,gh,g2,q,gh.frame.fn,g2.frame.fn,gh.frame.place,g2.frame.place,τ,by rw [J4],rfl,hsz,hh0,hj0,H.at_ d,hq,fun x y _ _ hy=>⟨fun hx=>(hact x y hy hx).rely (ay.at_ P _ w d),fun hx=>(eY x y hy hx).rely (ay.at_ P _ w d)⟩,J3 _ (ay.at_ P _ w d),hhome _ (ay.at_ P _ w d),hlive,qi⟩
  ·refine rA (fun cc hcc=>?_) (fun e=>absurd e e1) fun e=>absurd e e2
   rcases F.plain _ _ _ hO with ⟨c',v',z',rfl,hc⟩ | hr
   ·simp only [List.mem_toArray,List.mem_cons,List.not_mem_nil,or_false] at hcc
    subst hcc
    obtain ⟨q,hq⟩:=nK c' hc
    exact ways_send_none hq (Nat.le_refl _) (partners_nil fun x y hy=>nI mq eY hy fun hx my cs' sh' ho cc jN hs he=>e1 (F.lone i x _ _ _ _ (scase c' v' z') cc hx.symm hO ho ah jN rfl (uD hs) he.symm).1)
   ·obtain ⟨c',z',rfl,hc⟩:=hr cc hcc
    obtain ⟨q,hq⟩:=nK c' hc
    exact ways_recv_none hq (partners_nil fun x y hy=>nI mq eY hy fun hx my cs' sh' ho cc jN hs he=>e2 (F.lone x i _ _ _ _ _ _ hx ho hO jN hcc hs rfl he).2)
end
end Go.Blind
namespace Go.Blind
inductive Ext (k0 k:List Item)(below:List Frame):Frame→List Frame→Frame→List Frame→Prop
 | bottom (fr:Frame) (x:Item) (xs:List Item):fr.kind=.normal→fr.todo=x :: (xs ++ k0)→Ext k0 k below fr below { fr with todo:=x :: (xs ++ k) } below
 | push (fr c c2:Frame) (cs cs2:List Frame):Ext k0 k below c cs c2 cs2→Ext k0 k below fr (c :: cs) fr (c2 :: cs2)
def Past (k0 k:List Item)(below:List Frame)(fr:Frame)(cs:List Frame)(aT:Frame)(cs2:List Frame):Prop:=cs=below∧cs2=below∧fr.todo=k0∧fr.kind=.normal∧aT={ fr with todo:=k }∧fr.mode=.run
section
variable {k0 k:List Item}{below:List Frame}
def bz (k0 k:List Item)(below:List Frame)(s s2:GStep):Prop :=
 ∀ bI cs1 u es,s=.go (ax bI cs1) u es→∃ oJ oK,s2=.go (ax oJ oK) u es∧(Ext k0 k below bI cs1 oJ oK∨Past k0 k below bI cs1 oJ oK)
theorem wW {fr fr':Frame}{cs cs':List Frame}(h:ax fr cs=ax fr' cs'):fr=fr'∧cs=cs':=by
 unfold ax at h
 simp only [Goroutine.mk.injEq] at h
 exact ⟨h.1,h.2.1⟩
theorem bz.go {fr aT:Frame}{cs cs2:List Frame}{w:World}{es:Array Event}(h:Ext k0 k below fr cs aT cs2):bz k0 k below (.go (ax fr cs) w es) (.go (ax aT cs2) w es):=by
 intro bI cs1 u es1 e
 simp only [GStep.go.injEq] at e
 obtain ⟨e1,rfl,rfl⟩:=e
 obtain ⟨rfl,rfl⟩:=wW e1
 exact ⟨_,_,rfl,.inl h⟩
theorem bz.past {fr aT:Frame}{cs cs2:List Frame}{w:World}{es:Array Event}(h:Past k0 k below fr cs aT cs2):bz k0 k below (.go (ax fr cs) w es) (.go (ax aT cs2) w es):=by
 intro bI cs1 u es1 e
 simp only [GStep.go.injEq] at e
 obtain ⟨e1,rfl,rfl⟩:=e
 obtain ⟨rfl,rfl⟩:=wW e1
 exact ⟨_,_,rfl,.inr h⟩
theorem bz.none {s s2:GStep}(h:∀ bI cs1 u es,s≠.go (ax bI cs1) u es):bz k0 k below s s2:=fun _ _ _ _ e=>absurd e (h _ _ _ _)
theorem bz.after {s s2:GStep}{es:Array Event}(h:bz k0 k below s s2):bz k0 k below (GStep.after es s) (GStep.after es s2):=by
 intro bI cs1 u es1 e
 cases s with
 | go g w e0 =>
  simp only [GStep.after,GStep.go.injEq] at e
  obtain ⟨rfl,rfl,rfl⟩:=e
  obtain ⟨oJ,oK,e2,h2⟩:=h _ _ _ _ rfl
  exact ⟨oJ,oK,by rw [e2];rfl,h2⟩
 | _=>cases e
theorem Ext.finish {fr aT:Frame}{cs cs2:List Frame}(h:Ext k0 k below fr cs aT cs2){ops:Array Oper}{l:List Nat}{r:List Item}(ht:fr.todo=.inRegion ops l :: r)(v:Value):Ext k0 k below (fr.finish v) cs (aT.finish v) cs2:=by
 cases h with
 | push _ c c2 cs cs2 h=>exact .push _ _ _ _ _ h
 | bottom _ x xs hk e =>
  rw [e] at ht
  simp only [List.cons.injEq] at ht
  obtain ⟨rfl,rfl⟩:=ht
  obtain ⟨fn,tmps,todo,defers,mode,kind,ro⟩:=fr
  simp only at e
  subst e
  cases l with
  | nil=>exact .bottom _ _ _ hk rfl
  | cons i rest=>exact Ext.bottom { fn:=fn,tmps:=_,todo:=.inRegion ops rest :: (xs ++ k0),defers:=defers,mode:=mode,kind:=kind,roundOf:=ro } (.inRegion ops rest) xs hk rfl
theorem Ext.mode {fr aT:Frame}{cs cs2:List Frame}(h:Ext k0 k below fr cs aT cs2)(m:FrameMode):Ext k0 k below { fr with mode:=m } cs { aT with mode:=m } cs2:=by
 cases h with
 | push _ c c2 cs cs2 h=>exact .push _ _ _ _ _ h
 | bottom _ x xs hk e=>exact Ext.bottom { fr with mode:=m } x xs hk e
theorem Ext.defers {fr aT:Frame}{cs cs2:List Frame}(h:Ext k0 k below fr cs aT cs2)(d:List Deferred):Ext k0 k below { fr with defers:=d } cs { aT with defers:=d } cs2:=by
 cases h with
 | push _ c c2 cs cs2 h=>exact .push _ _ _ _ _ h
 | bottom _ x xs hk e=>exact Ext.bottom { fr with defers:=d } x xs hk e
theorem Ext.same {fr aT:Frame}{cs cs2:List Frame}(h:Ext k0 k below fr cs aT cs2):aT.fn=fr.fn∧aT.tmps=fr.tmps∧aT.defers=fr.defers∧aT.mode=fr.mode∧aT.kind=fr.kind∧aT.roundOf=fr.roundOf∧aT.todo.head?=fr.todo.head?:=by
 cases h with
 | push _ c c2 cs cs2 h=>exact ⟨rfl,rfl,rfl,rfl,rfl,rfl,rfl⟩
 | bottom _ x xs hk e=>exact ⟨rfl,rfl,rfl,rfl,rfl,rfl,by rw [e];rfl⟩
theorem Ext.raise {fr aT:Frame}{cs cs2:List Frame}(h:Ext k0 k below fr cs aT cs2)(ps:List PanicEntry):Ext k0 k below (fr.raise ps) cs (aT.raise ps) cs2:=by
 have hm:=h.same.2.2.2.1
 unfold Frame.raise
 rw [hm]
 cases fr.mode <;> exact h.mode _
theorem CW {fr aT:Frame}{cs cs2:List Frame}(h:Ext k0 k below fr cs aT cs2)(hk:fr.kind=.normal∨fr.kind=.deferred) :
  (tryRecover fr cs=none∧tryRecover aT cs2=none)∨∃ x ds wX,tryRecover fr cs=some (x,ds)∧tryRecover aT cs2=some (x,wX)∧Ext k0 k below fr ds aT wX:=by
 cases h with
 | bottom _ x xs hn e=>exact .inl ⟨by unfold tryRecover;rw [hn],by unfold tryRecover;simp only [hn]⟩
 | push _ c c2 cs cs2 h =>
  rcases hk with z | z
  ·exact .inl ⟨by unfold tryRecover;rw [z],by unfold tryRecover;rw [z]⟩
  ·have hm:=h.same.2.2.2.1
   unfold tryRecover
   rw [z]
   dsimp only
   rw [hm]
   cases em:c.mode with
   | run=>exact .inl ⟨rfl,rfl⟩
   | returning=>exact .inl ⟨rfl,rfl⟩
   | panicking ps =>
    rcases ps with _ | ⟨⟨pv,pr,pg⟩,ps⟩
    ·exact .inl ⟨rfl,rfl⟩
    ·cases pr with
     | true=>exact .inl ⟨rfl,rfl⟩
     | false =>
      cases pg with
      | true=>exact .inl ⟨rfl,rfl⟩
      | false=>exact .inr ⟨pv,_,_,rfl,rfl,.push _ _ _ _ _ (h.mode _)⟩
def J5:Next→Prop
 | .value _ | .skip | .enter _ _ | .defer _ | .recover | .comm _ _ _=>True
 | _=>False
def uE (r:Result Next):Prop:=(∃ y u,r=.halt (.panic y) u)∨∃ n u,r=.ok n u∧J5 n
section
variable {P:Program}{K:av}
theorem J6 {v w:World}(hs:aY P K v w)(ha:Agree v w){s t:Sem Next}(hst:SR P (NR P) K s t){wY a:Frame}{cs0 b:List Frame}{v1:World}{es0:Array Event}
  (hgo:stepG.apply P true wY cs0 none s v=.go (ax a b) v1 es0):uE (t.run P w):=by
 have hr:=(hst v w #[] hs ha).1
 obtain ⟨el,hl⟩:=jJ (P:=P) (s:=s) (v:=v)
 unfold stepG.apply at hgo
 simp only [if_true,hl] at hgo
 cases hrun:s.run P v with
 | halt q v1 =>
  rw [hrun] at hr hgo
  cases q with
  | panic x =>
   obtain ⟨L,y,w1,new,e',hv,ht⟩:=hr
   have:=Sem.runT_fst P t w #[]
   rw [e'] at this
   exact .inl ⟨y,w1,this.symm⟩
  | blocked=>cases hgo
  | waiting=>cases hgo
  | exit c=>cases hgo
  | fatal m=>cases hr
  | throw m=>cases hr
  | goexit=>cases hr
  | unsupported u=>cases u <;> first | (cases hr;done) | (cases hgo;done)
  | stuck m=>cases hgo
 | ok n v1 =>
  rw [hrun] at hr
  obtain ⟨L,n',w1,new,e',hn,ht⟩:=hr
  have:=Sem.runT_fst P t w #[]
  rw [e'] at this
  refine .inr ⟨n',w1,this.symm,?_⟩
  cases hn <;> trivial
end
theorem CX {P:Program}{w:World}{t:Sem Next}(ht:uE (t.run P w)){fr aT:Frame}{cs cs2:List Frame}(h:Ext k0 k below fr cs aT cs2){ops:Array Oper}{l:List Nat}{r:List Item}(hx:fr.todo=.inRegion ops l :: r)(hro:fr.roundOf=none)(hk:fr.kind=.normal∨fr.kind=.deferred) :
  bz k0 k below (stepG.apply P true fr cs none t w) (stepG.apply P true aT cs2 none t w):=by
 obtain ⟨h1,h2,h3,h4,h5,h6,h7⟩:=h.same
 obtain ⟨r2,hx2⟩:∃ r2,aT.todo=.inRegion ops l :: r2:=by
  rw [hx] at h7
  cases e:aT.todo with
  | nil=>rw [e] at h7;cases h7
  | cons y r2=>rw [e] at h7;simp only [List.head?_cons,Option.some.injEq] at h7;exact ⟨r2,by rw [h7]⟩
 obtain ⟨el,hl⟩:=jJ (P:=P) (s:=t) (v:=w)
 unfold stepG.apply
 simp only [if_true,hl,h1,h5,h6,hro,hx,hx2]
 refine bz.after ?_
 rcases ht with ⟨y,u,e⟩ | ⟨n,u,e,hn⟩
 ·rw [e]
  exact bz.go (h.raise _)
 ·rw [e]
  cases n with
  | value x=>exact bz.go (h.finish hx _)
  | skip=>exact bz.go (h.finish hx _)
  | enter f xs=>exact bz.go (.push _ _ _ _ _ h)
  | defer d =>
   dsimp only
   rw [h3]
   have hd:=(h.defers (d :: fr.defers)).finish hx undef
   simp only [h1,h5,h6,hro,hx,hx2] at hd
   exact bz.go hd
  | recover =>
   dsimp only
   rcases CW h hk with ⟨t1,t2⟩ | ⟨x,ds,wX,t1,t2,hd⟩
   ·simp only [t1,t2]
    exact bz.go (h.finish hx _)
   ·simp only [t1,t2]
    exact bz.go (hd.finish hx _)
  | comm a b c=>exact bz.none fun _ _ _ _ e=>by cases e
  | _=>exact hn.elim
end
section
variable {P:Program}{G:FuncId→Bool}{K:av}{lb below:List Frame}{k0 k:List Item}
theorem CY (H:Good P G)(hK:∀ f,K.good f↔G f=true){v w:World}(hs:aY P K v w)(ha:Agree v w){fr fr':Frame}{cs cs':List Frame}(h:SK P G K lb below fr cs fr' cs'){ops:Array Oper}{i:Nat}{rest:List Nat}{kk:List Item}{o:Oper}(ht:fr'.todo=.inRegion ops (i :: rest) :: kk)(ho:ops[i]?=some o)
  (hw:Region.wanted o (yielded ops fr'.tmps)=true){a:Frame}{b:List Frame}{v1:World}{es0:Array Event}(hgo:stepG.exec P true true fr cs none v=.go (ax a b) v1 es0):uE ((execOp fr'.eval o).run P w):=by
 have r:=h.top
 have hb:∀ g,g < P.globals.size→K.b g g:=fun g hg=>hs.base g ag
 have hf:=r.fits
 have ht0:fr.todo=.inRegion ops (i :: rest) :: kk:=r.todo.trans ht
 rw [ht0] at hf
 simp only [List.all_cons,Bool.and_eq_true] at hf
 have hof:pZ P G o=true:=Array.all_eq_true_iff_forall_mem.1 hf.1 o (Array.mem_of_getElem? ho)
 have hap:=SR.execOp H.toFitX hK hof fun x hx=>r.eval hK hb (Array.all_eq_true_iff_forall_mem.1 (Bool.and_eq_true_iff.1 hof).2 x hx)
 refine J6 hs ha hap (wY:=fr) (cs0:=cs) (a:=a) (b:=b) (v1:=v1) (es0:=es0) ?_
 have hy:yielded ops fr.tmps=yielded ops fr'.tmps:=Ci r ops
 unfold stepG.exec at hgo
 simp only [ht0,ho,hy,Option.map_some,Option.getD_some,hw,if_true] at hgo
 unfold stepG.oper at hgo
 simp only [Frame.oper?,ht0,ho,r.round] at hgo
 exact hgo
theorem J7 {id:Nat}{k0 k:List Item}(h0:∀ id,exitTo id k0=none):∀ (xs:List Item),(exitTo id (xs ++ k0)=none)∨∃ ys,exitTo id (xs ++ k0)=some (ys ++ k0)∧exitTo id (xs ++ k)=some (ys ++ k):=by
 intro xs
 induction xs with
 | nil=>exact .inl (h0 id)
 | cons x xs ih =>
  cases x with
  | inBlock id' =>
   simp only [List.cons_append,exitTo]
   by_cases e:(id' == id)=true
   ·rw [if_pos e,if_pos e];exact .inr ⟨xs,rfl,rfl⟩
   ·rw [if_neg e,if_neg e];exact ih
  | _=>exact ih
theorem J8 (H:Good P G)(hK:∀ f,K.good f↔G f=true){main:Bool}{v w:World}(hs:aY P K v w)(ha:Agree v w){fr fr' c c2:Frame}{cs cs' cs2:List Frame}(h:SK P G K lb below fr cs fr' (c :: cs'))(he:Ext k0 k below c cs' c2 cs2)
  {a:Frame}{b:List Frame}{v1:World}{es0:Array Event}(hgo:stepG.exec P true true fr cs none v=.go (ax a b) v1 es0):bz k0 k below (stepG.exec P main true fr' (c :: cs') none w) (stepG.exec P main true fr' (c2 :: cs2) none w):=by
 have tm:=fun ops i rest kk o=>CY (ops:=ops) (i:=i) (rest:=rest) (kk:=kk) (o:=o) H hK hs ha h
 have go:∀ (g:Frame) (u:World),bz k0 k below (.go (ax g (c :: cs')) u) (.go (ax g (c2 :: cs2)) u):=fun g u=>bz.go (.push _ _ _ _ _ he)
 have r:=h.top
 have hk:fr'.kind=.normal∨fr'.kind=.deferred:=by rw [← r.kind];exact r.kinds
 have hf:fr'.todo.all (gT P G)=true:=by rw [← r.todo];exact r.fits
 have hro:=r.round'
 have hap:=fun t ht ops l rr hx=>CX (P:=P) (w:=w) (t:=t) ht (Ext.push fr' c c2 cs' cs2 he) (ops:=ops) (l:=l) (r:=rr) hx hro hk
 clear r h
 obtain ⟨fn',tmps',todo',defers',mode',kind',ro'⟩:=fr'
 simp only at hro hf
 subst hro
 unfold stepG.exec
 rcases todo' with _ | ⟨it,kk⟩
 ·exact go _ _
 simp only [List.all_cons,Bool.and_eq_true] at hf
 obtain ⟨h1,h2⟩:=hf
 cases it with
 | inBlock id=>exact go _ _
 | inScope c=>exact go _ _
 | inLoop c=>exact go _ _
 | inRangeFunc _=>cases h1
 | endRangeFunc _=>cases h1
 | beginRound=>cases h1
 | call _ _ _ _=>cases h1
 | extern _ _=>cases h1
 | inRegion ops l =>
  cases l with
  | nil=>exact go _ _
  | cons i rest =>
   dsimp only
   by_cases hw:((ops[i]?).map (Region.wanted · (yielded ops tmps'))).getD false=true
   ·rw [if_pos hw,if_pos hw]
    unfold stepG.oper
    cases ho:ops[i]? with
    | none=>simp only [Frame.oper?,ho];exact bz.none fun _ _ _ _ e=>by cases e
    | some o =>
     simp only [Frame.oper?,ho]
     rw [ho] at hw
     exact hap _ (tm ops i rest kk o rfl ho hw hgo) ops (i :: rest) kk rfl
   ·rw [if_neg hw,if_neg hw]
    exact go _ _
 | code c =>
  cases c with
  | skip=>exact go _ _
  | label l=>exact go _ _
  | ret=>exact go _ _
  | seq a b=>exact go _ _
  | block id b=>exact go _ _
  | loop b=>exact go _ _
  | scope b=>exact go _ _
  | refuse s=>exact bz.none fun _ _ _ _ e=>by cases e
  | goto l=>cases h1
  | rangeFunc _ _ _ _=>cases h1
  | exit id =>
   dsimp only
   cases hx:exitTo id kk with
   | none=>exact bz.none fun _ _ _ _ e=>by cases e
   | some k'=>exact go _ _
  | cond c a b =>
   dsimp only
   cases Frame.eval _ c with
   | bool t=>exact go _ _
   | _=>exact bz.none fun _ _ _ _ e=>by cases e
  | region id ops draw =>
   cases draw with
   | false=>exact go _ _
   | true =>
    dsimp only
    simp only [Bool.not_true,Bool.false_eq_true,if_false,Go.choose,Sem.run,Question.forced,Question.cut]
    exact go _ _
theorem J9 (H:Good P G)(hK:∀ f,K.good f↔G f=true){main:Bool}{v w:World}(hs:aY P K v w)(ha:Agree v w){fr fr':Frame}{cs:List Frame}(h:SK P G K lb below fr cs fr' below){x:Item}{xs:List Item}(hn:fr'.kind=.normal)(hx:fr'.todo=x :: (xs ++ k0))(hm:fr'.mode=.run)(h0:∀ id,exitTo id k0=none)
  {a:Frame}{b:List Frame}{v1:World}{es0:Array Event}(hgo:stepG.exec P true true fr cs none v=.go (ax a b) v1 es0):bz k0 k below (stepG.exec P main true fr' below none w) (stepG.exec P main true { fr' with todo:=x :: (xs ++ k) } below none w):=by
 have tm:=fun ops i rest kk o=>CY (ops:=ops) (i:=i) (rest:=rest) (kk:=kk) (o:=o) H hK hs ha h
 have r:=h.top
 have hf:fr'.todo.all (gT P G)=true:=by rw [← r.todo];exact r.fits
 have hro:=r.round'
 have hap:=fun t ht ops l rr hx'=>CX (P:=P) (w:=w) (t:=t) ht (Ext.bottom (k:=k) (below:=below) fr' x xs hn hx) (ops:=ops) (l:=l) (r:=rr) hx' hro (.inl hn)
 clear r h
 obtain ⟨fn',tmps',todo',defers',mode',kind',ro'⟩:=fr'
 simp only at hro hf hn hx hm
 subst hro hn hx hm
 have to:∀ (ys:List Item) (u:World),bz k0 k below (.go (ax ⟨fn',tmps',ys ++ k0,defers',.run,.normal,none⟩ below) u) (.go (ax ⟨fn',tmps',ys ++ k,defers',.run,.normal,none⟩ below) u):=by
  intro ys u
  rcases ys with _ | ⟨y,ys⟩
  ·exact bz.past ⟨rfl,rfl,rfl,rfl,rfl,rfl⟩
  ·exact bz.go (Ext.bottom ⟨fn',tmps',y :: (ys ++ k0),defers',.run,.normal,none⟩ y ys rfl rfl)
 unfold stepG.exec
 simp only [List.all_cons,Bool.and_eq_true] at hf
 obtain ⟨h1,h2⟩:=hf
 cases x with
 | inBlock id=>exact to xs _
 | inScope c=>exact to xs _
 | inLoop c=>exact to (.code c :: .inLoop c :: xs) _
 | inRangeFunc _=>cases h1
 | endRangeFunc _=>cases h1
 | beginRound=>cases h1
 | call _ _ _ _=>cases h1
 | extern _ _=>cases h1
 | inRegion ops l =>
  cases l with
  | nil=>exact to xs _
  | cons i rest =>
   dsimp only
   by_cases hw:((ops[i]?).map (Region.wanted · (yielded ops tmps'))).getD false=true
   ·rw [if_pos hw,if_pos hw]
    unfold stepG.oper
    cases ho:ops[i]? with
    | none=>simp only [Frame.oper?,ho];exact bz.none fun _ _ _ _ e=>by cases e
    | some o =>
     simp only [Frame.oper?,ho]
     rw [ho] at hw
     exact hap _ (tm ops i rest (xs ++ k0) o rfl ho hw hgo) ops (i :: rest) (xs ++ k0) rfl
   ·rw [if_neg hw,if_neg hw]
    exact bz.go ((Ext.bottom (k:=k) (below:=below) ⟨fn',tmps',.inRegion ops (i :: rest) :: (xs ++ k0),defers',.run,.normal,none⟩ _ xs rfl rfl).finish rfl _)
 | code c =>
  cases c with
  | skip=>exact to xs _
  | label l=>exact to xs _
  | ret=>exact bz.go (Ext.bottom ⟨fn',tmps',.code .ret :: (xs ++ k0),defers',.returning,.normal,none⟩ _ xs rfl rfl)
  | seq a b=>exact to (.code a :: .code b :: xs) _
  | block id b=>exact to (.code b :: .inBlock id :: xs) _
  | loop b=>exact to (.code b :: .inLoop b :: xs) _
  | scope b=>exact to (.code b :: .inScope b :: xs) _
  | refuse s=>exact bz.none fun _ _ _ _ e=>by cases e
  | goto l=>cases h1
  | rangeFunc _ _ _ _=>cases h1
  | exit id =>
   dsimp only
   rcases J7 (id:=id) (k:=k) h0 xs with e | ⟨ys,e1,e2⟩
   ·rw [e];exact bz.none fun _ _ _ _ e=>by cases e
   ·rw [e1,e2];exact to ys _
  | cond c a b =>
   have hev:Frame.eval ⟨fn',tmps',.code (.cond c a b) :: (xs ++ k),defers',.run,.normal,none⟩ c=Frame.eval ⟨fn',tmps',.code (.cond c a b) :: (xs ++ k0),defers',.run,.normal,none⟩ c:=by cases c <;> rfl
   dsimp only
   rw [hev]
   cases Frame.eval _ c with
   | bool t=>exact to (.code (if t then a else b) :: xs) _
   | _=>exact bz.none fun _ _ _ _ e=>by cases e
  | region id ops draw =>
   cases draw with
   | false=>exact to (.inRegion ops (List.range ops.size) :: xs) _
   | true =>
    dsimp only
    simp only [Bool.not_true,Bool.false_eq_true,if_false,Go.choose,Sem.run,Question.forced,Question.cut]
    exact to (.inRegion ops _ :: xs) _
end
section
variable {P:Program}{G:FuncId→Bool}{K:av}{lb below:List Frame}{k0 k:List Item}
theorem SK.depth {fr fr':Frame}{cs cs':List Frame}(h:SK P G K lb below fr cs fr' cs'):∃ n,cs'.length=below.length+n∧(n=0→cs=lb∧cs'=below):=by
 induction h with
 | bottom fr fr' r k=>exact ⟨0,rfl,fun _=>⟨rfl,rfl⟩⟩
 | push fr fr' c c' cs cs' r rest ih=>obtain ⟨n,h1,_⟩:=ih;exact ⟨n+1,by rw [List.length_cons,h1];rfl,fun e=>by cases e⟩
theorem Ext.depth {fr fr':Frame}{cs cs':List Frame}(h:Ext k0 k below fr cs fr' cs'):∃ n,cs.length=below.length+n:=by
 induction h with
 | bottom fr x xs hk e=>exact ⟨0,rfl⟩
 | push fr c c2 cs cs2 h ih=>obtain ⟨n,h1⟩:=ih;exact ⟨n+1,by rw [List.length_cons,h1];rfl⟩
theorem SK.ground {fr fr':Frame}{cs:List Frame}(h:SK P G K lb below fr cs fr' below):cs=lb:=by
 obtain ⟨n,h1,h2⟩:=h.depth
 exact (h2 ag).1
theorem Ext.done {fr aT:Frame}{cs cs2:List Frame}(h:Ext k0 k below fr cs aT cs2)(hf:fr.todo.all (gT P G)=true)(v:Value):Ext k0 k below (fr.finish v) cs (aT.finish v) cs2:=by
 have hfin:=fun ops l r ht=>h.finish (ops:=ops) (l:=l) (r:=r) ht v
 cases h with
 | push _ c c2 cs cs2 h=>exact .push _ _ _ _ _ h
 | bottom _ x xs hk e =>
  rw [e] at hf
  simp only [List.all_cons,Bool.and_eq_true] at hf
  have same:∀ y:Item,x=y→(match y with | .code _ | .inBlock _ | .inLoop _ | .inScope _=>True | _=>False)→Ext k0 k below (fr.finish v) below ({ fr with todo:=x :: (xs ++ k) }.finish v) below:=by
   intro y hy hc
   have e1:fr.finish v=fr:=by unfold Frame.finish;rw [e,hy];cases y <;> first | rfl | exact hc.elim
   have e2:({ fr with todo:=x :: (xs ++ k) }:Frame).finish v={ fr with todo:=x :: (xs ++ k) }:=by unfold Frame.finish;rw [hy];cases y <;> first | rfl | exact hc.elim
   rw [e1,e2]
   exact .bottom _ x xs hk e
  cases x with
  | inRegion ops l=>exact hfin ops l _ e
  | code c=>exact same _ rfl trivial
  | inBlock id=>exact same _ rfl trivial
  | inLoop c=>exact same _ rfl trivial
  | inScope c=>exact same _ rfl trivial
  | inRangeFunc _=>cases hf.1
  | endRangeFunc _=>cases hf.1
  | beginRound=>cases hf.1
  | call _ _ _ _=>cases hf.1
  | extern _ _=>cases hf.1
theorem Ka (H:Good P G)(hK:∀ f,K.good f↔G f=true){v w:World}(hs:aY P K v w)(ha:Agree v w){fr a:Frame}{cs b:List Frame}{d d':Deferred}(hd:DR K d d'){v1:World}{es0:Array Event}
  (hgo:callDeferred P fr cs none d v=.go (ax a b) v1 es0):uE ((invoke d'.target d'.args).run P w):=by
 have hr:=(SR.invoke H.toFitX hK hd.target hd.args v w #[] hs ha).1
 obtain ⟨el,hl⟩:=jJ (P:=P) (s:=invoke d.target d.args) (v:=v)
 unfold callDeferred at hgo
 have hgo:=(Cs hgo).2
 simp only [hl] at hgo
 cases hrun:(invoke d.target d.args).run P v with
 | halt q v1 =>
  rw [hrun] at hr hgo
  cases q with
  | panic x =>
   obtain ⟨L,y,w1,new,e',hv,ht⟩:=hr
   have:=Sem.runT_fst P (invoke d'.target d'.args) w #[]
   rw [e'] at this
   exact .inl ⟨y,w1,this.symm⟩
  | blocked=>cases hgo
  | waiting=>cases hgo
  | exit c=>cases hgo
  | fatal m=>cases hr
  | throw m=>cases hr
  | goexit=>cases hr
  | unsupported u=>cases u <;> first | (cases hr;done) | (cases hgo;done)
  | stuck m=>cases hgo
 | ok n v1 =>
  rw [hrun] at hr
  obtain ⟨L,n',w1,new,e',hn,ht⟩:=hr
  have:=Sem.runT_fst P (invoke d'.target d'.args) w #[]
  rw [e'] at this
  refine .inr ⟨n',w1,this.symm,?_⟩
  cases hn <;> trivial
theorem Kb {c:Prop}{hc hc':Decidable c}{o o':Outcome}{u u':World}{es es':Array Event}{s s':GStep}(h:bz k0 k below s s'):bz k0 k below (@ite _ c hc (.ended o u es) s) (@ite _ c hc' (.ended o' u' es') s'):=by
 by_cases z:c
 ·rw [if_pos z];exact bz.none fun _ _ _ _ e=>by cases e
 ·rw [if_neg z,if_neg z];exact h
theorem Kc {w:World}{d:Deferred}(ht:uE ((invoke d.target d.args).run P w)){fr aT:Frame}{cs cs2:List Frame}(h:Ext k0 k below fr cs aT cs2)(hk:fr.kind=.normal∨fr.kind=.deferred) :
  bz k0 k below (callDeferred P fr cs none d w) (callDeferred P aT cs2 none d w):=by
 obtain ⟨h1,h2,h3,h4,h5,h6,h7⟩:=h.same
 obtain ⟨el,hl⟩:=jJ (P:=P) (s:=invoke d.target d.args) (v:=w)
 unfold callDeferred
 rw [h4,h1]
 refine Kb ?_
 simp only [hl]
 refine bz.after ?_
 rcases ht with ⟨y,u,e⟩ | ⟨n,u,e,hn⟩
 ·rw [e]
  exact bz.go (h.raise _)
 ·rw [e]
  cases n with
  | value x=>exact bz.go h
  | skip=>exact bz.go h
  | enter f xs=>exact bz.go (.push _ _ _ _ _ h)
  | defer d=>exact bz.go h
  | comm a b c=>exact bz.go h
  | recover =>
   dsimp only
   rcases CW h hk with ⟨t1,t2⟩ | ⟨x,ds,wX,t1,t2,hd⟩
   ·simp only [t1,t2]
    cases fr.mode <;> exact bz.go h
   ·simp only [t1,t2]
    cases fr.mode with
    | returning=>exact bz.go hd
    | _=>exact bz.go h
  | _=>exact hn.elim
theorem Ke {main main':Bool}{w:World}{fr c c2:Frame}{cs cs2:List Frame}(h:Ext k0 k below c cs c2 cs2)(hf:c.todo.all (gT P G)=true)(hk:fr.kind=.normal∨fr.kind=.deferred)(x:Value) :
  bz k0 k below (doReturn P main fr (c :: cs) none x w) (doReturn P main' fr (c2 :: cs2) none x w):=by
 unfold doReturn
 rcases hk with z | z
 ·rw [z];exact bz.go (h.done hf x)
 ·rw [z]
  dsimp only
  have hm:=h.same.2.2.2.1
  rw [hm]
  cases c.mode with
  | run=>exact bz.go h
  | returning=>exact bz.go h
  | panicking ps =>
   rcases ps with _ | ⟨⟨pv,pr,pg⟩,ps⟩
   ·exact bz.go h
   ·cases pr with
    | false=>exact bz.go h
    | true =>
     dsimp only
     cases ps.dropWhile (!·.goexit) with
     | nil=>exact bz.go (h.mode _)
     | cons q qs=>exact bz.go (h.mode _)
theorem CZ (H:Good P G)(hK:∀ f,K.good f↔G f=true){main:Bool}{v w:World}(hs:aY P K v w)(ha:Agree v w){fr fr' aT:Frame}{cs cs' cs2:List Frame}(h:SK P G K lb below fr cs fr' cs')(hl:¬ Leaves lb fr cs)(hrun:match fr.mode with | .run=>False | _=>True)(he:Ext k0 k below fr' cs' aT cs2)
  {a:Frame}{b:List Frame}{v1:World}{es0:Array Event}(hgo:unwind P true fr cs none v=.go (ax a b) v1 es0):bz k0 k below (unwind P main fr' cs' none w) (unwind P main aT cs2 none w):=by
 have r:=h.top
 have hk:fr'.kind=.normal∨fr'.kind=.deferred:=by rw [← r.kind];exact r.kinds
 have hd:=r.defers
 obtain ⟨h1,h2,h3,h4,h5,h6,h7⟩:=he.same
 unfold unwind at hgo ⊢
 rw [h3]
 generalize ed:fr.defers=ds at hd hgo
 generalize Cm:fr'.defers=ds' at hd
 cases hd with
 | cons d d' ds ds' g1 g2 =>
  have ht:=g1.target
  have key:=fun z=>Kc (P:=P) (w:=w) (d:=d') z (he.defers ds') hk
  have tm:=fun {wY:Frame} {cs0:List Frame} z=>Ka (fr:=wY) (cs:=cs0) (a:=a) (b:=b) (v1:=v1) (es0:=es0) H hK hs ha g1 z
  obtain ⟨tg,ar⟩:=d
  obtain ⟨Cn,Co⟩:=d'
  simp only at ht
  cases ht <;> exact key (tm hgo)
 | nil =>
  cases he with
  | bottom _ x xs hn e=>exact absurd ⟨h.ground,ed,hrun⟩ hl
  | push _ c c2 cs' cs2 he =>
   cases h with
   | bottom _ _ _ _ =>
    obtain ⟨n,hn⟩:=he.depth
    simp only [List.length_cons] at hn
    omega
   | push _ _ c0 _ cs0 _ _ rest =>
    have hm:=r.mode
    obtain ⟨fn,hfn⟩:=r.there
    have hfn':P.funcs[fr'.fn]?=some fn:=by rw [← r.fn];exact hfn
    have hf:c.todo.all (gT P G)=true:=by rw [← rest.top.todo];exact rest.top.fits
    generalize em:fr.mode=m at hm hrun
    generalize p9:fr'.mode=m' at hm
    cases hm with
    | run=>exact hrun.elim
    | panicking ps qs hp =>
     have c1:fr'.catches P=false:=by unfold Frame.catches;rw [hfn']
     simp only [c1,Bool.false_eq_true,if_false]
     exact bz.go (he.raise _)
    | returning =>
     simp only [hfn']
     refine bz.after ?_
     obtain ⟨el,hl⟩:=jJ (P:=P) (s:=results fn fr'.tmps) (v:=w)
     rw [hl]
     cases (results fn fr'.tmps).run P w with
     | halt q u=>cases q <;> exact bz.none fun _ _ _ _ e=>by cases e
     | ok x u=>exact Ke he hf hk x
theorem Kg (H:Good P G)(hK:∀ f,K.good f↔G f=true){main:Bool}{v w:World}(hs:aY P K v w)(ha:Agree v w){fr fr' aT:Frame}{cs cs' cs2:List Frame}(h:SK P G K lb below fr cs fr' cs')(hl:¬ Leaves lb fr cs)(h0:∀ id,exitTo id k0=none)(he:Ext k0 k below fr' cs' aT cs2)
  {a:Frame}{b:List Frame}{v1:World}{es0:Array Event}(hgo:stepG P true (ax fr cs) v=.go (ax a b) v1 es0):bz k0 k below (stepG P main (ax fr' cs') w) (stepG P main (ax aT cs2) w):=by
 have hm:=h.top.mode
 have hm2:=he.same.2.2.2.1
 unfold stepG ax at hgo ⊢
 dsimp only at hgo ⊢
 rw [hm2]
 generalize em:fr.mode=m at hm hgo
 generalize p9:fr'.mode=m' at hm
 cases hm with
 | run =>
  cases he with
  | bottom _ x xs hn e=>exact J9 H hK hs ha h hn e p9 h0 hgo
  | push _ c c2 cs' cs2 he=>exact J8 H hK hs ha h he hgo
 | returning=>exact CZ H hK hs ha h hl (by rw [em];trivial) he hgo
 | panicking ps qs hp=>exact CZ H hK hs ha h hl (by rw [em];trivial) he hgo
end
end Go.Blind
namespace Go.Blind
open Go.Conc
section
variable {P:Program}{main:Bool}{Stop:(Nat→Prop)→Goroutine→World→Prop}
def iH (P:Program)(main:Bool)(Stop:(Nat→Prop)→Goroutine→World→Prop)(b:Frame)(k:List Item)(cs:List Frame):Exit→(Nat→Prop)→Act→World→Prop
 | .normal,M,a,w=>aj P main Stop M (ax (b.at a k) cs) w
 | .exit id,M,a,w=>∃ k',exitTo id k=some k'∧aj P main Stop M (ax (b.at a k') cs) w
 | .ret,M,a,w=>∀ todo,aj P main Stop M (ax { b.at a todo with mode:=.returning } cs) w
 | .panic ch,M,a,w=>∀ todo,aj P main Stop M (ax { b.at a todo with mode:=.panicking ch } cs) w
 | _,_,_,_=>False
end
def cw (P:Program)(main:Bool)(fn:FuncId)(c:Code)(Q:Exit→(Nat→Prop)→Act→World→Prop)(M:Nat→Prop)(a:Act)(w:World):Prop :=
 ∀ (b:Frame) (k:List Item) (cs:List Frame) (Stop:(Nat→Prop)→Goroutine→World→Prop),b.fn=fn→b.kind=.normal →
  (∀ e M' a' w',Q e M' a' w'→iH P main Stop b k cs e M' a' w')→aj P main Stop M (ax (b.at a (.code c :: k)) cs) w
section
variable {P:Program}{main:Bool}{fn:FuncId}{Q:Exit→(Nat→Prop)→Act→World→Prop}{M:Nat→Prop}{a:Act}{w:World}
theorem iH.push {Stop:(Nat→Prop)→Goroutine→World→Prop}{b:Frame}{x:Item}{k:List Item}{cs:List Frame}{e:Exit}(hx:x.plain=true)(he:e≠.normal)(h:iH P main Stop b k cs e M a w):iH P main Stop b (x :: k) cs e M a w:=by
 cases e with
 | normal=>exact absurd rfl he
 | exit id=>obtain ⟨k',hk,hg⟩:=h;exact ⟨k',by cases x <;> simp_all [exitTo,Item.plain],hg⟩
 | ret=>exact h
 | panic ch=>exact h
 | goto l=>exact h
 | outgrown=>exact h
end
end Go.Blind

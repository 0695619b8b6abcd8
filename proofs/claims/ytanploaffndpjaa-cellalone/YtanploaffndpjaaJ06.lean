/- Of the proof. -/
import Derived.Test.YtanploaffndpjaaJ05
import Derived.Conc.CompanyMem
import Derived.Conc.WgGenW
import Derived.Conc.QuitsD
namespace Go.Blind
open Go.Conc
section
variable {P:Program}{C:Nat→Prop}{E:Env}{τ0 τ:Nat→Nat}{O O' O1:Nat→Option (Array CommCase×CommShape)}{Home dw:Nat→(Nat→Prop)→Goroutine→World→Prop}{m j c k:Nat}{v z zj:Value}{fM shj:CommShape}{eF:Array CommCase}{St bU Sh Sj:ai}{gs:Array Goroutine}{w:World}{sl:Option (Nat×Nat)}{T:Trace}{own:Nat→Nat→Prop}{L:List Nat}
theorem Duo.first {h:Nat}(D:Duo P C E τ O Home Sh Sj h j gs w T own L)(qh:h≠j)(hh:h∉L)(zF:h < gs.size)(hO:∀ i,i≠h→i≠j→O' i=O i∧dw i=Home i)(hSj:∀ M g w,Sj M g w→dm P E O' dw (τ j) j M g w)(lh:E.lv h (τ h))(lj:E.lv j (τ j)):aP P C E τ O' dw Sh h gs w T own (j :: L)∧h∉j :: L:=by
 have other:∀ i,i≠h→i≠j→dm P E O' dw (τ i) i=dm P E O Home (τ i) i∧Sat P E O' dw (τ i) i=Sat P E O Home (τ i) i:=fun i e e'=>by
  unfold dm Sat
  rw [(hO i e e').1,(hO i e e').2]
  exact ⟨rfl,rfl⟩
 refine ⟨⟨D.eZ,zF,D.one,fun i g e hg hi=>?_,fun i g e hg hi=>?_,fun i hi=>?_,lh⟩,by simp [qh,hh]⟩
 ·by_cases e':i=j
  ·subst e';exact (D.two g hg).mono hSj
  ·rw [(other i e e').1]
   exact D.act i g e e' hg ((List.mem_cons.1 hi).resolve_left e')
 ·have e':i≠j:=fun e=>hi (by simp [e])
  rw [(other i e e').2]
  exact D.sat i g e e' hg fun q=>hi (by simp [q])
 ·rcases List.mem_cons.1 hi with e | e
  ·rw [e];exact lj
  ·exact D.live i e
theorem Duo.swap {h:Nat}(D:Duo P C E τ O Home Sh Sj h j gs w T own L):Duo P C E τ O Home Sj Sh j h gs w T own L :=
 ⟨D.eZ,D.two,D.one,fun i g a b=>D.act i g b a,fun i g a b=>D.sat i g b a,D.live⟩
theorem Dj {O1:Nat→Option (Array CommCase×CommShape)}{p:Array CommCase×CommShape}(hm:O1 m=some p)(hO:∀ i,i≠m→O1 i=O i)(h:Kept O1 τ0 τ):dZ O m τ0 τ:=by
 refine ⟨⟨fun i cs e=>?_,h.2⟩,h.1 m p hm⟩
 by_cases q:i=m
 ·subst q;exact h.1 i p hm
 ·exact h.1 i cs ((hO i q).trans e)
theorem aP.gives (K:dB P E){Hm:ai}(nM:∀ i,i≠m→O1 i=O i)(F:Fits C O1 m j c k v z zj fM shj eF)(hC:C c)(hx:∀ τ o,¬ E.at_ τ c o)(hm:E.hr m (τ0 m))(hj:E.hr j (τ0 j))(lj:E.lv j (τ0 j))(H:aP P C E τ0 O Home St m gs w T own L)(hjs:j < gs.size)
  (hSt:∀ M g w,St M g w→∃ g2,nH P (m == 0) #[scase c v z] fM g g2∧Hm M g2 w)(hO:∀ i,i≠m→i≠j→O' i=O i∧dw i=Home i)
  (share:∀ (w:World)(Mh Mj:Nat→Prop)(gh gj:Goroutine)(k0:Nat),w.heap[c]?=some (.chan 0 #[] false k0 k0 false)→(∀ b,Mh b→Mj b→False)→¬ has Mh c→¬ has Mj c→Hm Mh gh w→Home j Mj gj w→∃ oh oj:Nat→Prop,(∀ b,oh b→Mh b∨Mj b)∧(∀ b,oj b→Mh b∨Mj b)∧(∀ b,oh b→oj b→False) ∧
   aj P (m == 0) bU oh (gh.finishComm P #[scase c v z] fM 0 undef false) (w.setChan c 0 #[] false (k0+1) (k0+1) false)∧aj P (j == 0) (dm P E O' dw (τ0 j) j) oj (gj.finishComm P eF shj k v true) (w.setChan c 0 #[] false (k0+1) (k0+1) false)) :
  ∃ N gs' w' sl' T' own' τ L',runNT P N (crowd gs w sl) T=(.next (crowd gs' w' sl'),T')∧gs'.size=gs.size∧dZ O m τ0 τ∧aP P C E τ O' dw bU m gs' w' T' own' L'∧m∉L':=by
 let qp:Nat→(Nat→Prop)→Goroutine→World→Prop:=fun i=>if i=m then Hm else Home i
 have e1:qp m=Hm:=if_pos rfl
 have e2:∀ i,i≠m→qp i=Home i:=fun i e=>if_neg e
 have HS:=H.seat (O':=O1) (dw:=qp) (fun i e=>⟨nM i e,e2 i e⟩) (fun M g w hs=>by
  obtain ⟨g2,hc,hh⟩:=hSt M g w hs
  exact .inl ⟨_,_,g2,F.send,hc,by rw [e1];exact hh⟩)
 obtain ⟨N,gs',w',sl',T',own',τ,L',hrun,hsz,hτ,D,hm',hj'⟩:=HS.meets (sl:=sl) (Sh:=bU) (Sj:=dm P E O' dw (τ0 j) j) K F hC hx hm hj H.mine lj (.inl ah) H.there hjs (fun w Mh Mj gh gj k0 a1 a2 a3 a4 a5 a6=>share w Mh Mj gh gj k0 a1 a2 a3 a4 (by rw [e1] at a5;exact a5) (by rw [e2 j fun e=>F.apart e.symm] at a6;exact a6))
 have hk:=Dj (O:=O) F.send nM hτ
 have ej:τ j=τ0 j:=hτ.1 j _ F.recv
 obtain ⟨q1,q2⟩:=D.first (O':=O') (dw:=dw) F.apart hm' (by rw [hsz];exact H.there) (fun i a b=>⟨(hO i a b).1.trans (nM i a).symm,(hO i a b).2.trans (e2 i a).symm⟩) (fun M g w hs=>by rw [ej];exact hs) (by rw [hk.2];exact H.mine) (by rw [ej];exact lj)
 exact ⟨N,gs',w',sl',T',own',τ,j :: L',hrun,hsz,hk,q1,q2⟩
theorem aP.gets (K:dB P E){Hm:ai}{zG:CommShape}{zH:Array CommCase}(nM:∀ i,i≠m→O1 i=O i)(F:Fits C O1 j m c k v z zj shj zG zH)(hC:C c)(hx:∀ τ o,¬ E.at_ τ c o)(hm:E.hr m (τ0 m))(hj:E.hr j (τ0 j))(lj:E.lv j (τ0 j))(H:aP P C E τ0 O Home St m gs w T own L)(hjs:j < gs.size)
  (hSt:∀ M g w,St M g w→∃ g2,nH P (m == 0) zH zG g g2∧Hm M g2 w)(hO:∀ i,i≠m→i≠j→O' i=O i∧dw i=Home i)
  (share:∀ (w:World)(Mj Mm:Nat→Prop)(gj gm:Goroutine)(k0:Nat),w.heap[c]?=some (.chan 0 #[] false k0 k0 false)→(∀ b,Mj b→Mm b→False)→¬ has Mj c→¬ has Mm c→Home j Mj gj w→Hm Mm gm w→∃ oj om:Nat→Prop,(∀ b,oj b→Mj b∨Mm b)∧(∀ b,om b→Mj b∨Mm b)∧(∀ b,oj b→om b→False) ∧
   aj P (j == 0) (dm P E O' dw (τ0 j) j) oj (gj.finishComm P #[scase c v z] shj 0 undef false) (w.setChan c 0 #[] false (k0+1) (k0+1) false)∧aj P (m == 0) bU om (gm.finishComm P zH zG k v true) (w.setChan c 0 #[] false (k0+1) (k0+1) false)) :
  ∃ N gs' w' sl' T' own' τ L',runNT P N (crowd gs w sl) T=(.next (crowd gs' w' sl'),T')∧gs'.size=gs.size∧dZ O m τ0 τ∧aP P C E τ O' dw bU m gs' w' T' own' L'∧m∉L':=by
 let qp:Nat→(Nat→Prop)→Goroutine→World→Prop:=fun i=>if i=m then Hm else Home i
 have e1:qp m=Hm:=if_pos rfl
 have e2:∀ i,i≠m→qp i=Home i:=fun i e=>if_neg e
 have HS:=H.seat (O':=O1) (dw:=qp) (fun i e=>⟨nM i e,e2 i e⟩) (fun M g w hs=>by
  obtain ⟨g2,hc,hh⟩:=hSt M g w hs
  exact .inl ⟨_,_,g2,F.recv,hc,by rw [e1];exact hh⟩)
 obtain ⟨N,gs',w',sl',T',own',τ,L',hrun,hsz,hτ,D,hj',hm'⟩:=HS.meets (sl:=sl) (Sh:=dm P E O' dw (τ0 j) j) (Sj:=bU) K F hC hx hj hm lj H.mine (.inr ah) hjs H.there (fun w Mh Mj gh gj k0 a1 a2 a3 a4 a5 a6=>share w Mh Mj gh gj k0 a1 a2 a3 a4 (by rw [e2 j F.apart] at a5;exact a5) (by rw [e1] at a6;exact a6))
 have hk:=Dj (O:=O) F.recv nM hτ
 have ej:τ j=τ0 j:=hτ.1 j _ F.send
 obtain ⟨q1,q2⟩:=D.swap.first (O':=O') (dw:=dw) (fun e=>F.apart e.symm) hm' (by rw [hsz];exact H.there) (fun i a b=>⟨(hO i a b).1.trans (nM i a).symm,(hO i a b).2.trans (e2 i a).symm⟩) (fun M g w hs=>by rw [ej];exact hs) (by rw [hk.2];exact H.mine) (by rw [ej];exact lj)
 exact ⟨N,gs',w',sl',T',own',τ,j :: L',hrun,hsz,hk,q1,q2⟩
theorem aP.KP (K:dB P E)(U:dN C O)(hst:∀ M g w,St M g w→g.status=.running)(H:aP P C E τ0 O Home St m gs w T own L)(dO:m∉L)(hm:∀ τ T w own,dZ O m τ0 τ→bu P C E τ T w own→E.hr m (τ m)∧E.hr gs.size (τ gs.size)∧E.lv gs.size (τ gs.size))(hO:∀ i,i≠gs.size→O' i=O i∧dw i=Home i)
  (share:∀ (s:Nat)(M:Nat→Prop)(g:Goroutine)(w:World),E.lv gs.size s→St M g w→∃ g' child,C8 P (m == 0) g g' child∧∃ oh oc:Nat→Prop,(∀ b,oh b→M b)∧(∀ b,oc b→M b)∧(∀ b,oh b→oc b→False)∧aj P (m == 0) bU oh g' w∧aj P false (dm P E O' dw s gs.size) oc child w) :
  ∃ N gs' w' sl' T' own' τ L',runNT P N (crowd gs w sl) T=(.next (crowd gs' w' sl'),T')∧gs'.size=gs.size+1∧dZ O m τ0 τ∧aP P C E τ O' dw bU m gs' w' T' own' L'∧m∉L':=by
 obtain ⟨N,gs1,w1,sl1,T1,eT,τ,L1,hrun,hsize,hk,hL1,hm1⟩:=lead K U hst L.length L (Nat.le_refl _) gs w sl T own τ0 H dO
 obtain ⟨g,d,sl',hg,hat,hstep⟩:=hL1.stop
 have zI:m < gs1.size:=(Array.getElem?_eq_some_iff.1 hg).1
 have hn0:gs.size≠0:=by have:=H.there;omega
 have hnm:gs.size≠m:=by omega
 obtain ⟨k1,k2,k3⟩:=hm τ _ _ _ hk hL1.sys.eZ
 obtain ⟨g',child,hgo,oh,oc,s1,s2,s3,r1,r2⟩:=share (τ gs.size) (eT m) g w1 k3 (hat w1 (ay.refl P _ _))
 let own':Nat→Nat→Prop:=fun i=>if i=m then oh else if i=gs.size then oc else fun b=>eT i b
 have eh:own' m=oh:=if_pos rfl
 have ec:own' gs.size=oc:=by show (if gs.size=m then oh else if gs.size=gs.size then oc else _)=oc;rw [if_neg hnm,if_pos rfl]
 have eo:∀ i,i≠m→i≠gs.size→own' i=eT i:=fun i a b=>by show (if i=m then oh else if i=gs.size then oc else _)=_;rw [if_neg a,if_neg b]
 have rG:∀ i b,own' i b→(i=m∨i=gs.size)∧eT m b∨(i≠m∧i≠gs.size)∧eT i b:=by
  intro i b hb
  by_cases a1:i=m
  ·subst a1;rw [eh] at hb;exact .inl ⟨.inl rfl,s1 b hb⟩
  ·by_cases a2:i=gs.size
   ·subst a2;rw [ec] at hb;exact .inl ⟨.inr rfl,s2 b hb⟩
   ·rw [eo i a1 a2] at hb;exact .inr ⟨⟨a1,a2⟩,hb⟩
 have hap:∀ i l b,own' i b→own' l b→i=l:=by
  intro i l b hi hl
  rcases rG i b hi with ⟨ei,di⟩ | ⟨ni,di⟩ <;> rcases rG l b hl with ⟨el,dl⟩ | ⟨nl,dl⟩
  ·rcases ei with rfl | rfl <;> rcases el with rfl | rfl
   ·rfl
   ·rw [eh] at hi;rw [ec] at hl;exact (s3 b hi hl).elim
   ·rw [ec] at hi;rw [eh] at hl;exact (s3 b hl hi).elim
   ·rfl
  ·exact absurd (hL1.sys.eZ.ledger.apart _ _ b di dl).symm nl.1
  ·exact absurd (hL1.sys.eZ.ledger.apart _ _ b dl di).symm ni.1
  ·exact hL1.sys.eZ.ledger.apart i l b di dl
 have hrt:=runT_crowd_spawn (P:=P) (sl:=sl') hg (hgo.2 (w1.at d))
 have hev:MemOp.ofEvents m g.frame.fn g.frame.place #[]=#[]:=rfl
 have KQ:=(hL1.sys.eZ.at_ d).hire (own':=own') (h:=m) (c:=gs.size) k1 k2 hL1.sys.mine k3 g.frame.fn g.frame.place child.frame.fn hap (fun i b a hb=>by
   rcases rG i b hb with ⟨e,q⟩ | ⟨_,q⟩
   ·rcases e with rfl | rfl
    ·exact q
    ·exact absurd rfl a
   ·exact q) (fun b hb=>by rw [ec] at hb;exact s2 b hb)
 have qo:∀ M:Nat→Prop,ay P M w1 (w1.at d):=fun M=>ay.at_ P M w1 d
 have pick:∀ i x,((gs1.setIfInBounds m g').push child)[i]?=some x→(i=m∧x=g')∨(i=gs.size∧i≠m∧x=child)∨(i≠m∧i≠gs.size∧gs1[i]?=some x):=by
  intro i x hx
  rw [Array.getElem?_push] at hx
  simp only [Array.size_setIfInBounds,hsize] at hx
  by_cases a2:i=gs.size
  ·rw [if_pos a2] at hx
   exact .inr (.inl ⟨a2,fun e=>hnm (a2.symm.trans e),(Option.some.inj hx).symm⟩)
  ·rw [if_neg a2] at hx
   by_cases a1:i=m
   ·subst a1
    rw [Array.getElem?_setIfInBounds_self_of_lt zI] at hx
    exact .inl ⟨rfl,(Option.some.inj hx).symm⟩
   ·rw [Array.getElem?_setIfInBounds_ne (fun e=>a1 e.symm)] at hx
    exact .inr (.inr ⟨a1,a2,hx⟩)
 have other:∀ i,i≠gs.size→dm P E O' dw (τ i) i=dm P E O Home (τ i) i∧Sat P E O' dw (τ i) i=Sat P E O Home (τ i) i:=fun i e=>by
  unfold dm Sat
  rw [(hO i e).1,(hO i e).2]
  exact ⟨rfl,rfl⟩
 refine ⟨N+1,(gs1.setIfInBounds m g').push child,w1.at d,sl',_,own',τ,gs.size :: L1,(runNT_then N 1 _ _ _ _ hrun).trans (by simp only [runNT,hstep,hrt];rfl),by simp [hsize],hk,⟨by rw [hev,hsize];exact KQ,by simp [hsize];have:=H.there;omega,fun x hx=>?_,fun i x hi hx hmm=>?_,fun i x hi hx hmm=>?_,fun i hi=>?_,hL1.sys.mine⟩,by simp [hm1];exact fun e=>hnm e.symm⟩
 ·rcases pick m x hx with ⟨-,rfl⟩ | ⟨-,q,-⟩ | ⟨q,-⟩
  ·rw [eh];exact r1.rely (qo _)
  ·exact absurd rfl q
  ·exact absurd rfl q
 ·rcases pick i x hx with ⟨q,-⟩ | ⟨rfl,-,rfl⟩ | ⟨a1,a2,hx'⟩
  ·exact absurd q hi
  ·rw [ec,show (gs.size == 0)=false by simpa using hn0];exact r2.rely (qo _)
  ·have hm':i∈L1:=(List.mem_cons.1 hmm).resolve_left a2
   rw [eo i a1 a2,(other i a2).1]
   exact (hL1.sys.act i x a1 hx' hm').rely (qo _)
 ·rcases pick i x hx with ⟨q,-⟩ | ⟨q,-,-⟩ | ⟨a1,a2,hx'⟩
  ·exact absurd q hi
  ·exact absurd (by simp [q]) hmm
  ·have hm':i∉L1:=fun q=>hmm (by simp [q])
   rw [eo i a1 a2,(other i a2).2]
   exact (hL1.sys.sat i x a1 hx' hm').rely (qo _)
 ·rcases List.mem_cons.1 hi with e | e
  ·rw [e];exact k3
  ·exact hL1.sys.live i e
end
section
variable {P:Program}{C:Nat→Prop}{E:Env}{τ0 τ:Nat→Nat}{O O':Nat→Option (Array CommCase×CommShape)}{Home dw:Nat→(Nat→Prop)→Goroutine→World→Prop}{m j c kk:Nat}{z:Value}{shj:CommShape}{eF:Array CommCase}{St:ai}{gs:Array Goroutine}{w:World}{sl:Option (Nat×Nat)}{T:Trace}{own:Nat→Nat→Prop}{L:List Nat}
def zJ (P:Program)(main:Bool)(cs:Array CommCase)(sh:CommShape)(Hj:ai):ai:=fun M g w=>∃ g2,nH P main cs sh g g2∧Hj M g2 w
end
section
variable {P:Program}{main:Bool}{fn:FuncId}{kd:CallKind}{Q:aZ}{S:ai}{M:Nat→Prop}{a:Act}{w:World}{ops:Array Oper}{i:Nat}{rest:List Nat}{o:Oper}
theorem Dk (hkd:kd≠.early)(ho:ops[i]?=some o)(hw:Region.wanted o (yielded ops a.tmps)=true)
  (h:∀ w1,ay P M w w1→∀ K:Act→World→Prop,(∀ a' w' M2,dY P M M2 w1 w' (listed P fn a o w1)→aG P main fn kd ops rest Q S M2 a' w'→K a' w')→uponK o a K ((execOp a.eval o).run P w1)):aG P main fn kd ops (i :: rest) Q S M a w:=by
 intro b k cs hb hkind hc
 refine aj.next rfl fun w1 hrel=>?_
 have hu:=h w1 hrel (fun a' w'=>∃ M2,dY P M M2 w1 w' (listed P fn a o w1)∧aG P main fn kd ops rest Q S M2 a' w') fun a' w' M2 h1 h2=>⟨M2,h1,h2⟩
 have hke:b.kind≠.early:=by rw [hkind];exact hkd
 subst hb
 cases hr:(execOp a.eval o).run P w1 with
 | halt h0 w0=>rw [hr] at hu;exact hu.elim
 | ok n w' =>
  rw [hr] at hu
  cases n with
  | value v =>
   obtain ⟨M2,hG,hk⟩:=hu
   exact ⟨M2,_,w',_,stepG_value ho hw hke hr,hG,hk b k cs rfl hkind hc⟩
  | skip =>
   obtain ⟨M2,hG,hk⟩:=hu
   exact ⟨M2,_,w',_,stepG_none ho hw hke hr,hG,hk b k cs rfl hkind hc⟩
  | _=>exact hu.elim
theorem xn (hkd:kd≠.early)(ho:ops[i]?=some o)(hw:Region.wanted o (yielded ops a.tmps)=true){v:Value}
  (hr:∀ w1:World,(execOp a.eval o).run P w1=.ok (.value v) w1)(he:∀ w1:World,(execOp a.eval o).events P w1 #[]=#[])(h:aG P main fn kd ops rest Q S M (a.put o.dst v) w):aG P main fn kd ops (i :: rest) Q S M a w :=
 Dk hkd ho hw fun w1 hR K hK=>by
  rw [hr w1]
  exact hK _ _ M (by rw [listed_nil (he w1)];exact dY.idle P M w1) (Db h hR)
end
section
variable {P:Program}{C:Nat→Prop}{E E':Env}{τ τ':Nat→Nat}{T:Trace}{w w':World}{own:Nat→Nat→Prop}
structure bf (B:Nat→Prop)(w w':World):Prop where
 size:w'.heap.size=w.heap.size
 still:∀ b,¬ B b→w'.heap[b]?=w.heap[b]?
 cells:∀ b,B b→∀ c e fz,w.heap[b]?=some (.cells c e fz)→∃ c',w'.heap[b]?=some (.cells c' e fz)
 env:ic w'=ic w
theorem bf.refl (B:Nat→Prop)(w:World):bf B w w:=⟨rfl,fun _ _=>rfl,fun _ _ c _ _ h=>⟨c,h⟩,rfl⟩
theorem bf.setCell (w:World)(ad:Addr)(v:Value):bf (·=ad.block) w (w.setCell ad v):=by
 refine ⟨by simp [World.setCell],fun b hb=>?_,fun b hb c e fz h=>?_,rfl⟩
 ·simp only [World.setCell]
  rw [Array.getElem?_modify]
  split
  ·rename_i q;exact absurd q.symm hb
  ·rfl
 ·subst hb
  simp only [World.setCell]
  rw [Array.getElem?_modify]
  simp only [if_true,h,Option.map_some]
  exact ⟨_,rfl⟩
theorem bf.rely {B:Nat→Prop}(h:bf B w w'){M:Nat→Prop}(hM:∀ b,has M b→¬ B b):ay P M w w':=by
 refine ⟨by rw [h.size];exact Nat.le_refl _,fun b hb=>h.still b (hM b hb),fun hg g hgl=>?_,h.env⟩
 obtain ⟨c,e,fz,q⟩:=hg g hgl
 by_cases hb:B g
 ·obtain ⟨c',q'⟩:=h.cells g hb c e fz q
  exact ⟨c',e,fz,q'⟩
 ·exact ⟨c,e,fz,by rw [h.still g hb];exact q⟩
structure Fair (may:Nat→Touch→Prop):Prop where
 one:∀ said g1 a1 g2 a2,may g1 a1→may g2 a2→a1.conflicts said a2→g1=g2
theorem bu.touch (H:bu P C E τ T w own){B:Nat→Prop}(hB:∀ b,B b→∃ o,E.at_ τ b o)(hw:bf B w w')(hB2:∀ b o,E.at_ τ b o→¬ C b∧¬ E.shut b)(hsh:E'.shut=E.shut){i:Nat}{fn:FuncId}{pos:String}{es:Array Event}
  (hlow:∀ e∈es,(MemAct.ofEvent e).low w.heap.size)(hes:∀ e∈es,∀ a,(MemAct.ofEvent e).touch?=some a→a.loc.isMemory=true→∃ b o,E.at_ τ b o∧dI b a.loc∧E.may i a)(hf:Fair E.may)
  (Dl:∀ g a,E.may g a→E'.may g a)(hat:∀ b o,E'.at_ τ' b o→w'.heap[b]?=some o∧∃ o',E.at_ τ b o')(hdeaf:∀ j,E'.hr j (τ' j)→Deaf (T ++ MemOp.ofEvents i fn pos es) j=0)(htold:E'.told τ' (T ++ MemOp.ofEvents i fn pos es))(hout:E'.out=E.out:=by rfl) :
  bu P C E' τ' (T ++ MemOp.ofEvents i fn pos es) w' own:=by
 have hg:∀ op∈MemOp.ofEvents i fn pos es,op.g=i:=fun op hop=>by obtain ⟨e,_,rfl⟩:=Go.Conc.mem_ofEvents hop;rfl
 have zK:∀ b o,E.at_ τ b o→∀ j,¬ has (own j) b:=fun b o h=>(H.gy b o h).2.1
 have mem:∀ {a:Touch} {b:Nat},dI b a.loc→a.loc.isMemory=true:=fun h=>CO h
 have xq:∀ op∈MemOp.ofEvents i fn pos es,∀ a,op.act.touch?=some a→a.loc.isMemory=true→∃ b o,E.at_ τ b o∧dI b a.loc∧E.may i a:=fun op hop a ha hm=>by
  obtain ⟨e,he,rfl⟩:=Go.Conc.mem_ofEvents hop
  exact hes e he a ha hm
 refine ⟨⟨fun said=>noRace_append (H.ledger.clean said) hg fun k a ha op hop b hb hc=>?_,H.ledger.apart,fun j b hb=>by rw [hw.size];exact H.ledger.low j b hb,fun k a b ha hl=>?_,fun op hop=>?_⟩,fun c hc=>?_,fun c hc=>?_,(hw.rely (M:=fun _=>False) (P:=P) (fun _ h=>(h.elim id id).elim)).aX H.aX,hdeaf,fun c hc=>wT (H.hush c hc) fun op hop a ha hl=>?_,fun b o hb=>?_,htold,(hw.env.trans H.out).trans hout.symm⟩
 ·have hmb:b.loc.isMemory=true:=by rw [← hc.1];exact hc.2.1
  obtain ⟨bb,o,jO,hl,KR⟩:=xq op hop b hb hmb
  obtain ⟨g,xu,KS⟩:=(H.gy bb o jO).2.2 k a ha (CF hc hl)
  have e:g=i:=hf.one said g a i b KS KR hc
  subst e
  obtain ⟨x,hx,_⟩:=touch_of ha
  have:x.g=g:=by simp [Trace.g?,hx] at xu;exact xu
  rw [← this]
  exact knows_own hx
 ·obtain ⟨x,hx,hxa⟩:=touch_of ha
  rcases getElem?_append_cases hx with ⟨_,hx'⟩ | ⟨_,hxu⟩
  ·obtain ⟨⟨c,e,q⟩,q2⟩:=H.ledger.known k a b (by rw [touchAt_of hx'];exact hxa) hl
   exact ⟨⟨c,e,fun i hi=>(q i hi).app _⟩,fun hw i c e hi=>(q2 hw i c e hi).app _⟩
  ·obtain ⟨bb,o,jO,hl2,_⟩:=xq x hxu a hxa (mem hl)
   have:=zh hl2 hl
   subst this
   exact ⟨⟨2 * bb,ag,fun i hi=>absurd (.inl hi) (zK bb o jO i)⟩,fun _ i c e hi=>absurd (e ▸ qY hi) (zK bb o jO i)⟩
 ·rcases Array.mem_append.1 hop with z | z
  ·rw [hw.size];exact H.ledger.seen op z
  ·obtain ⟨e,he,rfl⟩:=Go.Conc.mem_ofEvents z
   rw [hw.size];exact hlow e he
 ·obtain ⟨⟨k,q⟩,hn⟩:=H.chans c hc
  exact ⟨⟨k,by rw [hw.still c fun hb=>(hB2 c _ (hB c hb).choose_spec).1 hc];exact q⟩,hn⟩
 ·rw [hsh] at hc
  obtain ⟨⟨k,q⟩,hn⟩:=H.closed c hc
  exact ⟨⟨k,by rw [hw.still c fun hb=>(hB2 c _ (hB c hb).choose_spec).2 hc];exact q⟩,hn⟩
 ·obtain ⟨bb,o,jO,hl2,_⟩:=xq op hop a ha (mem hl)
  have:=zh hl2 hl
  subst this
  exact (hB2 bb o jO).1 hc
 ·obtain ⟨q1,o',q2⟩:=hat b o hb
  refine ⟨q1,zK b o' q2,wU (fun k a ha hl=>?_) fun op hop a ha hl=>?_⟩
  ·obtain ⟨g,xu,hm⟩:=(H.gy b o' q2).2.2 k a ha hl
   exact ⟨g,xu,Dl g a hm⟩
  ·obtain ⟨_,_,_,_,hm⟩:=xq op hop a ha (mem hl)
   rw [hg op hop]
   exact Dl i a hm
end
section
variable {S:Type}{sub:Nat→S→S→Prop}
def zR (sub:Nat→S→S→Prop)(n:Nat)(x y:(Nat→S)×Nat):Prop:=nE sub n x.1 y.1∨((∀ j,j < n→under sub j (x.1 j) (y.1 j))∧x.2 < y.2)
theorem MK (n:Nat):∀ s,Acc (nE sub n) s→∀ (k:Nat)(s':Nat→S),(∀ j,j < n→under sub j (s' j) (s j))→Acc (zR sub n) (s',k):=by
 intro s hs
 induction hs with
 | intro s _ ih =>
  intro k
  induction k using Nat.strongRecOn with
  | ind k ihk =>
   intro s' hu
   refine Acc.intro _ fun z hz=>?_
   rcases hz with ⟨i,hi,h1,h2⟩ | ⟨h1,h2⟩
   ·exact ih z.1 ⟨i,hi,hu i hi _ h1,fun j hj hne=>uy _ (h2 j hj hne) (hu j hj)⟩ z.2 z.1 fun j _=>qZ _ j _
   ·exact ihk z.2 h2 z.1 fun j hj=>uy _ (h1 j hj) (hu j hj)
end
def asleep (g:Goroutine):Goroutine:={ g with status:=.blocked }
theorem ML {g:Goroutine}(hs:g.status=.running)(ho:g.offers=none)(w:World):(asleep g).again w=g:=by
 obtain ⟨fr,cs,stt,dy,off⟩:=g
 simp only at hs ho
 subst hs ho
 simp [Goroutine.again,asleep]
section
variable {P:Program}{C:Nat→Prop}{E:Env}{τ0:Nat→Nat}{A B:Nat→Prop}{Stop:Nat→(Nat→Prop)→Goroutine→World→Prop}
structure rQ (P:Program)(C:Nat→Prop)(E:Env)(τ:Nat→Nat)(A B:Nat→Prop)(Stop:Nat→(Nat→Prop)→Goroutine→World→Prop)(gs:Array Goroutine)(w:World)(own:Nat→Nat→Prop):Prop where
 walk:∀ i g,gs[i]?=some g→A i→aj P (i == 0) (Stop i) (own i) g w
 tail:∀ i g,gs[i]?=some g→B i→∃ n,aH P E.ok E.Pre E.aI n (τ i) g
 rest:∀ i g,i≠0→gs[i]?=some g→¬ A i→¬ B i→uz C g
def oO (g0:Goroutine)(Wk:(Nat→Nat)→Prop)(gs:Array Goroutine)(τ:Nat→Nat)(k:Nat):Prop:=(gs[0]?=some g0∧k=1)∨(gs[0]?=some (asleep g0)∧k=0∧¬ Wk τ)
theorem ED (hst:∀ i M g w,A i→Stop i M g w→g.status=.running){τ:Nat→Nat}{gs:Array Goroutine}{w w':World}{own:Nat→Nat→Prop}(hR:rQ P C E τ A B Stop gs w own)(hch:∀ c,C c→∃ k,w'.heap[c]?=some (.chan 0 #[] false k k false)){i:Nat}{g g':Goroutine} :
  ∀ j x,j≠0→j≠i→gs[j]?=some x→((gs.map (woken P g g' w')).setIfInBounds i g')[j]?=some x:=by
 intro j x h0 hj hx
 rw [Array.getElem?_setIfInBounds_ne (fun z=>hj z.symm),Array.getElem?_map,hx]
 have hag:x.again w'=x:=by
  by_cases ha:A j
  ·exact again_of_running (.inl (lz (hR.walk j x hx ha) fun M g w=>hst j M g w ha)) w'
  ·by_cases hb:B j
   ·obtain ⟨n,ht⟩:=hR.tail j x hx hb
    exact again_of_running (qd ht) w'
   ·exact zi (hR.rest j x h0 hx ha hb) hch
 simp only [Option.map_some,woken_of_again hag]
theorem mF {gs:Array Goroutine}{f:Goroutine→Goroutine}{i:Nat}{g':Goroutine}(hoth:∀ j x,j≠0→j≠i→gs[j]?=some x→((gs.map f).setIfInBounds i g')[j]?=some x){j:Nat}{x:Goroutine}(h0:j≠0)(e:j≠i)(hx:((gs.map f).setIfInBounds i g')[j]?=some x):gs[j]?=some x:=by
 cases hz:gs[j]? with
 | none =>
  rw [Array.getElem?_setIfInBounds_ne (fun z=>e z.symm),Array.getElem?_map,hz] at hx
  cases hx
 | some y=>rw [hoth j y h0 e hz] at hx;exact hx
theorem EE {g0:Goroutine}(hg0:g0.status=.running)(ho0:g0.offers=none){Wk:(Nat→Nat)→Prop}{gs:Array Goroutine}{τ τ':Nat→Nat}{k:Nat}(h:oO g0 Wk gs τ k){i:Nat}(hi:i≠0){g g':Goroutine}{w':World}(hg':g'.status=.running∨g'.status=.finished)(hw:¬ Wk τ→Wk τ'→mayWake P g=true) :
  ∃ k',oO g0 Wk ((gs.map (woken P g g' w')).setIfInBounds i g') τ' k':=by
 have hst:(g'.status != .blocked && g'.status != .waiting)=true:=by rcases hg' with e | e <;> rw [e] <;> rfl
 rcases h with ⟨h,_⟩ | ⟨h,_,hn⟩
 ·refine ⟨1,.inl ⟨?_,rfl⟩⟩
  rw [Array.getElem?_setIfInBounds_ne hi,Array.getElem?_map,h]
  simp only [Option.map_some,woken_of_again (again_of_running (.inl hg0) w')]
 ·by_cases hm:mayWake P g=true
  ·refine ⟨1,.inl ⟨?_,rfl⟩⟩
   rw [Array.getElem?_setIfInBounds_ne hi,Array.getElem?_map,h]
   have:woken P g g' w' (asleep g0)=g0:=by
    unfold woken
    rw [if_pos (by rw [Bool.and_assoc,hst,hm];rfl)]
    exact ML hg0 ho0 w'
   simp only [Option.map_some,this]
  ·refine ⟨0,.inr ⟨?_,rfl,fun q=>hm (hw hn q)⟩⟩
   rw [Array.getElem?_setIfInBounds_ne hi,Array.getElem?_map,h]
   have:woken P g g' w' (asleep g0)=asleep g0:=by
    unfold woken
    rw [if_neg]
    intro z
    rw [Bool.and_assoc,hst,Bool.and_true] at z
    exact hm z
   simp only [Option.map_some,this]
theorem EF (K:dB P E)(hst:∀ i M g w,A i→Stop i M g w→g.status=.running)(qf:∀ i,A i→¬ B i)(qA:∀ i,A i→i≠0)(hB0:∀ i,B i→E.wk i)(hlv:∀ i,A i→E.lv i (τ0 i)){g0:Goroutine}(hg0:g0.status=.running)(ho0:g0.offers=none){Wk:(Nat→Nat)→Prop}
  (sleep:∀ τ T w own,bu P C E τ T w own→¬ Wk τ→stepG P true g0 w=.go (asleep g0) w #[])
  (wake:∀ τ T w own i s g,bu P C E τ T w own→E.wk i→τ i=s+1→E.ok (s+1) g→¬ Wk τ→Wk (upd τ i (E.aI (s+1) w))→mayWake P g=true)
  {gs0:Array Goroutine}{w0:World}{sl0:Option (Nat×Nat)}{T0:Trace}{aU:Nat→Nat→Prop}{k0:Nat}
  (alive:∀ τ T w own,bu P C E τ T w own→(∀ i,¬ B i→τ i=τ0 i)→¬ Wk τ→∃ i,i < gs0.size∧(A i∨(B i∧0 < τ i)))
  (H0:bu P C E τ0 T0 w0 aU)(hR0:rQ P C E τ0 A B Stop gs0 w0 aU)(hS0:oO g0 Wk gs0 τ0 k0) :
  ∃ N gs w sl T own τ,runNT P N (crowd gs0 w0 sl0) T0=(.next (crowd gs w sl),T)∧gs.size=gs0.size∧(∀ i,¬ B i→τ i=τ0 i)∧(∀ i,τ i≤τ0 i)∧bu P C E τ T w own∧rQ P C E τ A B Stop gs w own∧(∃ k,oO g0 Wk gs τ k)∧(∀ i,¬ A i→own i=aU i∧ay P (aU i) w0 w∧(i≠0→¬ B i→gs[i]?=gs0[i]?)) ∧
   ((∃ d sl',gs[0]?=some g0∧Wk τ∧stepT P (crowd gs w sl)=runT P (crowd gs (w.at d) sl') 0)∨∃ i g d sl',A i∧gs[i]?=some g∧jL P (Stop i) (own i,g,w)∧stepT P (crowd gs w sl)=runT P (crowd gs (w.at d) sl') i):=by
 have hfuel:∀ i,∃ n,∀ g,gs0[i]?=some g→B i→aH P E.ok E.Pre E.aI n (τ0 i) g:=by
  intro i
  by_cases hb:B i
  ·cases hg:gs0[i]? with
   | none=>exact ⟨0,fun g h=>by cases h⟩
   | some g =>
    obtain ⟨n,hn⟩:=hR0.tail i g hg hb
    exact ⟨n,fun g' h _=>by cases h;exact hn⟩
  ·exact ⟨0,fun _ _ h=>absurd h hb⟩
 let fuel:Nat→Nat:=fun i=>Classical.choose (hfuel i)
 have hfu:∀ i g,gs0[i]?=some g→B i→aH P E.ok E.Pre E.aI (fuel i) (τ0 i) g:=fun i=>Classical.choose_spec (hfuel i)
 let s0:Nat→nG×Nat:=fun i=>((aU i,gs0.getD i default,w0),fuel i)
 have hacc:Acc (nE (down P A Stop) gs0.size) s0:=by
  refine CJ _ _ _ fun i hi=>?_
  have hgi:gs0[i]?=some (gs0.getD i default):=by rw [Array.getD_eq_getD_getElem?,Array.getElem?_eq_getElem hi];rfl
  by_cases ha:A i
  ·have key:∀ x:nG,Acc (Sub P (i == 0) (Stop i)) x→∀ n,Acc (down P A Stop i) (x,n):=by
    intro x hx
    induction hx with
    | intro x _ ih =>
     intro n
     refine Acc.intro _ fun z hz=>?_
     rcases hz with ⟨_,hz⟩ | ⟨hn,_⟩
     ·exact ih z.1 hz z.2
     ·exact absurd ha hn
   exact key _ (CK (hR0.walk i _ hgi ha)) _
  ·have key:∀ n:Nat,∀ x:nG,Acc (down P A Stop i) (x,n):=by
    intro n
    induction n using Nat.strongRecOn with
    | ind n ih =>
     intro x
     refine Acc.intro _ fun z hz=>?_
     rcases hz with ⟨hn,_⟩ | ⟨_,hz⟩
     ·exact absurd hn ha
     ·exact ih z.2 hz z.1
   exact key _ _
 obtain ⟨N,m',T',hrun,hd⟩:=CL (P:=P) (r:=zR (down P A Stop) gs0.size)
  (Inv:=fun s m t=>∃ gs w sl own τ,m=crowd gs w sl∧gs.size=gs0.size∧(∀ i,¬ B i→τ i=τ0 i)∧(∀ i,τ i≤τ0 i)∧bu P C E τ t w own∧rQ P C E τ A B Stop gs w own∧oO g0 Wk gs τ s.2∧(∀ i g,gs[i]?=some g→A i→(s.1 i).1=(own i,g,w))∧(∀ i g,gs[i]?=some g→B i→aH P E.ok E.Pre E.aI (s.1 i).2 (τ i) g)∧∀ i,¬ A i→own i=aU i∧ay P (aU i) w0 w∧(i≠0→¬ B i→gs[i]?=gs0[i]?))
  (Done:=fun m t=>∃ gs w sl own τ,m=crowd gs w sl∧gs.size=gs0.size∧(∀ i,¬ B i→τ i=τ0 i)∧(∀ i,τ i≤τ0 i)∧bu P C E τ t w own∧rQ P C E τ A B Stop gs w own∧(∃ k,oO g0 Wk gs τ k)∧(∀ i,¬ A i→own i=aU i∧ay P (aU i) w0 w∧(i≠0→¬ B i→gs[i]?=gs0[i]?)) ∧
   ((∃ d sl',gs[0]?=some g0∧Wk τ∧stepT P (crowd gs w sl)=runT P (crowd gs (w.at d) sl') 0)∨∃ i g d sl',A i∧gs[i]?=some g∧jL P (Stop i) (own i,g,w)∧stepT P (crowd gs w sl)=runT P (crowd gs (w.at d) sl') i))
  (fun s m t hI=>by
   obtain ⟨gs,w,sl,own,τ,rfl,hsz,hτ,hle,H,hR,hS,hs,hf,hrest⟩:=hI
   have haw:∀ g∈gs,awake g:=by
    intro g hg
    obtain ⟨i,hi,rfl⟩:=Array.mem_iff_getElem.1 hg
    have hgi:=Array.getElem?_eq_getElem hi
    by_cases i0:i=0
    ·subst i0
     rcases hS with ⟨h,_⟩ | ⟨h,_⟩
     ·rw [hgi] at h;rw [Option.some.inj h];exact awake_of (.inl hg0)
     ·rw [hgi] at h;rw [Option.some.inj h];exact awake_of (.inr (.inl rfl))
    by_cases ha:A i
    ·exact awake_of (.inl (lz (hR.walk i _ hgi ha) fun M g w=>hst i M g w ha))
    ·by_cases hb:B i
     ·obtain ⟨n,hn⟩:=hR.tail i _ hgi hb
      exact awake_of ((qd hn).imp id .inr)
     ·exact (wV (hR.rest i _ i0 hgi ha hb)).2
   have hsome:∃ (i:Nat) (g:Goroutine),gs[i]?=some g∧g.status=.running:=by
    rcases hS with ⟨h,_⟩ | ⟨_,_,hn⟩
    ·exact ⟨0,g0,h,hg0⟩
    ·obtain ⟨i,hi,hab⟩:=alive τ t w own H hτ hn
     have hlt:i < gs.size:=by rw [hsz];exact hi
     refine ⟨i,gs[i],Array.getElem?_eq_getElem hlt,?_⟩
     rcases hab with ha | ⟨hb,h0⟩
     ·exact lz (hR.walk i _ (Array.getElem?_eq_getElem hlt) ha) fun M g w=>hst i M g w ha
     ·obtain ⟨n,hn⟩:=hR.tail i _ (Array.getElem?_eq_getElem hlt) hb
      generalize τ i=x at hn h0
      cases hn with
      | fin _=>exact absurd h0 (Nat.lt_irrefl 0)
      | slip h _ _=>exact h
      | op h _ _=>exact h
   obtain ⟨i,g,d,sl',hi,hg,hstep⟩:=crowd_pick (P:=P) (w:=w) (sl:=sl) haw hsome
   have hlt:i < gs.size:=(Array.getElem?_eq_some_iff.1 hi).1
   have uB:i < gs0.size:=by rw [← hsz];exact hlt
   by_cases i0:i=0
   ·subst i0
    have hA:¬ A 0:=fun ha=>qA 0 ha rfl
    have hB:¬ B 0:=fun hb=>E.jo 0 (hB0 0 hb) rfl
    rcases hS with ⟨h,hk⟩ | ⟨h,_⟩
    case inr=>rw [hi] at h;rw [Option.some.inj h] at hg;cases hg
    rw [hi] at h
    have hgg:=Option.some.inj h
    subst hgg
    by_cases hW:Wk τ
    ·exact .inl ⟨gs,w,sl,own,τ,rfl,hsz,hτ,hle,H,hR,⟨1,.inl ⟨hi,rfl⟩⟩,hrest,.inl ⟨d,sl',hi,hW,hstep⟩⟩
    refine .inr ?_
    have hsl:=sleep τ t (w.at d) own (H.at_ d) hW
    have hid:∀ y:Goroutine,woken P g (asleep g) (w.at d) y=y:=fun y=>by
     unfold woken
     rw [if_neg]
     simp [asleep]
    have hsame:∀ j,j≠0→((gs.map (woken P g (asleep g) (w.at d))).setIfInBounds 0 (asleep g))[j]?=gs[j]?:=fun j hj=>by
     rw [Array.getElem?_setIfInBounds_ne (fun z=>hj z.symm),Array.getElem?_map]
     cases gs[j]? with
     | none=>rfl
     | some y=>simp only [Option.map_some,hid y]
    have hev:MemOp.ofEvents 0 g.frame.fn g.frame.place #[]=#[]:=rfl
    refine ⟨_,_,(fun j=>((own j,(s.1 j).1.2.1,w.at d),(s.1 j).2),0),by rw [hstep];exact runT_crowd_go (sl:=sl') hi hsl,.inr ⟨fun j hj=>?_,by rw [hk];exact Nat.zero_lt_one⟩,_,_,sl',own,τ,rfl,by simpa using hsz,hτ,hle,by rw [hev,Array.append_empty];exact H.at_ d,⟨fun j x hx hj=>?_,fun j x hx hj=>?_,fun j x h0 hx hj hj2=>?_⟩,.inr ⟨Array.getElem?_setIfInBounds_self_of_lt (by simpa using hlt),rfl,hW⟩,fun j x hx hj=>?_,fun j x hx hj=>?_,fun j hj=>?_⟩
    ·show under (down P A Stop) j ((own j,(s.1 j).1.2.1,w.at d),(s.1 j).2) (s.1 j)
     by_cases ha:A j
     ·have hjl:j < gs.size:=by rw [hsz];exact hj
      have e3:=hs j _ (Array.getElem?_eq_getElem hjl) ha
      have e4:s.1 j=((own j,gs[j],w),(s.1 j).2):=Prod.ext e3 rfl
      rw [e4]
      exact uA fun _=>ay.at_ P _ w d
     ·rintro z (⟨h1,_⟩ | ⟨h1,h2⟩)
      ·exact absurd h1 ha
      ·exact .inr ⟨h1,h2⟩
    ·rw [hsame j (qA j hj)] at hx
     exact (hR.walk j x hx hj).rely (ay.at_ P _ w d)
    ·rw [hsame j (E.jo j (hB0 j hj))] at hx
     exact hR.tail j x hx hj
    ·rw [hsame j h0] at hx
     exact hR.rest j x h0 hx hj hj2
    ·rw [hsame j (qA j hj)] at hx
     simp only [hs j x hx hj]
    ·rw [hsame j (E.jo j (hB0 j hj))] at hx
     exact hf j x hx hj
    ·obtain ⟨q1,q2,q3⟩:=hrest j hj
     exact ⟨q1,q2.trans (ay.at_ P _ w d),fun h0 hb=>(hsame j h0).trans (q3 h0 hb)⟩
   by_cases ha:A i
   ·by_cases hat:jL P (Stop i) (own i,g,w)
    ·exact .inl ⟨gs,w,sl,own,τ,rfl,hsz,hτ,hle,H,hR,⟨_,hS⟩,hrest,.inr ⟨i,g,d,sl',ha,hi,hat,hstep⟩⟩
    refine .inr ?_
    have hrn:=hR.walk i g hi ha
    cases hrn with
    | stop h=>exact absurd h hat
    | step N g' w' es hgr r1 r2 r3 =>
     have hrel:=ay.at_ P (own i) w d
     obtain ⟨H',hrl⟩:=H.step (d:=d) (i:=i) (fn:=g.frame.fn) (pos:=g.frame.place) (by rw [hτ i (qf i ha)];exact hlv i ha) (r2 _ hrel)
     have hoth:=ED (g:=g) (g':=g' (w.at d)) (i:=i) hst hR (fun c hc=>(H'.chans c hc).1)
     have e1:(fun b=>(i=i∧N (w.at d) b)∨(i≠i∧own i b))=N (w.at d):=funext fun b=>propext ⟨fun z=>z.elim (·.2) fun z=>absurd rfl z.1,fun z=>.inl ⟨rfl,z⟩⟩
     have e2:∀ j,j≠i→(fun b=>(j=i∧N (w.at d) b)∨(j≠i∧own j b))=own j:=fun j e=>funext fun b=>propext ⟨fun z=>z.elim (fun z=>absurd z.1 e) (·.2),fun z=>.inr ⟨e,z⟩⟩
     have hrun':(g' (w.at d)).status=.running:=lz (r3 _ hrel) fun M g w=>hst i M g w ha
     obtain ⟨k',hS'⟩:=EE (P:=P) hg0 ho0 hS (τ':=τ) i0 (g:=g) (g':=g' (w.at d)) (w':=w' (w.at d)) (.inl hrun') fun a b=>absurd b a
     refine ⟨_,_,(fun j=>(((fun b=>(j=i∧N (w.at d) b)∨(j≠i∧own j b)),(if j=i then g' (w.at d) else (s.1 j).1.2.1),w' (w.at d)),(s.1 j).2),k'),by rw [hstep];exact runT_crowd_go (sl:=sl') hi (r1 _ hrel),.inl ?_,_,_,sl',_,τ,rfl,by simpa using hsz,hτ,hle,H',⟨fun j x hx hj=>?_,fun j x hx hj=>?_,fun j x h0 hx hj hj2=>?_⟩,hS',fun j x hx hj=>?_,fun j x hx hj=>?_,fun j hj=>?_⟩
     ·refine ⟨i,uB,?_,fun j hj hne=>?_⟩
      ·refine .inl ⟨ha,?_⟩
       show Sub P (i == 0) (Stop i) ((fun b=>(i=i∧N (w.at d) b)∨(i≠i∧own i b)),(if i=i then g' (w.at d) else (s.1 i).1.2.1),w' (w.at d)) (s.1 i).1
       rw [hs i g hi ha,if_pos rfl,e1]
       refine ⟨hat,w.at d,g' (w.at d),w' (w.at d),es (w.at d),hrel,r1 _ hrel,?_⟩
       have:N (w.at d)=grown (own i) (w.at d) (w' (w.at d)):=funext fun b=>propext ((r2 _ hrel).iff b)
       rw [this]
      ·show under (down P A Stop) j (((fun b=>(j=i∧N (w.at d) b)∨(j≠i∧own j b)),(if j=i then g' (w.at d) else (s.1 j).1.2.1),w' (w.at d)),(s.1 j).2) (s.1 j)
       rw [e2 j hne,if_neg hne]
       by_cases haj:A j
       ·have hjl:j < gs.size:=by rw [hsz];exact hj
        have e3:=hs j _ (Array.getElem?_eq_getElem hjl) haj
        have e4:s.1 j=((own j,gs[j],w),(s.1 j).2):=Prod.ext e3 rfl
        rw [e4]
        exact uA fun _=>hrl j hne
       ·rintro z (⟨h1,_⟩ | ⟨h1,h2⟩)
        ·exact absurd h1 haj
        ·exact .inr ⟨h1,h2⟩
     ·by_cases e:j=i
      ·subst e
       rw [Array.getElem?_setIfInBounds_self_of_lt (by simpa using hlt)] at hx
       cases hx
       show aj P (j == 0) (Stop j) (fun b=>(j=j∧N (w.at d) b)∨(j≠j∧own j b)) (g' (w.at d)) (w' (w.at d))
       rw [e1]
       exact r3 _ hrel
      ·have hx0:=mF hoth (qA j hj) e hx
       rw [e2 j e]
       exact (hR.walk j x hx0 hj).rely (hrl j e)
     ·have e:j≠i:=fun e=>qf i ha (e ▸ hj)
      exact hR.tail j x (mF hoth (E.jo j (hB0 j hj)) e hx) hj
     ·have e:j≠i:=fun e=>hj (e ▸ ha)
      exact hR.rest j x h0 (mF hoth h0 e hx) hj hj2
     ·by_cases e:j=i
      ·subst e
       rw [Array.getElem?_setIfInBounds_self_of_lt (by simpa using hlt)] at hx
       cases hx
       simp
      ·have hx0:=mF hoth (qA j hj) e hx
       simp only [e,if_false,hs j x hx0 hj]
     ·have e:j≠i:=fun e=>qf i ha (e ▸ hj)
      exact hf j x (mF hoth (E.jo j (hB0 j hj)) e hx) hj
     ·have e:j≠i:=fun z=>hj (z ▸ ha)
      obtain ⟨q1,q2,q3⟩:=hrest j hj
      refine ⟨(e2 j e).trans q1,q2.trans (q1 ▸ hrl j e),fun h0 hb=>?_⟩
      rw [← q3 h0 hb]
      cases hz:gs[j]? with
      | none=>rw [Array.getElem?_setIfInBounds_ne (fun z=>e z.symm),Array.getElem?_map,hz];rfl
      | some y=>exact hoth j y h0 e hz
   ·by_cases hb:B i
    ·have hi0:(i == 0)=false:=by simpa using i0
     have go:∀ (n:Nat) (g':Goroutine) (w':World) (es:Array Event) (τ':Nat→Nat),n < (s.1 i).2→stepG P (i == 0) g (w.at d)=.go g' w' es→bu P C E τ' (t ++ MemOp.ofEvents i g.frame.fn g.frame.place es) w' own→(∀ j,ay P (own j) w w')→aH P E.ok E.Pre E.aI n (τ' i) g'→(∀ j,j≠i→τ' j=τ j)→τ' i≤τ i→(¬ Wk τ→Wk τ'→mayWake P g=true) →
       ∃ m' ops s',stepT P (crowd gs w sl)=(.next m',ops)∧zR (down P A Stop) gs0.size s' s∧∃ gs w sl own τ,m'=crowd gs w sl∧gs.size=gs0.size∧(∀ i,¬ B i→τ i=τ0 i)∧(∀ i,τ i≤τ0 i)∧bu P C E τ (t ++ ops) w own∧rQ P C E τ A B Stop gs w own∧oO g0 Wk gs τ s'.2∧(∀ i g,gs[i]?=some g→A i→(s'.1 i).1=(own i,g,w))∧(∀ i g,gs[i]?=some g→B i→aH P E.ok E.Pre E.aI (s'.1 i).2 (τ i) g)∧∀ i,¬ A i→own i=aU i∧ay P (aU i) w0 w∧(i≠0→¬ B i→gs[i]?=gs0[i]?):=by
      intro n g' w' es τ' hn hst' H' hrl ht jK zk hwk
      have hoth:=ED (g:=g) (g':=g') (i:=i) hst hR (fun c hc=>(H'.chans c hc).1)
      obtain ⟨k',hS'⟩:=EE (P:=P) hg0 ho0 hS (τ':=τ') i0 (g:=g) (g':=g') (w':=w') (qd ht) hwk
      refine ⟨_,_,(fun j=>((own j,(if j=i then g' else (s.1 j).1.2.1),w'),(if j=i then n else (s.1 j).2)),k'),by rw [hstep];exact runT_crowd_go (sl:=sl') hi hst',.inl ?_,_,_,sl',own,τ',rfl,by simpa using hsz,fun j hj=>(jK j fun e=>hj (e ▸ hb)).trans (hτ j hj),fun j=>(if e:j=i then (by rw [e];exact Nat.le_trans zk (hle i)) else (by rw [jK j e];exact hle j)),H',⟨fun j x hx hj=>?_,fun j x hx hj=>?_,fun j x h0 hx hj hj2=>?_⟩,hS',fun j x hx hj=>?_,fun j x hx hj=>?_,fun j hj=>?_⟩
      ·refine ⟨i,uB,.inr ⟨ha,by simpa using hn⟩,fun j hj hne=>?_⟩
       show under (down P A Stop) j ((own j,(if j=i then g' else (s.1 j).1.2.1),w'),(if j=i then n else (s.1 j).2)) (s.1 j)
       rw [if_neg hne,if_neg hne]
       by_cases haj:A j
       ·have hjl:j < gs.size:=by rw [hsz];exact hj
        have e3:=hs j _ (Array.getElem?_eq_getElem hjl) haj
        have e4:s.1 j=((own j,gs[j],w),(s.1 j).2):=Prod.ext e3 rfl
        rw [e4]
        exact uA fun _=>hrl j
       ·rintro z (⟨h1,_⟩ | ⟨h1,h2⟩)
        ·exact absurd h1 haj
        ·exact .inr ⟨h1,h2⟩
      ·have e:j≠i:=fun e=>ha (e ▸ hj)
       exact (hR.walk j x (mF hoth (qA j hj) e hx) hj).rely (hrl j)
      ·by_cases e:j=i
       ·subst e
        rw [Array.getElem?_setIfInBounds_self_of_lt (by simpa using hlt)] at hx
        cases hx
        exact ⟨n,ht⟩
       ·rw [jK j e]
        exact hR.tail j x (mF hoth (E.jo j (hB0 j hj)) e hx) hj
      ·have e:j≠i:=fun e=>hj2 (e ▸ hb)
       exact hR.rest j x h0 (mF hoth h0 e hx) hj hj2
      ·have e:j≠i:=fun e=>ha (e ▸ hj)
       have hx0:=mF hoth (qA j hj) e hx
       simp only [e,if_false,hs j x hx0 hj]
      ·by_cases e:j=i
       ·subst e
        rw [Array.getElem?_setIfInBounds_self_of_lt (by simpa using hlt)] at hx
        cases hx
        simpa using ht
       ·rw [jK j e]
        simp only [e,if_false]
        exact hf j x (mF hoth (E.jo j (hB0 j hj)) e hx) hj
      ·obtain ⟨q1,q2,q3⟩:=hrest j hj
       refine ⟨q1,q2.trans (q1 ▸ hrl j),fun h0 hb2=>?_⟩
       have e:j≠i:=fun e=>hb2 (e ▸ hb)
       rw [← q3 h0 hb2]
       cases hz:gs[j]? with
       | none=>rw [Array.getElem?_setIfInBounds_ne (fun z=>e z.symm),Array.getElem?_map,hz];rfl
       | some y=>exact hoth j y h0 e hz
     refine .inr ?_
     have htl:=hf i g hi hb
     generalize hn0:(s.1 i).2=n0 at htl
     generalize hs0:τ i=s0 at htl
     cases htl with
     | fin h=>rw [hg] at h;cases h
     | slip hr0 h1 h2 =>
      rename_i n g'
      have hev:MemOp.ofEvents i g.frame.fn g.frame.place #[]=#[]:=rfl
      exact go n g' (w.at d) #[] τ ag (by rw [hi0];exact h1 _ fun _=>K.root C τ t _ own (H.at_ d)) (by rw [hev,Array.append_empty];exact H.at_ d) (fun j=>ay.at_ P _ w d) (by rw [hs0];exact h2) (fun _ _=>rfl) (Nat.le_refl _) fun a b=>absurd b a
     | op hr0 hok h2 =>
      rename_i n s1
      obtain ⟨hpre,g',w',es,hst',H',hrl⟩:=K.op C τ i s1 t (w.at d) own g (hB0 i hb) (H.at_ d) hs0 hok
      exact go n g' w' es (upd τ i (E.aI (s1+1) (w.at d))) ag (by rw [hi0];exact hst') H' (fun j=>(ay.at_ P _ w d).trans (hrl j)) (by rw [dH];exact h2 _ _ _ _ hpre hst') (fun j hj=>upd_ne τ _ hj) (by rw [dH,hs0];have:=K.low s1 (w.at d);omega) (wake τ t (w.at d) own i s1 g (H.at_ d) (hB0 i hb) hs0 hok)
    ·exact absurd hg (wV (hR.rest i g i0 hi ha hb)).1)
  (s0,k0) (MK _ _ hacc _ _ fun j _=>qZ _ j _) (crowd gs0 w0 sl0) T0 ⟨gs0,w0,sl0,aU,τ0,rfl,rfl,fun _ _=>rfl,fun _=>Nat.le_refl _,H0,hR0,hS0,fun i g hg _=>by show (aU i,gs0.getD i default,w0)=_;rw [Array.getD_eq_getD_getElem?,hg];rfl,hfu,fun i _=>⟨rfl,ay.refl P (aU i) w0,fun _ _=>rfl⟩⟩
 obtain ⟨gs,w,sl,own,τ,rfl,rest⟩:=hd
 exact ⟨N,gs,w,sl,T',own,τ,hrun,rest⟩
end
section
variable {P:Program}{C:Nat→Prop}{E:Env}{O:Nat→Option (Array CommCase×CommShape)}{Home:Nat→(Nat→Prop)→Goroutine→World→Prop}{St:(Nat→Prop)→Goroutine→World→Prop}{Wk:(Nat→Nat)→Prop}
structure xC (P:Program)(C:Nat→Prop)(E:Env)(Wk:(Nat→Nat)→Prop)(size:Nat):Prop where
 wake:∀ τ T w own i s g,bu P C E τ T w own→E.wk i→τ i=s+1→E.ok (s+1) g→¬ Wk τ→Wk (upd τ i (E.aI (s+1) w))→mayWake P g=true
 alive:∀ τ T w own,bu P C E τ T w own→¬ Wk τ→∃ i,i≠0∧i < size∧E.wk i∧0 < τ i
theorem MM (K:dB P E)(hO:∀ i,i≠0→O i=none){g0:Goroutine}(hg0:g0.status=.running)(ho0:g0.offers=none){size:Nat}(Bd:xC P C E Wk size)(sleep:∀ τ T w own,bu P C E τ T w own→¬ Wk τ→stepG P true g0 w=.go (asleep g0) w #[]) :
  ∀ (n:Nat) (L:List Nat),L.length≤n→∀ (gs0:Array Goroutine) (w0:World) (sl0:Option (Nat×Nat)) (T0:Trace) (aU:Nat→Nat→Prop) (τ0:Nat→Nat) (k0:Nat),gs0.size=size→bu P C E τ0 T0 w0 aU→0∉L→jL P St (aU 0,g0,w0)→oO g0 Wk gs0 τ0 k0 →
   (∀ i g,i≠0→gs0[i]?=some g→i∈L→aj P (i == 0) (dm P E O Home (τ0 i) i) (aU i) g w0)→(∀ i g,i≠0→gs0[i]?=some g→i∉L→Sat P E O Home (τ0 i) i (aU i) g w0)→(∀ i,i∈L→E.lv i (τ0 i))→E.lv 0 (τ0 0) →
  ∃ N gs w sl T own τ L',runNT P N (crowd gs0 w0 sl0) T0=(.next (crowd gs w sl),T)∧gs.size=size∧dZ O 0 τ0 τ∧aP P C E τ O Home St 0 gs w T own L'∧0∉L'∧∃ d sl',gs[0]?=some g0∧jL P St (own 0,g0,w)∧Wk τ∧stepT P (crowd gs w sl)=runT P (crowd gs (w.at d) sl') 0:=by
 intro n
 induction n with
 | zero =>
  intro L hL gs0 w0 sl0 T0 aU τ0 k0 hsize H0 vo jO hS0 nJ lC hlive kD
  have hL0:L=[]:=List.length_eq_zero_iff.1 (Nat.le_zero.1 hL)
  subst hL0
  have rR:∀ i g,gs0[i]?=some g→Last E O [] i→∃ n,aH P E.ok E.Pre E.aI n (τ0 i) g:=fun i g hg hb=>by
   rcases lC i g (E.jo i hb.2.2) hg hb.1 with ⟨_,_,q⟩ | ⟨cs,sh,g2,ho,_⟩
   ·exact q
   ·exact absurd (ho.symm.trans hb.2.1) ah
  obtain ⟨N,gs,w,sl,T,own,τ,hrun,hsz,hτ,hle,H,hR,hS,hrest,hend⟩:=EF (P:=P) (C:=C) (E:=E) (A:=(·∈([]:List Nat))) (B:=Last E O []) (Stop:=fun _=>St) (sl0:=sl0) (Wk:=Wk) K (fun i M g w h=>absurd h ah) (fun i hi=>absurd hi ah) (fun i hi=>absurd hi ah) (fun i hb=>hb.2.2) (fun i hi=>absurd hi ah) hg0 ho0 sleep Bd.wake
   (fun τ T w own HT _ hn=>by
    obtain ⟨i,i0,il,iw,it⟩:=Bd.alive τ T w own HT hn
    exact ⟨i,by rw [hsize];exact il,.inr ⟨⟨ah,hO i i0,iw⟩,it⟩⟩) H0
   ⟨fun i g hg hi=>absurd hi ah,rR,fun i g i0 hg _ hb=>by
    rcases lC i g i0 hg ah with ⟨e1,e2,_⟩ | ⟨cs,sh,g2,ho,_⟩
    ·exact absurd ⟨ah,e1,e2⟩ hb
    ·exact absurd (ho.symm.trans (hO i i0)) ah⟩ hS0
  rcases hend with ⟨d,sl',hg,hW,hstep⟩ | ⟨i,_,_,_,hi,_⟩
  case inr=>exact absurd hi ah
  obtain ⟨q1,q2,_⟩:=hrest 0 ah
  have hat:jL P St (own 0,g0,w):=by
   rw [q1]
   exact fun w1 hr=>jO w1 (q2.trans hr)
  have e0:τ 0=τ0 0:=hτ 0 fun hb=>E.jo 0 hb.2.2 rfl
  refine ⟨N,gs,w,sl,T,own,τ,[],hrun,hsz.trans hsize,⟨⟨fun i cs e=>?_,hle⟩,e0⟩,⟨H,(Array.getElem?_eq_some_iff.1 hg).1,fun x hx=>?_,fun i g e hg hi=>absurd hi ah,fun i g e hg hi=>?_,fun i hi=>absurd hi ah,by rw [e0];exact kD⟩,ah,d,sl',hg,hat,hW,hstep⟩
  ·by_cases i0:i=0
   ·rw [i0];exact e0
   ·exact absurd ((hO i i0).symm.trans e) ah
  ·rw [hg] at hx;cases hx
   exact .stop hat
  ·have iw:E.wk i:=by
    have hi0:i < gs0.size:=by rw [← hsz];exact (Array.getElem?_eq_some_iff.1 hg).1
    rcases lC i _ e (Array.getElem?_eq_getElem hi0) ah with ⟨_,e2,_⟩ | ⟨cs,sh,g2,ho,_⟩
    ·exact e2
    ·exact absurd (ho.symm.trans (hO i e)) ah
   exact .inl ⟨hO i e,iw,hR.tail i g hg ⟨ah,hO i e,iw⟩⟩
 | succ n ih =>
  intro L hL gs0 w0 sl0 T0 aU τ0 k0 hsize H0 vo jO hS0 nJ lC hlive kD
  have hne0:∀ i,i∈L→i≠0:=fun i hi e=>vo (e ▸ hi)
  have rR:∀ i g,gs0[i]?=some g→Last E O L i→∃ n,aH P E.ok E.Pre E.aI n (τ0 i) g:=fun i g hg hb=>by
   rcases lC i g (E.jo i hb.2.2) hg hb.1 with ⟨_,_,q⟩ | ⟨cs,sh,g2,ho,_⟩
   ·exact q
   ·exact absurd (ho.symm.trans hb.2.1) ah
  obtain ⟨N,gs,w,sl,T,own,τ,hrun,hsz,hτ,hle,H,hR,⟨k,hS⟩,hrest,hend⟩:=EF (P:=P) (C:=C) (E:=E) (A:=(·∈L)) (B:=Last E O L) (Stop:=fun i=>dm P E O Home (τ0 i) i) (sl0:=sl0) (Wk:=Wk) K (fun i M g w _ h=>uC _ i M g w h) (fun i hi hb=>hb.1 hi) hne0 (fun i hb=>hb.2.2) hlive hg0 ho0 sleep Bd.wake
   (fun τ T w own HT _ hn=>by
    obtain ⟨i,i0,il,iw,it⟩:=Bd.alive τ T w own HT hn
    by_cases gU:i∈L
    ·exact ⟨i,by rw [hsize];exact il,.inl gU⟩
    ·exact ⟨i,by rw [hsize];exact il,.inr ⟨⟨gU,hO i i0,iw⟩,it⟩⟩) H0
   ⟨fun i g hg hi=>nJ i g (hne0 i hi) hg hi,rR,fun i g i0 hg ha hb=>by
    rcases lC i g i0 hg ha with ⟨e1,e2,_⟩ | ⟨cs,sh,g2,ho,_⟩
    ·exact absurd ⟨ha,e1,e2⟩ hb
    ·exact absurd (ho.symm.trans (hO i i0)) ah⟩ hS0
  obtain ⟨q1,q2,_⟩:=hrest 0 vo
  have hat:jL P St (own 0,g0,w):=by
   rw [q1]
   exact fun w1 hr=>jO w1 (q2.trans hr)
  have e0:τ 0=τ0 0:=hτ 0 fun hb=>E.jo 0 hb.2.2 rfl
  have hkeep:dZ O 0 τ0 τ:=by
   refine ⟨⟨fun i cs e=>?_,hle⟩,e0⟩
   by_cases i0:i=0
   ·rw [i0];exact e0
   ·exact absurd ((hO i i0).symm.trans e) ah
  have zT:∀ i,i∈L→τ i=τ0 i:=fun i hi=>hτ i fun hb=>hb.1 hi
  have hact:∀ i g,i≠0→gs[i]?=some g→i∈L→aj P (i == 0) (dm P E O Home (τ i) i) (own i) g w:=fun i g _ hg hi=>by rw [zT i hi];exact hR.walk i g hg hi
  have eY:∀ i g,i≠0→gs[i]?=some g→i∉L→Sat P E O Home (τ i) i (own i) g w:=fun i g i0 hg hi=>by
   have iw:E.wk i:=by
    have hi0:i < gs0.size:=by rw [← hsz];exact (Array.getElem?_eq_some_iff.1 hg).1
    rcases lC i _ i0 (Array.getElem?_eq_getElem hi0) hi with ⟨_,e2,_⟩ | ⟨cs,sh,g2,ho,_⟩
    ·exact e2
    ·exact absurd (ho.symm.trans (hO i i0)) ah
   exact .inl ⟨hO i i0,iw,hR.tail i g hg ⟨hi,hO i i0,iw⟩⟩
  have EG:∀ i,i∈L→E.lv i (τ i):=fun i hi=>by rw [zT i hi];exact hlive i hi
  rcases hend with ⟨d,sl',hg,hW,hstep⟩ | ⟨i,g,d,sl',gU,hig,MN,hstep⟩
  ·exact ⟨N,gs,w,sl,T,own,τ,L,hrun,hsz.trans hsize,hkeep,⟨H,(Array.getElem?_eq_some_iff.1 hg).1,fun x hx=>by rw [hg] at hx;cases hx;exact .stop hat,hact,eY,EG,by rw [e0];exact kD⟩,vo,d,sl',hg,hat,hW,hstep⟩
  ·have hlen:(L.filter (·≠i)).length≤n:=by
    have:(L.filter (·≠i)).length < L.length:=List.length_filter_lt_length_iff_exists.2 ⟨i,gU,ah⟩
    omega
   have hmem:∀ x,x∈L.filter (·≠i)↔x∈L∧x≠i:=fun x=>by simp
   rcases MN w (ay.refl P (own i) w) with ⟨cs,sh,g2,ho,_⟩ | ⟨_,iw,_,n1,hn1⟩
   ·exact absurd (ho.symm.trans (hO i (hne0 i gU))) ah
   obtain ⟨N2,gs2,w2,sl2,T2,gJ,τ2,L2,hr2,hsz2,hk2,hS2,h02,MO⟩:=ih (L.filter (·≠i)) hlen gs w sl T own τ k (hsz.trans hsize) H (fun q=>vo ((hmem 0).1 q).1) hat hS (fun x y x0 hy hx=>hact x y x0 hy ((hmem x).1 hx).1)
    (fun x y x0 hy hx=>by
     by_cases e:x=i
     ·subst e
      rw [hig] at hy
      cases hy
      exact .inl ⟨hO x x0,iw,n1,by rw [zT x gU];exact hn1⟩
     ·exact eY x y x0 hy fun q=>hx ((hmem x).2 ⟨q,e⟩)) (fun x hx=>EG x ((hmem x).1 hx).1) (by rw [e0];exact kD)
   exact ⟨N+N2,gs2,w2,sl2,T2,gJ,τ2,L2,by rw [runNT_then N N2 _ _ _ _ hrun];exact hr2,hsz2,hkeep.trans hk2,hS2,h02,MO⟩
theorem aP.served (K:dB P E)(U:dN C O)(hO:∀ i,i≠0→O i=none){Z:Type}{bU:Z→(Nat→Prop)→Goroutine→World→Prop}(Q:Z→(Nat→Nat)→Prop)(hst:∀ M g w,St M g w→g.status=.running∧g.offers=none){E':Z→Env}(e1:∀ z,(E' z).ok=E.ok)(e2:∀ z,(E' z).Pre=E.Pre)(e4:∀ z,(E' z).aI=E.aI)(e5:∀ z i,E.wk i→(E' z).wk i)(e3:∀ z i s,i≠0→E.lv i s→(E' z).lv i s){gs0:Array Goroutine}{w0:World}{sl0:Option (Nat×Nat)}{T0:Trace}{aU:Nat→Nat→Prop}{τ0:Nat→Nat}{L:List Nat}
  (H:aP P C E τ0 O Home St 0 gs0 w0 T0 aU L)(hh:0∉L)(Bd:xC P C E Wk gs0.size)(sleep:∀ M g w1,St M g w1→∀ τ T w own,bu P C E τ T w own→¬ Wk τ→stepG P true g w=.go (asleep g) w #[])
  (step:∀ τ T w own g,dZ O 0 τ0 τ→Wk τ→St (own 0) g w→bu P C E τ T w own→∃ z g' w' es,Q z τ∧stepG P true g w=.go g' w' es∧bu P C (E' z) τ (T ++ MemOp.ofEvents 0 g.frame.fn g.frame.place es) w' own∧(∀ j,ay P (own j) w w')∧aj P true (bU z) (own 0) g' w'∧(E' z).lv 0 (τ 0)) :
  ∃ z N gs w sl T own τ L',Q z τ∧runNT P N (crowd gs0 w0 sl0) T0=(.next (crowd gs w sl),T)∧gs.size=gs0.size∧dZ O 0 τ0 τ∧aP P C (E' z) τ O Home (bU z) 0 gs w T own L'∧0∉L':=by
 obtain ⟨N1,gs1,w1,sl1,T1,eT,τ1,L1,MP,hsz1,hk1,hL1,zI⟩:=lead K U (fun M g w h=>(hst M g w h).1) L.length L (Nat.le_refl _) gs0 w0 sl0 T0 aU τ0 H hh
 obtain ⟨g0,_,_,hg0,jO,_⟩:=hL1.stop
 have hs0:St (eT 0) g0 w1:=jO w1 (ay.refl P _ w1)
 obtain ⟨N,gs,w,sl,T,own,τ,L',hrun,hsz,hk,hS,hh',d,sl',hg,hat,hW,hstep⟩:=MM (St:=St) (g0:=g0) K hO (hst _ _ _ hs0).1 (hst _ _ _ hs0).2 Bd (sleep _ _ _ hs0) L1.length L1 (Nat.le_refl _) gs1 w1 sl1 T1 eT τ1 1 hsz1 hL1.sys.eZ zI jO (.inl ⟨hg0,rfl⟩) hL1.sys.act hL1.sys.sat hL1.sys.live hL1.sys.mine
 have hk0:=hk1.trans hk
 obtain ⟨z,g',w',es,hQ,hs,hT,hrl,hr,hlv⟩:=step τ T (w.at d) own g0 hk0 hW (hat _ (ay.at_ P _ w d)) (hS.eZ.at_ d)
 have hrt:=runT_crowd_go (P:=P) (i:=0) (sl:=sl') hg hs
 have hlt:0 < gs.size:=(Array.getElem?_eq_some_iff.1 hg).1
 have hag:=hS.again U.plain (w':=w') fun c hc=>(hT.chans c hc).1
 have uF:∀ j,ay P (own j) w w':=fun j=>(ay.at_ P _ w d).trans (hrl j)
 have hoth:∀ j x,j≠0→((gs.map (woken P g0 g' w')).setIfInBounds 0 g')[j]?=some x→gs[j]?=some x:=by
  intro j x e hx
  rw [Array.getElem?_setIfInBounds_ne (fun q=>e q.symm),Array.getElem?_map] at hx
  cases hz:gs[j]? with
  | none=>rw [hz] at hx;cases hx
  | some y =>
   rw [hz] at hx
   simp only [Option.map_some,woken_of_again (hag j y e hz)] at hx
   exact hx
 refine ⟨z,N1+(N+1),(gs.map (woken P g0 g' w')).setIfInBounds 0 g',w',sl',T ++ MemOp.ofEvents 0 g0.frame.fn g0.frame.place es,own,τ,L',hQ,?_,by simpa using hsz,hk0,⟨hT,by simpa using hlt,fun x hx=>?_,fun i x e hx hi=>?_,fun i x e hx hi=>?_,fun i hi=>e3 z i _ (fun e=>hh' (e ▸ hi)) (hS.live i hi),hlv⟩,hh'⟩
 ·rw [runNT_then N1 (N+1) _ _ _ _ MP]
  exact (runNT_then N 1 _ _ _ _ hrun).trans (by simp only [runNT,hstep,hrt])
 ·rw [Array.getElem?_setIfInBounds_self_of_lt (by simpa using hlt)] at hx
  cases hx
  exact hr
 ·exact ((hS.act i x e (hoth i x e hx) hi).mono fun M g w h=>zt (e1 z) (e2 z) (e4 z) (e5 z) h).rely (uF i)
 ·exact zu (e1 z) (e2 z) (e4 z) (e5 z) ((hS.sat i x e (hoth i x e hx) hi).rely (uF i))
end
end Go.Blind
namespace Go.Blind
open Go.Conc Go.ConcR Go.RowKit Go.Conc.Lib Go.ConcR.Gen
theorem qw {g g':Goroutine}{w w':World}{es es':Array Event}(h:GStep.go g w es=.go g' w' es'):g=g'∧w=w'∧es=es':=by
 cases h;exact ⟨rfl,rfl,rfl⟩
theorem xw {P:Program}{w:World}{src dst t:TypeId}(hs:P.underlying src=some (.pointer t))(hd:P.underlying dst=some .unsafePointer)(hsz:(P.info? t).map (fun i=>decide (i.size=0))=some false){a:Addr}{v:Value}(hc:w.cell? a=some v):(convert src dst (.pointer (some a))).run P w=.ok (.pointer (some a)) w∧∀ es,(convert src dst (.pointer (some a))).events P w es=es:=by
 obtain ⟨e,n,hsh,hlt,hsp⟩:=World.shape?_of_cell? hc
 obtain ⟨i,hi,hz0⟩:=Option.map_eq_some_iff.1 hsz
 have hz:i.size≠0:=by simpa using hz0
 have hge:¬ (n≤a.off):=by omega
 constructor
 ·simp [convert,Conv.unsafePointer,Conv.seenAt,viewAt,cellsIn,sizeOf,typeInfo,run_underlying hs,run_underlying hd,hi,hz,hsh,hge,Result.andThen]
 ·intro es
  simp [convert,Conv.unsafePointer,Conv.seenAt,viewAt,cellsIn,sizeOf,typeInfo,run_underlying hs,run_underlying hd,hi,hz,hsh,hge,Result.evThen]
section
variable {P:Program}{ok:Nat→Goroutine→Prop}{Pre:Nat→World→Prop}{aI:Nat→World→Nat}{n s:Nat}{b:Frame}{a:Act}{k:List Item}{cs:List Frame}{ops:Array Oper}{i:Nat}{rest:List Nat}{o:Oper}{g:Goroutine}
theorem aH.value (v:Value)(ho:ops[i]?=some o)(hw:Region.wanted o (yielded ops a.tmps)=true)(hk:b.kind≠.early)(hr:∀ w,(execOp a.eval o).run P w=.ok (.value v) w)(he:∀ w,(execOp a.eval o).events P w #[]=#[])
  (hq:aH P ok Pre aI n s (G (b.at (a.put o.dst v) (.inRegion ops rest :: k)) cs)):aH P ok Pre aI (n+1) s (G (b.at a (.inRegion ops (i :: rest) :: k)) cs) :=
 .slip rfl (fun w _=>by rw [stepG_value ho hw hk (hr w)];unfold listed;rw [he w,seen_none]) hq
theorem Tv {a':Act}(v:Value)(hq:aH P ok Pre aI n s (G (b.at a' (.inRegion ops rest :: k)) cs))(ho:ops[i]?=some o:=by rfl)(hw:Region.wanted o (yielded ops a.tmps)=true:=by rfl)(hk:b.kind≠.early:=by k_ne)(hr:∀ w,(execOp a.eval o).run P w=.ok (.value v) w:=by intro _;go_simp;try (first | w_num | decide | simp [*]))(he:∀ w,(execOp a.eval o).events P w #[]=#[]:=by intro _;simp [go_sem, *])(ha:a.put o.dst v=a':=by walk_nrm;rfl):aH P ok Pre aI (n+1) s (G (b.at a (.inRegion ops (i :: rest) :: k)) cs):=aH.value v ho hw hk hr he (ha ▸ hq)
theorem Tu {a':Act}(hq:aH P ok Pre aI n s (G (b.at a' (.inRegion ops rest :: k)) cs))(ho:ops[i]?=some o:=by rfl)(hw:Region.wanted o (yielded ops a.tmps)=false:=by rfl)(ha:a.put o.dst undef=a':=by walk_nrm;rfl):aH P ok Pre aI (n+1) s (G (b.at a (.inRegion ops (i :: rest) :: k)) cs):=.slip rfl (fun _ _=>stepG_unwanted ho hw) (ha ▸ hq)
theorem Tq {x y:Code}(h:aH P ok Pre aI n s (G (b.at a (.code x :: .code y :: k)) cs)):aH P ok Pre aI (n+1) s (G (b.at a (.code (.seq x y) :: k)) cs):=.slip rfl (fun _ _=>stepG_seq) h
theorem Te (h:aH P ok Pre aI n s (G (b.at a k) cs)):aH P ok Pre aI (n+1) s (G (b.at a (.inRegion ops [] :: k)) cs):=.slip rfl (fun _ _=>stepG_region_end) h
theorem Tg {id:Nat}{l:List Nat}(h:aH P ok Pre aI n s (G (b.at a (.inRegion ops l :: k)) cs))(hl:List.range ops.size=l:=by simp only [List.size_toArray,List.length_cons,List.length_nil,Nat.reduceAdd,Nat.zero_add,List.range,List.range.loop];rfl):aH P ok Pre aI (n+1) s (G (b.at a (.code (.region id ops false) :: k)) cs):=.slip rfl (fun _ _=>stepG_region) (hl ▸ h)
theorem Tk (h:aH P ok Pre aI n s (G (b.at a k) cs)):aH P ok Pre aI (n+1) s (G (b.at a (.code .skip :: k)) cs):=.slip rfl (fun _ _=>stepG_skip) h
theorem Tf {c:Operand}{x y:Code}(hc:a.eval c=.bool false)(h:aH P ok Pre aI n s (G (b.at a (.code y :: k)) cs)):aH P ok Pre aI (n+1) s (G (b.at a (.code (.cond c x y) :: k)) cs):=.slip rfl (fun _ _=>stepG_cond (t:=false) hc) h
theorem Tt {c:Operand}{x y:Code}(hc:a.eval c=.bool true)(h:aH P ok Pre aI n s (G (b.at a (.code x :: k)) cs)):aH P ok Pre aI (n+1) s (G (b.at a (.code (.cond c x y) :: k)) cs):=.slip rfl (fun _ _=>stepG_cond (t:=true) hc) h
theorem aH.call {f:FuncId}{fn:Func}{xs:Array Operand}{ats:Array TypeId}{c:Code}(ho:ops[i]?=some o)(hw:Region.wanted o (yielded ops a.tmps)=true)(hk:b.kind≠.early)(hop:o.op=.call { callee:=.value (.func f),args:=xs,argTypes:=ats })
  (hf:P.funcs[f]?=some fn)(hname:(fn.name == "runtime.NumGoroutine")=false)(hb:fn.body=some c)
  (hq:aH P ok Pre aI n s (G ((base f).at { tmps:=xs.map a.eval ++ Array.replicate (fn.ntmps - (xs.map a.eval).size) undef,defers:=[] } [.code c]) (b.at a (.inRegion ops (i :: rest) :: k) :: cs))):aH P ok Pre aI (n+1) s (G (b.at a (.inRegion ops (i :: rest) :: k)) cs):=by
 have h1:¬ fn.name = "runtime.NumGoroutine":=by simpa using hname
 refine .slip rfl (fun w _=>?_) hq
 have hr:(execOp a.eval o).run P w=.ok (.enter f (xs.map a.eval)) w:=by rw [execOp_call_func hop];simp [callFunc,hf,h1,hb]
 have he:(execOp a.eval o).events P w #[]=#[]:=by rw [execOp_call_func hop];simp [callFunc,hf,h1,hb]
 rw [stepG_enter ho hw hk hr,enter_at _ hf hb]
 unfold listed
 rw [he,seen_none]
theorem aH.conv {R q:Nat}{src dst t:TypeId}{x:Operand}(ho:ops[i]?=some o)(hw:Region.wanted o (yielded ops a.tmps)=true)(hk:b.kind≠.early)(hop:o.op=.convert src dst x)(hx:a.eval x=.pointer (some ⟨R,q,none⟩))
  (hs:P.underlying src=some (.pointer t))(hd:P.underlying dst=some .unsafePointer)(hsz:(P.info? t).map (fun i=>decide (i.size=0))=some false)(h0:∀ w,Pre 0 w→∃ v,w.cell? ⟨R,q,none⟩=some v)(h1:1 < s)
  (hq:aH P ok Pre aI n s (G (b.at (a.put o.dst (.pointer (some ⟨R,q,none⟩))) (.inRegion ops rest :: k)) cs)):aH P ok Pre aI (n+1) s (G (b.at a (.inRegion ops (i :: rest) :: k)) cs):=by
 refine .slip rfl (fun w hp=>?_) hq
 obtain ⟨v,hc⟩:=h0 w (hp h1)
 have e1:(execOp a.eval o).run P w=.ok (.value (.pointer (some ⟨R,q,none⟩))) w:=by
  unfold execOp
  simp only [hop,hx]
  have:=(xw (P:=P) hs hd hsz hc).1
  simp [this]
 have e2:(execOp a.eval o).events P w #[]=#[]:=by
  unfold execOp
  simp only [hop,hx]
  have:=(xw (P:=P) hs hd hsz hc).2
  simp [this]
 rw [stepG_value ho hw hk e1]
 unfold listed
 rw [e2,seen_none]
theorem aF {a b:Prop}(h:a→b)(k:a):b:=h k
theorem aH.more (h:aH P ok Pre aI n s g):aH P ok Pre aI (n+1) s g:=by
 induction h with
 | fin h=>exact .fin h
 | slip h1 h2 _ ih=>exact .slip h1 h2 ih
 | op h1 h2 _ ih=>exact .op h1 h2 ih
theorem aH.mono {m:Nat}(h:aH P ok Pre aI n s g)(hm:n≤m):aH P ok Pre aI m s g:=by
 induction hm with
 | refl=>exact h
 | step _ ih=>exact ih.more
theorem Dm:∀ x∈(#[⟨.mark .enable,false,true⟩]:Array Event),x.sync=true∧∀ g,x.loc≠.mark (.extern g):=by
 intro x hx
 simp only [List.mem_toArray,List.mem_cons,List.not_mem_nil,or_false] at hx
 subst hx
 exact ⟨rfl,fun g h=>by cases h⟩
theorem aH.enable {fn:Func}{todo:List Item}{ds:List Deferred}{f:FuncId}(hd:a.defers=dcall f #[] :: ds)(hf:P.funcs[f]?=some fn)(hname:(fn.name == "runtime.NumGoroutine")=false)(hb:fn.body.isNone=true)(hn:Extern.findNext fn=none)
  (he:Extern.find fn=some (fun _=>do mark .enable;pure Extern.Race.none_))(hok1:∀ g g',(∀ w,stepG P false g w=.go g' w #[⟨.mark .enable,false,true⟩])→ok 1 g)(hn1:∀ w,aI 1 w=0)
  (hq:aH P ok Pre aI n 0 (G { b.at ⟨a.tmps,ds⟩ todo with mode:=.returning } cs)):aH P ok Pre aI (n+1) 1 (G { b.at a todo with mode:=.returning } cs):=by
 have hE:∀ w,stepG P false (G { b.at a todo with mode:=.returning } cs) w=.go (G { b.at ⟨a.tmps,ds⟩ todo with mode:=.returning } cs) w #[⟨.mark .enable,false,true⟩]:=fun w=>stepG_unwind_entry (v:=.tuple #[]) hd hf hname hb hn he (by simp [Extern.Race.none_]) ah Dm
 refine .op rfl (hok1 _ _ hE) fun w g' w' es _ hst=>?_
 rw [hE w] at hst
 obtain ⟨rfl,rfl,rfl⟩:=qw hst
 rw [hn1]
 exact hq
section
variable {fn:Func}{todo:List Item}{b₀:Frame}{a₀:Act}
theorem aH.leave0 (hn:b.kind=.normal)(hd:a.defers=[])(hf:P.funcs[b.fn]?=some fn)(hr:fn.results=#[])
  (hq:aH P ok Pre aI n s (G (b₀.at (a₀.put ((ops[i]?).bind (·.dst)) (.tuple #[])) (.inRegion ops rest :: k)) cs)) :
  aH P ok Pre aI (n+1) s (G { b.at a todo with mode:=.returning } (b₀.at a₀ (.inRegion ops (i :: rest) :: k) :: cs)) :=
 .slip rfl (fun w _=>by rw [stepG_leave hn hd hf (results_none hr _ P w) (events_results_none hr _ _),Frame.finish_at]) hq
theorem aH.leave1 {t:Tmp}(hn:b.kind=.normal)(hd:a.defers=[])(hf:P.funcs[b.fn]?=some fn)(hr:fn.results=#[.tmp t])
  (hq:aH P ok Pre aI n s (G (b₀.at (a₀.put ((ops[i]?).bind (·.dst)) (a.tmps.getD t undef)) (.inRegion ops rest :: k)) cs)) :
  aH P ok Pre aI (n+1) s (G { b.at a todo with mode:=.returning } (b₀.at a₀ (.inRegion ops (i :: rest) :: k) :: cs)) :=
 .slip rfl (fun w _=>by rw [stepG_leave hn hd hf (results_tmp hr _ P w) (events_results_tmp hr _ _),Frame.finish_at]) hq
theorem aH.leaveD {c:Frame}(hn:b.kind=.deferred)(hd:a.defers=[])(hf:P.funcs[b.fn]?=some fn)(hr:fn.results=#[])(hc:c.mode=.returning)
  (hq:aH P ok Pre aI n s (G c cs)):aH P ok Pre aI (n+1) s (G { b.at a todo with mode:=.returning } (c :: cs)) :=
 .slip rfl (fun w _=>stepG_leave_deferred hn hd hf (results_none hr _ P w) (events_results_none hr _ _) hc) hq
end
end
theorem KT {P:Program}{b:Frame}{a:Act}{ops:Array Oper}{i:Nat}{rest:List Nat}{k:List Item}{cs:List Frame}{o:Oper}{f:FuncId}{fn:Func}{xs:Array Operand}{ats:Array TypeId}
  (ho:ops[i]?=some o)(hop:o.op=.call { callee:=.value (.func f),args:=xs,argTypes:=ats })(hf:P.funcs[f]?=some fn)(hb:fn.body.isNone=true):mayWake P (G (b.at a (.inRegion ops (i :: rest) :: k)) cs)=true:=by
 have h2:fn.body=none:=by simpa using hb
 have ef:(b.at a (.inRegion ops (i :: rest) :: k)).eval (.func f)=.func (.func f) #[] #[]:=rfl
 simp [mayWake,G,Frame.at,ho,hop] at ef ⊢
 simp [ef,hf,h2]
end Go.Blind

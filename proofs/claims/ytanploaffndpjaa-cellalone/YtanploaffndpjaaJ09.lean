/- Of the proof. -/
import Derived.Test.YtanploaffndpjaaJ08
import Derived.Laws.Tables
import Derived.Conc.Own4
import Derived.Laws.Pointers
import Derived.Orders
namespace Go.Blind
open Go.Conc Go.ConcR Go.RowKit Go.Conc.Lib Go.ConcR.Gen
structure Ring where
 ch:List Nat
 E:Env
 O:Nat→Option (Array CommCase×CommShape)
 Home:Nat→ai
 size:Nat
def Ring.C (s:Ring):Nat→Prop:=fun c=>c∈s.ch
structure Ring.Ok (P:Program)(s:Ring):Prop where
 jv:dN s.C s.O
 tail:dB P s.E
 r9:∀ τ b o,s.E.at_ τ b o→¬ s.C b
 nodup:s.ch.Nodup
 out:∀ i,s.size≤i→s.O i=none
def EV:ai:=fun _ g _=>g.status=.running
structure nO (O:Nat→Option (Array CommCase×CommShape))(τ:Nat→Nat):Prop where
 le:∀ i,τ i≤7
 at_:∀ i p,O i=some p→τ i=7
theorem nO.keep {O:Nat→Option (Array CommCase×CommShape)}{τ0 τ:Nat→Nat}(h:nO O τ0)(k:dZ O 0 τ0 τ):nO O τ:=⟨fun i=>Nat.le_trans (k.1.2 i) (h.le i),fun i p e=>(k.1.1 i p e).trans (h.at_ i p e)⟩
structure bH where
 fin:Machine→Trace→Prop
 out:Os×Array (Nat×ByteArray)
def aK (P:Program)(Fin:bH)(s:Ring):ai:=fun M g w=>g.status=.running∧(s.Ok P→s.E.out=Fin.out→∀ (gs:Array Goroutine)(sl:Option (Nat×Nat))(T:Trace)(own:Nat→Nat→Prop)(τ:Nat→Nat)(L:List Nat),own 0=M→gs[0]?=some g→gs.size=s.size→nO s.O τ→0∉L →
 aP P s.C s.E τ s.O s.Home EV 0 gs w T own L→∃ N m t,runNT P N (crowd gs w sl) T=(.next m,t)∧Fin.fin m t)
section
variable {P:Program}{Fin:bH}{s s':Ring}{M:Nat→Prop}{g:Goroutine}{w:World}
theorem aP.mH {C:Nat→Prop}{E:Env}{τ:Nat→Nat}{O:Nat→Option (Array CommCase×CommShape)}{Home:Nat→ai}{St bU:ai}{gs:Array Goroutine}{T:Trace}{own:Nat→Nat→Prop}{L:List Nat}(H:aP P C E τ O Home St 0 gs w T own L)(h:∀ g,gs[0]?=some g→aj P true bU (own 0) g w):aP P C E τ O Home bU 0 gs w T own L :=
 ⟨H.eZ,H.there,h,H.act,H.sat,H.live,H.mine⟩
theorem EW:∀ M g w,aK P Fin s M g w→g.status=.running:=fun _ _ _ h=>h.1
theorem EX (h:aj P true (aK P Fin s) M g w):aK P Fin s M g w:=by
 refine ⟨lz h EW,fun hok ho gs sl T own τ L hM hg hsz hτ hL H=>?_⟩
 have H':aP P s.C s.E τ s.O s.Home (aK P Fin s) 0 gs w T own L:=H.mH fun x hx=>by
  rw [hg] at hx;cases hx;rw [hM];exact h
 obtain ⟨N,gs2,w2,sl2,T2,gJ,τ2,L2,hrun,hsz2,hk,vB,hL2⟩:=lead hok.tail hok.jv EW L.length L (Nat.le_refl _) gs w sl T own τ H' hL
 obtain ⟨g2,d,sl',hg2,hat,-⟩:=vB.stop
 obtain ⟨N3,m,t,h3,hF⟩:=(hat w2 (ay.refl P _ w2)).2 hok ho gs2 sl2 T2 gJ τ2 L2 rfl hg2 (hsz2.trans hsz) (hτ.keep hk) hL2 (vB.sys.mH fun x hx=>.stop fun _ _=>by
  rw [hg2] at hx;cases hx;exact (hat w2 (ay.refl P _ w2)).1)
 exact ⟨N+N3,m,t,by rw [runNT_then N N3 _ _ _ _ hrun];exact h3,hF⟩
theorem si {gs:Array Goroutine}{sl:Option (Nat×Nat)}{T:Trace}{N:Nat}{m0:Machine}{T0:Trace}{own:Nat→Nat→Prop}{τ:Nat→Nat}{L:List Nat}(hrun:runNT P N m0 T0=(.next (crowd gs w sl),T))(hok:s.Ok P)(ho:s.E.out=Fin.out)(hsz:gs.size=s.size)(hτ:nO s.O τ)(hL:0∉L)
  (H:aP P s.C s.E τ s.O s.Home (aK P Fin s) 0 gs w T own L):∃ N m t,runNT P N m0 T0=(.next m,t)∧Fin.fin m t:=by
 obtain ⟨g,hg⟩:∃ g,gs[0]?=some g:=⟨_,Array.getElem?_eq_getElem H.there⟩
 have hD:=EX (H.one g hg)
 obtain ⟨N3,m,t,h3,hF⟩:=hD.2 hok ho gs sl T own τ L rfl hg hsz hτ hL (H.mH fun x hx=>.stop fun _ _=>by
  rw [hg] at hx;cases hx;exact hD.1)
 exact ⟨N+N3,m,t,by rw [runNT_then N N3 _ _ _ _ hrun];exact h3,hF⟩
theorem xM {St:ai}{G G':aJ}(ND:G'.out=G.out)(hE:s.E=G.env P)(hst:∀ M g w,St M g w→g.status=.running)(hrel:∀ M g w w1,St M g w→ay P M w w1→St M g w1)(ok:s.Ok P→Ring.Ok P { s with E:=G'.env P })
  (h:s.Ok P→∀ (gs:Array Goroutine)(w:World)(sl:Option (Nat×Nat))(T:Trace)(own:Nat→Nat→Prop)(τ:Nat→Nat)(L:List Nat),gs.size=s.size→nO s.O τ→aP P s.C (G.env P) τ s.O s.Home St 0 gs w T own L→0∉L→Came P s.C s.O s.Home G' (aK P Fin { s with E:=G'.env P }) gs w sl T τ) :
  ∀ M g w,St M g w→aK P Fin s M g w:=by
 intro M g w hS
 refine ⟨hst _ _ _ hS,fun hok ho gs sl T own τ L hM hg hsz hτ hL H=>?_⟩
 obtain ⟨N,gs2,w2,sl2,T2,gJ,τ2,L2,hrun,hsz2,hk,H2,hL2⟩:=h hok gs w sl T own τ L hsz hτ (hE ▸ H.mH fun x hx=>by
  rw [hg] at hx;cases hx;rw [hM];exact .stop fun w1 hr=>hrel _ _ _ _ hS hr) hL
 exact si (s:={ s with E:=G'.env P }) hrun (ok hok) (ND.trans (by rw [hE] at ho;exact ho)) (hsz2.trans hsz) (hτ.keep hk) hL2 H2
section
variable {S S':ai}{fn:FuncId}{kd:CallKind}{Q:aZ}{a:Act}{ops:Array Oper}{l:List Nat}{main:Bool}
theorem EY (h:aG P main fn kd ops l Q S M a w)(k:∀ M g w,S M g w→aj P main S' M g w):aG P main fn kd ops l Q S' M a w:=fun b kk cs hb hk hc=>(h b kk cs hb hk hc).then k
theorem EZ {f:FuncId}{ys:Array Value}{R:fu}(h:bn P main f ys R S M w)(k:∀ M g w,S M g w→aj P main S' M g w):bn P main f ys R S' M w:=fun c cs h1 h2=>(h c cs h1 h2).then k
theorem su {i:Nat}{K:ai→(Nat→Prop)→Act→World→Prop}(h:cK P main fn kd ops i K S M a w)(k:∀ M g w,S M g w→aj P main S' M g w):cK P main fn kd ops i K S' M a w:=fun b kk cs rest hb hk hc=>(h b kk cs rest hb hk hc).then k
end
theorem qD {St:ai}(hrel:∀ M g w w1,St M g w→ay P M w w1→St M g w1)(h:∀ M g w,St M g w→aK P Fin s M g w):∀ M g w,St M g w→aj P true (aK P Fin s) M g w:=fun _ _ _ k=>.stop fun _ hr=>h _ _ _ (hrel _ _ _ _ k hr)
theorem E4 {ad:Addr}{v:Value}{Nx:ai}:∀ M g w w1,qC P ad v Nx M g w→ay P M w w1→qC P ad v Nx M g w1:=fun _ _ _ _ h hr=>⟨h.1,h.2.elim fun g' k=>⟨g',k.1,k.2.rely hr⟩⟩
theorem E5 {ad:Addr}{v:Value}{Nx:ai}:∀ M g w w1,rX P ad v Nx M g w→ay P M w w1→rX P ad v Nx M g w1:=fun _ _ _ _ h hr=>⟨h.1,h.2.elim fun g' k=>⟨g',k.1,k.2.rely hr⟩⟩
theorem xN {m:Mark}{Nx:ai}:∀ M g w w1,gz P m Nx M g w→ay P M w w1→gz P m Nx M g w1:=fun _ _ _ _ h hr=>⟨h.1,h.2.elim fun g' k=>⟨g',k.1,k.2.rely hr⟩⟩
theorem E6 {Nx:Nat→ai}:∀ M g w w1,rZ P Nx M g w→ay P M w w1→rZ P Nx M g w1:=fun _ _ _ _ h hr=>⟨h.1,fun c=>(h.2 c).elim fun g' k=>⟨g',k.1,fun w2 h2=>k.2 w2 (hr.trans h2)⟩⟩
structure aJ.dL (G:aJ):Prop where
 shut:¬ G.shut G.R
 room:G.q+1 < G.c.size
theorem vC {G:aJ}(h:s.Ok P)(hE:s.E=G.env P):¬ s.C G.R:=h.r9 (fun _=>0) G.R (.cells (lay G.c G.q (G.wd fun _=>0) (G.sm fun _=>0)) G.e (0,0)) (by rw [hE];exact ⟨rfl,rfl⟩)
theorem Aa {G:aJ}(h:s.Ok P)(hE:s.E=G.env P):dB P (G.env P):=hE ▸ h.tail
theorem xO {G G':aJ}(h:s.Ok P)(hE:s.E=G.env P)(hR:G'.R=G.R)(hT:dB P (G'.env P)):Ring.Ok P { s with E:=G'.env P } :=
 ⟨h.jv,hT,fun τ b o hb=>by
  have:b=G'.R:=hb.1
  show ¬ s.C b
  rw [this,hR];exact vC h hE,h.nodup,h.out⟩
theorem xP {G:aJ}(hE:s.E=G.env P)(hf:G.dL){k:Nat}{v:Value}(h1:k≠G.q)(h2:k≠G.q+1)(hv:G.c[k]?=some v):∀ M g w,qC P ⟨G.R,k,none⟩ v (aK P Fin s) M g w→aj P true (aK P Fin s) M g w:=by
 have e:({ s with E:=G.env P }:Ring)=s:=by rw [← hE]
 have:=xM (s:=s) (Fin:=Fin) (G:=G) (G':=G) (St:=qC P ⟨G.R,k,none⟩ v (aK P Fin s)) rfl hE (fun _ _ _ h=>h.1) E4 (fun h=>by rw [e];exact h) fun hok _ _ _ _ _ _ _ _ _ H hL=>by
  rw [e];exact H.reads (Aa hok hE) hok.jv (vC hok hE) hf.shut h1 h2 hv hL
 exact qD E4 this
theorem E7 {G:aJ}(hE:s.E=G.env P)(hf:G.dL){k:Nat}{v:Value}(h1:k≠G.q)(h2:k≠G.q+1)(hk:k < G.c.size)(hT:dB P (G.env P)→dB P ((G.set k v).env P)):∀ M g w,rX P ⟨G.R,k,none⟩ v (aK P Fin { s with E:=(G.set k v).env P }) M g w→aj P true (aK P Fin s) M g w :=
 qD E5 (xM (G:=G) (G':=G.set k v) rfl hE (fun _ _ _ h=>h.1) E5 (fun h=>xO h hE rfl (hT (Aa h hE))) fun hok _ _ _ _ _ _ _ _ _ H hL=>H.writes (Aa hok hE) hok.jv (vC hok hE) hf.shut h1 h2 hk hL)
theorem NF {b:aJ}(hf:b.dL)(hn:b.n≤100)(h:aK P Fin { s with E:=(G0 b 0).env P } M g w):aK P Fin { s with E:=(GH b b.n 0).env P } M g w:=by
 refine ⟨h.1,fun hok ho gs sl T own τ L hM hg hsz hτ hL H=>h.2 (xO (s:={ s with E:=(GH b b.n 0).env P }) hok (G:=GH b b.n 0) (G':=G0 b 0) rfl rfl (kQ (G:=G0 b 0) (xE b.n) hf.room hf.shut)) ho gs sl T own τ L hM hg hsz hτ hL (aP.NA hn H)⟩
theorem NG {b:aJ}(hf:b.dL){k:Nat}(hk:k≤99):∀ M g w,gz P .disable (xK P ⟨b.R,b.q,none⟩ (oV P b.R b.q (aK P Fin { s with E:=(GH b (k+1) 0).env P }))) M g w→aj P true (aK P Fin { s with E:=(GH b k 0).env P }) M g w:=by
 refine qD xN (xM (s:={ s with E:=(GH b k 0).env P }) (G:=GH b k 0) (G':=GH b (k+1) 0) (EO b k (k+1) 0 0).out rfl (fun _ _ _ h=>h.1) xN (fun h=>?_) fun hok _ _ _ _ _ _ _ _ _ H hL=>?_)
 ·exact xO h (G:=GH b k 0) (G':=GH b (k+1) 0) rfl rfl (kQ (G:=GH b (k+1) 0) (xG (k+1)) hf.room hf.shut)
 ·have hC:¬ s.C b.R:=vC (s:={ s with E:=(GH b k 0).env P }) hok (G:=GH b k 0) rfl
  exact H.Nn hok.jv hf.room hC hf.shut hk hL
theorem E8 {τ:Nat→Nat}(h:∀ i,τ i≤7):∀ n,mG τ n≤7 * n
 | 0=>Nat.le_refl _
 | n+1=>by
  have:=E8 h n
  have:=h (n+1)
  show mG τ n+τ (n+1)≤_
  omega
theorem NH {b:aJ}(hf:b.dL)(hO:∀ i,i≠0→i < s.size→s.O i=none)(hn:b.n < s.size):∀ M g w,gz P .disable (lJ P b.R b.q (aK P Fin { s with E:=(G2 b 0 True).env P }) (7 * b.n+1)) M g w→aj P true (aK P Fin { s with E:=(G0 b 0).env P }) M g w:=by
 refine qD xN (xM (s:={ s with E:=(G0 b 0).env P }) (G:=G0 b 0) (G':=G2 b 0 True) rfl rfl (fun _ _ _ h=>h.1) xN (fun h=>?_) fun hok gs _ _ _ _ τ _ hsz hτ H hL=>?_)
 ·exact xO h (G:=G0 b 0) (G':=G2 b 0 True) rfl rfl (kQ (G:=G2 b 0 True) (zW b.n) hf.room hf.shut)
 ·have hC:¬ s.C b.R:=vC (s:={ s with E:=(G0 b 0).env P }) hok (G:=G0 b 0) rfl
  exact H.waits hok.jv (fun i hi=>(Nat.lt_or_ge i s.size).elim (hO i hi) (hok.out i)) hf.room hC hf.shut (by rw [hsz];exact hn) (Nat.lt_succ_of_le (E8 hτ.le b.n)) hL
def Ring.more (s:Ring)(c:Nat):Ring:={ s with ch:=c :: s.ch }
theorem NJ (hmono:∀ c,dN s.C s.O→dN (s.more c).C s.O)(hfix:∀ c τ τ' o,(∀ o,¬ s.E.at_ τ c o)→¬ s.E.at_ τ' c o):∀ M g w,rZ P (fun c=>aK P Fin (s.more c)) M g w→aj P true (aK P Fin s) M g w:=by
 refine qD E6 fun M g w hS=>⟨hS.1,fun hok ho gs sl T own τ L hM hg hsz hτ hL H=>?_⟩
 obtain ⟨c,N,gs2,w2,sl2,T2,gJ,τ2,L2,hrun,hsz2,hk,H2,hL2,hc1,hc2,hc3⟩:=(H.mH (bU:=rZ P fun c=>aK P Fin (s.more c)) fun x hx=>by
  rw [hg] at hx;cases hx;rw [hM];exact .stop fun w1 hr=>E6 _ _ _ _ hS hr).makes (sl0:=sl) hok.tail hok.jv hL
 have e:(fun b=>s.C b∨b=c)=(s.more c).C:=by
  funext b
  simp only [Ring.C,Ring.more,List.mem_cons]
  exact propext ⟨fun h=>h.elim .inr .inl,fun h=>h.elim .inr .inl⟩
 rw [e] at H2
 refine si (s:=s.more c) hrun ⟨hmono c hok.jv,hok.tail,fun τ b o hb h=>?_,List.nodup_cons.2 ⟨hc1,hok.nodup⟩,hok.out⟩ ho (hsz2.trans hsz) (hτ.keep hk) hL2 H2
 rcases List.mem_cons.1 h with q | q
 ·exact hfix c τ2 τ o hc3 (q ▸ hb)
 ·exact hok.r9 τ b o hb q
theorem NK {s:Ring}(c:Nat)(h:dN s.C s.O):dN (s.more c).C s.O:=by
 refine ⟨fun i cs sh e=>?_,h.none⟩
 rcases h.plain i cs sh e with ⟨c',v,z,q,hc⟩ | q
 ·exact .inl ⟨c',v,z,q,List.mem_cons_of_mem _ hc⟩
 ·exact .inr fun cc hcc=>(q cc hcc).elim fun c' k=>k.elim fun z k=>⟨c',z,k.1,List.mem_cons_of_mem _ k.2⟩
end
def bN {α:Type}(O:Nat→α)(j:Nat)(x:α):Nat→α:=fun i=>if i=j then x else O i
theorem eu {α:Type}(O:Nat→α)(j:Nat)(x:α):bN O j x j=x:=if_pos rfl
theorem dz {α:Type}(O:Nat→α){i j:Nat}(x:α)(h:i≠j):bN O j x i=O i:=if_neg h
def Ring.seat (s:Ring)(j:Nat)(o:Option (Array CommCase×CommShape))(H:ai):Ring:={ s with O:=bN s.O j o,Home:=bN s.Home j H }
section
variable {P:Program}{Fin:bH}{s:Ring}{fn:FuncId}{kd:CallKind}{Q:aZ}{M:Nat→Prop}{a:Act}{w:World}{ops:Array Oper}{i:Nat}{rest:List Nat}{o:Oper}
theorem Ring.Ok.seat {j:Nat}(hok:s.Ok P)(hj:j < s.size){o:Option (Array CommCase×CommShape)}{H:ai}(hu:dN s.C (bN s.O j o)):(s.seat j o H).Ok P :=
 ⟨hu,hok.tail,hok.r9,hok.nodup,fun i hi=>(dz _ _ (by intro e;rw [e] at hi;exact absurd hj (Nat.not_lt.2 hi))).trans (hok.out i hi)⟩
theorem nO.seat {τ0 τ:Nat→Nat}{j:Nat}{p:Array CommCase×CommShape}{o:Option (Array CommCase×CommShape)}(h:nO s.O τ0)(k:dZ s.O 0 τ0 τ)(hj:s.O j=some p):nO (bN s.O j o) τ:=by
 refine ⟨(h.keep k).le,fun i q e=>?_⟩
 by_cases ei:i=j
 ·rw [ei];exact (h.keep k).at_ j p hj
 ·rw [dz _ _ ei] at e;exact (h.keep k).at_ i q e
theorem NL (hkd:kd≠.early)(ho:ops[i]?=some o)(hw:Region.wanted o (yielded ops a.tmps)=true){c:Nat}{v z:Value}{sh:CommShape}(hrun:∀ w1,(execOp a.eval o).runT P w1 #[]=(.ok (.comm #[scase c v z] true sh) w1,#[]))
  {j k:Nat}{zj:Value}{eF:Array CommCase}{shj:CommShape}(hj0:j≠0)(hjs:j < s.size){G:aJ}(hE:s.E=G.env P)(hd0:G.d0=0)(hc:s.C c)(vD:s.O j=some (eF,shj)){O':Option (Array CommCase×CommShape)}{H':ai}
  (fit:s.Ok P→Fits s.C (bN s.O 0 (some (#[scase c v z],sh))) 0 j c k v z zj sh shj eF∧dN s.C (bN s.O j O'))
  (share:∀ (w1:World)(Mj:Nat→Prop)(gj:Goroutine)(k0:Nat),s.Ok P→ay P M w w1→w1.heap[c]?=some (.chan 0 #[] false k0 k0 false)→(∀ b,M b→Mj b→False)→¬ has M c→¬ has Mj c→s.Home j Mj gj w1→∃ oh oj:Nat→Prop,(∀ b,oh b→M b∨Mj b)∧(∀ b,oj b→M b∨Mj b)∧(∀ b,oh b→oj b→False) ∧
   aG P true fn kd ops rest Q (aK P Fin (s.seat j O' H')) oh (a.put o.dst (commResult #[scase c v z] sh 0 undef false)) (w1.setChan c 0 #[] false (k0+1) (k0+1) false) ∧
   aj P false (dm P s.E (bN s.O j O') (bN s.Home j H') 7 j) oj (gj.finishComm P eF shj k v true) (w1.setChan c 0 #[] false (k0+1) (k0+1) false)) :
  aG P true fn kd ops (i :: rest) Q (aK P Fin s) M a w:=by
 refine xg hkd ho hw hrun (mD:=fun S' jj v' ok M' w'=>aG P true fn kd ops rest Q S' M' (a.put o.dst (commResult #[scase c v z] sh jj v' ok)) w') (fun g g2 hcm hcont w1 hrel=>?_) fun _ _ _ _ _ _ h=>h
 refine ⟨hcm.1,fun hok ho gs sl T own τ L hM hg hsz hτ hL H=>?_⟩
 have hb:(j == 0)=false:=by simpa using hj0
 have h7:τ j=7:=hτ.at_ j _ vD
 obtain ⟨F,U'⟩:=fit hok
 have HS:aP P s.C s.E τ s.O s.Home (fun M' g' w'=>g'=g∧M'=M∧ay P M w w') 0 gs w1 T own L:=H.mH fun x hx=>by
  rw [hg] at hx;cases hx;exact .stop fun w2 h2=>⟨rfl,hM,hrel.trans (by rw [hM] at h2;exact h2)⟩
 obtain ⟨N,gs2,w2,sl2,T2,gJ,τ2,L2,hr2,hsz2,hk2,H2,hL2⟩:=HS.gives (sl:=sl) (Hm:=fun M' g' w'=>g'=g2∧M'=M∧ay P M w w') (O':=bN s.O j O') (dw:=bN s.Home j H') (bU:=aK P Fin (s.seat j O' H')) hok.tail (fun i e=>dz _ _ e) F hc (fun τ o hx=>hok.r9 τ c o hx hc) (by rw [hE];exact ⟨fun _=>hd0,fun e=>absurd rfl e⟩) (by rw [hE];exact ⟨fun e=>absurd e hj0,fun _=>h7⟩) (by rw [hE];exact .inr h7) (by rw [hsz];exact hjs)
  (fun M' g' w' h=>⟨g2,by rw [h.1];exact hcm,rfl,h.2⟩) (fun i _ e=>⟨dz _ _ e,dz _ _ e⟩) (fun w' Mh Mj gh gj k0 a1 a2 a3 a4 a5 a6=>by
   obtain ⟨e1,e2,e3⟩:=a5
   subst e1 e2
   obtain ⟨oh,oj,s1,s2,s3,s4,s5⟩:=share w' Mj gj k0 hok e3 a1 a2 a3 a4 a6
   exact ⟨oh,oj,s1,s2,s3,hcont _ _ _ _ _ _ s4,by rw [hb,h7];exact s5⟩)
 exact si (s:=s.seat j O' H') hr2 (hok.seat hjs U') ho (hsz2.trans hsz) (hτ.seat hk2 vD) hL2 H2
theorem NM (hkd:kd≠.early)(ho:ops[i]?=some o)(hw:Region.wanted o (yielded ops a.tmps)=true){c:Nat}{v z z0:Value}{sh shj:CommShape}(hrun:∀ w1,(execOp a.eval o).runT P w1 #[]=(.ok (.comm #[rcase c z0] true sh) w1,#[]))
  {j:Nat}(hj0:j≠0)(hjs:j < s.size){G:aJ}(hE:s.E=G.env P)(hd0:G.d0=0)(hc:s.C c)(vD:s.O j=some (#[scase c v z],shj)){O':Option (Array CommCase×CommShape)}{H':ai}
  (fit:s.Ok P→Fits s.C (bN s.O 0 (some (#[rcase c z0],sh))) j 0 c 0 v z z0 shj sh #[rcase c z0]∧dN s.C (bN s.O j O'))
  (share:∀ (w1:World)(Mj:Nat→Prop)(gj:Goroutine)(k0:Nat),s.Ok P→ay P M w w1→w1.heap[c]?=some (.chan 0 #[] false k0 k0 false)→(∀ b,Mj b→M b→False)→¬ has Mj c→¬ has M c→s.Home j Mj gj w1→∃ oj oh:Nat→Prop,(∀ b,oj b→Mj b∨M b)∧(∀ b,oh b→Mj b∨M b)∧(∀ b,oj b→oh b→False) ∧
   aj P false (dm P s.E (bN s.O j O') (bN s.Home j H') 7 j) oj (gj.finishComm P #[scase c v z] shj 0 undef false) (w1.setChan c 0 #[] false (k0+1) (k0+1) false) ∧
   aG P true fn kd ops rest Q (aK P Fin (s.seat j O' H')) oh (a.put o.dst (commResult #[rcase c z0] sh 0 v true)) (w1.setChan c 0 #[] false (k0+1) (k0+1) false)) :
  aG P true fn kd ops (i :: rest) Q (aK P Fin s) M a w:=by
 refine xg hkd ho hw hrun (mD:=fun S' jj v' ok M' w'=>aG P true fn kd ops rest Q S' M' (a.put o.dst (commResult #[rcase c z0] sh jj v' ok)) w') (fun g g2 hcm hcont w1 hrel=>?_) fun _ _ _ _ _ _ h=>h
 refine ⟨hcm.1,fun hok ho gs sl T own τ L hM hg hsz hτ hL H=>?_⟩
 have hb:(j == 0)=false:=by simpa using hj0
 have h7:τ j=7:=hτ.at_ j _ vD
 obtain ⟨F,U'⟩:=fit hok
 have HS:aP P s.C s.E τ s.O s.Home (fun M' g' w'=>g'=g∧M'=M∧ay P M w w') 0 gs w1 T own L:=H.mH fun x hx=>by
  rw [hg] at hx;cases hx;exact .stop fun w2 h2=>⟨rfl,hM,hrel.trans (by rw [hM] at h2;exact h2)⟩
 obtain ⟨N,gs2,w2,sl2,T2,gJ,τ2,L2,hr2,hsz2,hk2,H2,hL2⟩:=HS.gets (sl:=sl) (Hm:=fun M' g' w'=>g'=g2∧M'=M∧ay P M w w') (O':=bN s.O j O') (dw:=bN s.Home j H') (bU:=aK P Fin (s.seat j O' H')) hok.tail (fun i e=>dz _ _ e) F hc (fun τ o hx=>hok.r9 τ c o hx hc) (by rw [hE];exact ⟨fun _=>hd0,fun e=>absurd rfl e⟩) (by rw [hE];exact ⟨fun e=>absurd e hj0,fun _=>h7⟩) (by rw [hE];exact .inr h7) (by rw [hsz];exact hjs)
  (fun M' g' w' h=>⟨g2,by rw [h.1];exact hcm,rfl,h.2⟩) (fun i _ e=>⟨dz _ _ e,dz _ _ e⟩) (fun w' Mj Mh gj gh k0 a1 a2 a3 a4 a5 a6=>by
   obtain ⟨e1,e2,e3⟩:=a6
   subst e1 e2
   obtain ⟨oj,oh,s1,s2,s3,s4,s5⟩:=share w' Mj gj k0 hok e3 a1 a2 a3 a4 a5
   exact ⟨oj,oh,s1,s2,s3,by rw [hb,h7];exact s4,hcont _ _ _ _ _ _ s5⟩)
 exact si (s:=s.seat j O' H') hr2 (hok.seat hjs U') ho (hsz2.trans hsz) (hτ.seat hk2 vD) hL2 H2
def Ring.hire (s:Ring)(o:Option (Array CommCase×CommShape))(H:ai):Ring:={ s with O:=bN s.O s.size o,Home:=bN s.Home s.size H,size:=s.size+1 }
theorem NN {b:aJ}{kk:Nat}(hG:s.E=(GH b kk 0).env P)(hkd:kd≠.early)(ho:ops[i]?=some o)(hw:Region.wanted o (yielded ops a.tmps)=true){d:Deferred}(hg:d.target≠.nil)(hr:∀ w1,(execOp a.eval o).runT P w1 #[]=(.ok (.spawn d) w1,#[]))
  {O':Option (Array CommCase×CommShape)}{H':ai}(fit:s.Ok P→dN s.C (bN s.O s.size O'))(oh oc:Nat→Prop)(h1:∀ b,oh b→M b)(h2:∀ b,oc b→M b)(h3:∀ b,oh b→oc b→False)
  (child:∀ w1,ay P M w w1→aj P false (dm P s.E (bN s.O s.size O') (bN s.Home s.size H') 7 s.size) oc (ax (floor P [d]) []) w1)
  (h:∀ w1,ay P M w w1→aG P true fn kd ops rest Q (aK P Fin (s.hire O' H')) oh (a.put o.dst undef) w1):aG P true fn kd ops (i :: rest) Q (aK P Fin s) M a w:=by
 refine KN hkd ho hw hg hr (mD:=fun S' M' w'=>aG P true fn kd ops rest Q S' M' (a.put o.dst undef) w') (fun g g' hgo hcont w1 hrel=>?_) fun _ _ _ h=>h
 refine ⟨hgo.1,fun hok ho gs sl T own τ L hM hg hsz hτ hL H=>?_⟩
 have hinv:∀ τ T w own,bu P s.C s.E τ T w own→∀ i,τ i=7:=fun τ T w own Ht=>by
  rw [hG] at Ht
  exact Ht.told.1.1
 have hs0:s.size≠0:=by have:=H.there;omega
 have HS:aP P s.C s.E τ s.O s.Home (fun M' g' w'=>g'=g∧M'=M∧ay P M w w') 0 gs w1 T own L:=H.mH fun x hx=>by
  rw [hg] at hx;cases hx;exact .stop fun w2 h2=>⟨rfl,hM,hrel.trans (by rw [hM] at h2;exact h2)⟩
 obtain ⟨N,gs2,w2,sl2,T2,gJ,τ2,L2,hr2,hsz2,hk2,H2,hL2⟩:=HS.KP (sl:=sl) (O':=bN s.O s.size O') (dw:=bN s.Home s.size H') (bU:=aK P Fin (s.hire O' H')) hok.tail hok.jv (fun M' g' w' h=>by rw [h.1];exact hgo.1) hL
  (fun τ T w own _ Ht=>by
   have h7:=hinv τ T w own Ht
   rw [hG]
   exact ⟨⟨fun _=>rfl,fun e=>absurd rfl e⟩,⟨fun e=>absurd e (by rw [hsz];exact hs0),fun _=>h7 _⟩,.inr (h7 _)⟩)
  (fun i e=>⟨dz _ _ (by rw [← hsz];exact e),dz _ _ (by rw [← hsz];exact e)⟩) (fun st M' g1 w' hlv hh=>by
   obtain ⟨e1,e2,e3⟩:=hh
   subst e1 e2
   have e7:st=7:=by
    rw [hG] at hlv
    rcases hlv with q | q
    ·exact absurd (hsz ▸ q) hs0
    ·exact q
   refine ⟨g',_,hgo,oh,oc,h1,h2,h3,hcont _ _ _ (h w' e3),?_⟩
   rw [hsz,e7]
   exact child w' e3)
 exact si (s:=s.hire O' H') hr2 ⟨fit hok,hok.tail,hok.r9,hok.nodup,fun i hi=>(dz _ _ (Nat.ne_of_gt hi)).trans (hok.out i (Nat.le_of_succ_le hi))⟩ ho (by rw [hsz2,hsz];rfl) ⟨(hτ.keep hk2).le,fun i _ _=>hinv _ _ _ _ H2.eZ i⟩ hL2 H2
end
def oZ (out:Os×Array (Nat×ByteArray)):Env where
 shut _:=False
 wk _:=False
 jo _ h:=h.elim
 ok _ _:=False
 Pre _ _:=True
 aI _ _:=0
 lv i _:=i=0
 hr _ _:=True
 at_ _ _ _:=False
 may _ _:=False
 told τ T:=(∀ i,τ i=7)∧∀ op∈T,op.g=0
 out:=out
 lasts _ _ _ h hu _ _:=⟨h.1,fun op hop=>(Array.mem_append.1 hop).elim (h.2 op) (hu op)⟩
theorem NP (P:Program)(out:Os×Array (Nat×ByteArray)):dB P (oZ out):=⟨fun _ _ _ _ _ _=>trivial,fun _ _ _ _ _ _ _ _ h=>h.elim,fun s _=>Nat.zero_le s⟩
def vE (P:Program)(o:Obj)(Nx:Nat→ai):ai:=fun M g w=>g.status=.running∧∀ c,∃ g',(∀ w1,w1.heap.size=c→stepG P true g w1=.go g' (w1.alloc o) #[])∧∀ w1,ay P M w w1→aj P true (Nx c) M g' w1
def aJ.first (out:Os×Array (Nat×ByteArray))(R q:Nat)(n:Nat)(c:Array Value)(e:TypeId):aJ:={ out:=out,R:=R,q:=q,n:=n,c:=c,e:=e,shut:=fun _=>False,d0:=0,Inv:=fun _=>True,wd:=fun _=>0,sm:=fun _=>0,fx:=False }
section
variable {P:Program}{Fin:bH}{s:Ring}
theorem E9 {o:Obj}{Nx:Nat→ai}:∀ M g w w1,vE P o Nx M g w→ay P M w w1→vE P o Nx M g w1:=fun _ _ _ _ h hr=>⟨h.1,fun c=>(h.2 c).elim fun g' k=>⟨g',k.1,fun w2 h2=>k.2 w2 (hr.trans h2)⟩⟩
theorem NQ {x:MemAct}{a:Addr}{B:Nat}(h:x.low B)(e:x=.mark (.release a)):a.block < B:=by
 subst e;exact h
theorem NS {out:Os×Array (Nat×ByteArray)}(hE:s.E=oZ out)(h1:s.size=1){c:Array Value}{e:TypeId}{q n:Nat}(hq:q+1 < c.size)(hc:lay c q 0 0=c) :
  ∀ M g w,vE P (.cells c e (0,0)) (fun R=>aK P Fin { s with E:=(GH (aJ.first out R q n c e) 0 0).env P }) M g w→aj P true (aK P Fin s) M g w:=by
 refine qD E9 fun M g w hS=>⟨hS.1,fun hok ho gs sl T own τ L hM hg hsz hτ hL H=>?_⟩
 obtain ⟨N,gs1,w1,sl1,T1,eT,τ1,L1,hrun,hsz1,hk,vB,hL1⟩:=lead hok.tail hok.jv (fun M g w h=>h.1) L.length L (Nat.le_refl _) gs w sl T own τ (H.mH (bU:=vE P (.cells c e (0,0)) fun R=>aK P Fin { s with E:=(GH (aJ.first out R q n c e) 0 0).env P }) fun x hx=>by
  rw [hg] at hx;cases hx;rw [hM];exact .stop fun w1 hr=>E9 _ _ _ _ hS hr) hL
 obtain ⟨g1,d,sl',hg1,hat,hstep⟩:=vB.stop
 have HT:=vB.sys.eZ.at_ d
 obtain ⟨_,hs⟩:=hat (w1.at d) (ay.at_ P _ w1 d)
 obtain ⟨g',hs1,hs2⟩:=hs (w1.at d).heap.size
 have hst:=hs1 (w1.at d) rfl
 have hone:gs1.size=1:=hsz1.trans (hsz.trans h1)
 have hrt:=runT_crowd_go (P:=P) (i:=0) (sl:=sl') hg1 hst
 have hev:MemOp.ofEvents 0 g1.frame.fn g1.frame.place #[]=#[]:=rfl
 rw [hE] at HT
 have h7:∀ i,τ1 i=7:=HT.told.1
 have hsz2:((w1.at d).alloc (.cells c e (0,0))).heap.size=(w1.at d).heap.size+1:=by show ((w1.at d).heap.push _).size=_;simp
 have hfresh:∀ i,¬ has (eT i) (w1.at d).heap.size:=fun i hi=>(iQ hi).elim fun x hx=>absurd (hx.1 ▸ HT.ledger.low i x hx.2) (Nat.lt_irrefl _)
 have hT:bu P s.C ((GH (aJ.first out (w1.at d).heap.size q n c e) 0 0).env P) τ1 T1 ((w1.at d).alloc (.cells c e (0,0))) eT:=by
  refine ⟨⟨HT.ledger.clean,HT.ledger.apart,fun i b hb=>by rw [hsz2];exact Nat.lt_succ_of_lt (HT.ledger.low i b hb),HT.ledger.known,fun op hop=>MemAct.low_mono ag (HT.ledger.seen op hop)⟩,fun c' hc'=>?_,fun _ h=>h.elim,(oW (P:=P) (M:=fun _=>False) _ (fun _ h=>h.elim)).aX HT.aX,fun i _=>HT.deaf i trivial,HT.hush,fun b o hb=>?_,⟨⟨h7,HT.deaf 0 trivial,fun k hk=>?_,fun f=>f.elim⟩,fun i h1 h2 _=>absurd h1 (by have:i≤0:=h2;omega)⟩,HT.out⟩
  ·obtain ⟨⟨k,q⟩,hn⟩:=HT.chans c' hc'
   exact ⟨⟨k,alloc_old _ _ q⟩,hn⟩
  ·obtain ⟨e1,e2⟩:=hb
   have NT:b=(w1.at d).heap.size:=e1
   have e2':o=.cells c e (0,0):=by
    refine e2.trans ?_
    show Obj.cells (lay c q (0 * 4294967296) 0) e (0,0)=_
    rw [Nat.zero_mul,hc]
   subst NT e2'
   refine ⟨by show ((w1.at d).heap.push _)[(w1.at d).heap.size]?=_;simp,hfresh,fun k a ha hl=>?_⟩
   exact absurd (CG HT.ledger.seen ha hl) (Nat.lt_irrefl _)
  ·obtain ⟨op,hop,hox⟩:∃ op,T1[k]?=some op∧op.act=.mark (.release ⟨(w1.at d).heap.size,q,none⟩):=by
    unfold Trace.act? at hk
    cases hz:T1[k]? with
    | none=>rw [hz] at hk;cases hk
    | some x=>rw [hz] at hk;exact ⟨x,rfl,Option.some.inj hk⟩
   exact absurd (NQ (HT.ledger.seen op (Array.mem_of_getElem? hop)) hox) (Nat.lt_irrefl _)
 have hrel:∀ j,ay P (eT j) w1 ((w1.at d).alloc (.cells c e (0,0))):=fun j=>(ay.at_ P _ w1 d).trans (oW _ fun b hb=>HT.ledger.low j b hb)
 have none:∀ i x,i≠0→((gs1.map (woken P g1 g' ((w1.at d).alloc (.cells c e (0,0))))).setIfInBounds 0 g')[i]?=some x→False:=fun i x e hx=>by
  have:=(Array.getElem?_eq_some_iff.1 hx).1
  rw [Array.size_setIfInBounds,Array.size_map,hone] at this
  omega
 refine si (s:={ s with E:=(GH (aJ.first out (w1.at d).heap.size q n c e) 0 0).env P }) (gs:=(gs1.map (woken P g1 g' ((w1.at d).alloc (.cells c e (0,0))))).setIfInBounds 0 g') (w:=(w1.at d).alloc (.cells c e (0,0))) (sl:=sl') (T:=T1) (own:=eT) (τ:=τ1) (L:=[]) ((runNT_then N 1 _ _ _ _ hrun).trans (by simp only [runNT,hstep,hrt,hev,Array.append_empty])) ⟨hok.jv,kQ (G:=GH (aJ.first out (w1.at d).heap.size q n c e) 0 0) (xG 0) hq id,fun τ b o hb hb2=>?_,hok.nodup,hok.out⟩ (by rw [hE] at ho;exact ho) (by simp [hone,h1]) ⟨(hτ.keep hk).le,fun i _ _=>h7 i⟩ ah ⟨hT,by simp [hone],fun x hx=>?_,fun i x e hx=>(none i x e hx).elim,fun i x e hx=>(none i x e hx).elim,fun i hi=>absurd hi ah,.inl rfl⟩
 ·have e1:b=(w1.at d).heap.size:=hb.1
  obtain ⟨⟨k,q⟩,_⟩:=HT.chans b hb2
  rw [e1] at q
  exact absurd (Array.getElem?_eq_some_iff.1 q).1 (Nat.lt_irrefl _)
 ·rw [Array.getElem?_setIfInBounds_self_of_lt (by simp [hone])] at hx
  cases hx
  exact hs2 _ (oW _ fun b hb=>HT.ledger.low 0 b hb)
section
variable {fn:FuncId}{kd:CallKind}{K:ai→(Nat→Prop)→Act→World→Prop}{M:Nat→Prop}{a:Act}{w:World}{ops:Array Oper}{i:Nat}{o:Oper}
theorem NU {ob:Obj}{Nx:Nat→ai}(hkd:kd≠.early)(ho:ops[i]?=some o)(hw:Region.wanted o (yielded ops a.tmps)=true)(hr:∀ w1:World,(execOp a.eval o).run P w1=.ok (.value (.pointer (some ⟨w1.heap.size,0,none⟩))) (w1.alloc ob)∧listed P fn a o w1=#[])
  (h:∀ c w1,ay P M w w1→K (Nx c) M (a.put o.dst (.pointer (some ⟨c,0,none⟩))) w1):cK P true fn kd ops i K (vE P ob Nx) M a w:=by
 intro b k cs rest hb hkind hc
 have hke:b.kind≠.early:=by rw [hkind];exact hkd
 refine .stop fun w1 hrel=>⟨rfl,fun c=>⟨G (b.at (a.put o.dst (.pointer (some ⟨c,0,none⟩))) (.inRegion ops rest :: k)) cs,fun w2 hc2=>?_,fun w2 h2=>hc _ _ _ _ (h c w2 (hrel.trans h2))⟩⟩
 obtain ⟨h1,h2⟩:=hr w2
 subst hb
 have:=stepG_value (P:=P) (main:=true) (b:=b) (k:=k) (cs:=cs) (rest:=rest) ho hw hke h1
 rw [h2,hc2] at this
 exact this
end
end
structure Mm (P:Program)(M:Nat→Prop)(w:World)(l r:List (Nat×Obj)):Prop where
 own:∀ p∈l,full M p.1∧w.heap[p.1]?=some p.2
 rd:∀ p∈r,has M p.1∧w.heap[p.1]?=some p.2
 low:∀ c,M c→c / 2 < w.heap.size
 aX:∀ g,g < P.globals.size→∃ c e fz,w.heap[g]?=some (.cells c e fz)
 base:P.globals.size+5≤w.heap.size
 nodup:((l ++ r).map Prod.fst).Nodup
section
variable {P:Program}{M:Nat→Prop}{w w1:World}{l r:List (Nat×Obj)}
theorem Mm.rely (h:Mm P M w l r)(hr:ay P M w w1):Mm P M w1 l r :=
 ⟨fun p hp=>⟨(h.own p hp).1,(hr.mine p.1 (h.own p hp).1.has).trans (h.own p hp).2⟩,fun p hp=>⟨(h.rd p hp).1,(hr.mine p.1 (h.rd p hp).1).trans (h.rd p hp).2⟩,fun c hc=>Nat.lt_of_lt_of_le (h.low c hc) hr.size,hr.aX h.aX,Nat.le_trans h.base hr.size,h.nodup⟩
theorem Mm.all (h:Mm P M w l r){p:Nat×Obj}(hp:p∈l ++ r):has M p.1∧w.heap[p.1]?=some p.2:=(List.mem_append.1 hp).elim (fun q=>⟨(h.own p q).1.has,(h.own p q).2⟩) (h.rd p)
theorem cell_of {b k:Nat}{c:Array Value}{e:TypeId}{fz:Nat×Nat}{v:Value}(hb:w.heap[b]?=some (.cells c e fz))(hv:c[k]?=some v):w.cell? ⟨b,k,none⟩=some v:=by
 unfold World.cell?
 simp only [hb,Option.isSome_none,Bool.false_eq_true,if_false]
 exact hv
theorem Ab {b k:Nat}{c:Array Value}{e:TypeId}(hb:w.heap[b]?=some (.cells c e (0,0))):w.frozen? ⟨b,k,none⟩=false:=by
 unfold World.frozen?
 simp [hb]
theorem Fa {b k:Nat}{c:Array Value}{e:TypeId}{v:Value}(hb:w.heap[b]?=some (.cells c e (0,0))):(w.setCell ⟨b,k,none⟩ v).heap[b]?=some (.cells (c.setIfInBounds k v) e (0,0)):=by
 unfold World.setCell
 simp only [Array.getElem?_modify,if_true,hb,Option.map_some,Option.isSome_none,Bool.false_eq_true,if_false]
theorem NV {b k x:Nat}{v:Value}(h:x≠b):(w.setCell ⟨b,k,none⟩ v).heap[x]?=w.heap[x]?:=(bf.setCell w ⟨b,k,none⟩ v).still x h
theorem Ac {i j:Nat}{p q:Nat×Obj}(hn:((l ++ r).map Prod.fst).Nodup)(hp:(l ++ r)[i]?=some p)(hq:(l ++ r)[j]?=some q)(h:i≠j):p.1≠q.1:=by
 intro e
 have h1:((l ++ r).map Prod.fst)[i]?=some p.1:=by rw [List.getElem?_map,hp];rfl
 have h2:((l ++ r).map Prod.fst)[j]?=some q.1:=by rw [List.getElem?_map,hq];rfl
 rw [← e] at h2
 have hi:=(List.getElem?_eq_some_iff.1 h1).1
 exact h ((List.getElem?_inj hi hn).1 (h1.trans h2.symm))
theorem Mm.turn (h:Mm P M w l r){n b:Nat}{o o':Obj}(hb:l[n]?=some (b,o))(h1:w1.heap[b]?=some o')(h2:∀ x,x≠b→w1.heap[x]?=w.heap[x]?)(hs:w1.heap.size=w.heap.size)(hg:∀ g,g < P.globals.size→∃ c e fz,w1.heap[g]?=some (.cells c e fz)):Mm P M w1 (l.set n (b,o')) r:=by
 have hn:=(List.getElem?_eq_some_iff.1 hb).1
 have NW:((l.set n (b,o') ++ r).map Prod.fst)=(l ++ r).map Prod.fst:=by
  simp only [List.map_append,List.map_set]
  congr 1
  apply List.ext_getElem?
  intro m
  by_cases e:n=m
  ·subst e
   rw [List.getElem?_set_self (by simpa using hn),List.getElem?_map,hb]
   rfl
  ·rw [List.getElem?_set_ne e]
 have app:∀ (m:Nat) p,l[m]?=some p→(l ++ r)[m]?=some p:=fun m p hp=>by rw [List.getElem?_append_left (List.getElem?_eq_some_iff.1 hp).1];exact hp
 refine ⟨fun p hp=>?_,fun p hp=>?_,fun c hc=>by rw [hs];exact h.low c hc,hg,by rw [hs];exact h.base,by rw [NW];exact h.nodup⟩
 ·obtain ⟨m,hm⟩:=List.getElem?_of_mem hp
  by_cases e:n=m
  ·subst e
   rw [List.getElem?_set_self hn] at hm
   cases hm
   exact ⟨(h.own (b,o) (List.mem_of_getElem? hb)).1,h1⟩
  ·rw [List.getElem?_set_ne e] at hm
   have hne:=Ac h.nodup (app m p hm) (app n _ hb) (fun q=>e q.symm)
   exact ⟨(h.own p (List.mem_of_getElem? hm)).1,(h2 _ hne).trans (h.own p (List.mem_of_getElem? hm)).2⟩
 ·obtain ⟨m,hm⟩:=List.getElem?_of_mem hp
  have hm':(l ++ r)[l.length+m]?=some p:=by rw [List.getElem?_append_right ag];simpa using hm
  have hne:=Ac h.nodup hm' (app n _ hb) ag
  exact ⟨(h.rd p hp).1,(h2 _ hne).trans (h.rd p hp).2⟩
def plus (M:Nat→Prop)(b:Nat):Nat→Prop:=fun c=>M c∨c / 2=b
theorem Mm.new (h:Mm P M w l r)(o:Obj):Mm P (plus M w.heap.size) (w.alloc o) (l ++ [(w.heap.size,o)]) r:=by
 have hsz:(w.alloc o).heap.size=w.heap.size+1:=by show (w.heap.push o).size=_;simp
 have hfr:∀ p∈l ++ r,p.1 < w.heap.size:=fun p hp=>(Array.getElem?_eq_some_iff.1 (h.all hp).2).1
 refine ⟨fun p hp=>?_,fun p hp=>⟨(h.rd p hp).1.imp .inl .inl,alloc_old w o (h.rd p hp).2⟩,fun c hc=>?_,(oW (P:=P) (M:=fun _=>False) o (fun _ h=>h.elim)).aX h.aX,by rw [hsz];exact Nat.le_succ_of_le h.base,?_⟩
 ·rcases List.mem_append.1 hp with q | q
  ·exact ⟨⟨.inl (h.own p q).1.1,.inl (h.own p q).1.2⟩,alloc_old w o (h.own p q).2⟩
  ·rw [List.mem_singleton.1 q]
   exact ⟨⟨.inr (by show 2 * w.heap.size / 2=w.heap.size;omega),.inr (by show (2 * w.heap.size+1) / 2=w.heap.size;omega)⟩,by show (w.heap.push o)[w.heap.size]?=_;simp⟩
 ·rw [hsz]
  rcases hc with q | q
  ·exact Nat.lt_succ_of_lt (h.low c q)
  ·omega
 ·have hn:=h.nodup
  rw [List.map_append] at hn ⊢
  rw [List.map_append,List.append_assoc]
  have hp:(List.map Prod.fst l ++ (List.map Prod.fst [(w.heap.size,o)] ++ List.map Prod.fst r)).Perm (w.heap.size :: (List.map Prod.fst l ++ List.map Prod.fst r)):=List.perm_middle
  refine hp.nodup_iff.2 (List.nodup_cons.2 ⟨fun hx=>?_,hn⟩)
  rw [← List.map_append] at hx
  obtain ⟨p,hp,e⟩:=List.mem_map.1 hx
  have:=hfr p hp
  omega
theorem sw {es:Array Event}(h:∀ e∈es,∃ ad,e.loc=.cell ad∧e.write=false∧has M ad.block):dY P M M w w es :=
 ⟨Nat.le_refl _,fun h=>h,fun h=>h,fun _ _ _=>rfl,fun y=>⟨.inl,fun z=>z.elim id fun z=>absurd z.2 (Nat.not_lt.2 z.1)⟩,rfl,rfl,rfl,Nat.le_refl _,fun e he=>by
  obtain ⟨ad,h1,h2,hb⟩:=h e he
  unfold Mine
  rw [h1]
  exact ⟨hb,fun z=>by rw [h2] at z;cases z⟩⟩
theorem NY {b k:Nat}{v:Value}{at_:Bool}{es:Array Event}(hf:full M b)(h:∀ e∈es,∃ wr sy,e=⟨.cell ⟨b,k,none⟩,wr,sy⟩):dY P M M w (w.setCell ⟨b,k,none⟩ v) es:=by
 have ho:=bf.setCell w ⟨b,k,none⟩ v
 have _:=at_
 refine ⟨by rw [ho.size];exact Nat.le_refl _,fun h y hy=>by rw [ho.size];exact h y hy,(ho.rely (P:=P) (M:=fun _=>False) fun _ h=>(h.elim id id).elim).aX,fun y _ hn=>ho.still y fun e=>hn (by rw [e];exact hf),fun y=>⟨.inl,fun z=>z.elim id fun z=>absurd z.2 (by rw [ho.size];exact Nat.not_lt.2 z.1)⟩,rfl,rfl,rfl,Nat.le_refl _,fun e he=>?_⟩
 obtain ⟨wr,sy,rfl⟩:=h e he
 exact ⟨hf.has,fun _=>hf⟩
theorem nP (o:Obj):dY P M (plus M w.heap.size) w (w.alloc o) #[]:=by
 have hsz:(w.alloc o).heap.size=w.heap.size+1:=by show (w.heap.push o).size=_;simp
 refine ⟨ag,fun h y hy=>?_,(oW (P:=P) (M:=fun _=>False) o (fun _ h=>h.elim)).aX,fun y hy _=>?_,fun y=>?_,rfl,rfl,rfl,Nat.le_refl _,fun e he=>by simp at he⟩
 ·rw [hsz]
  rcases hy with q | q
  ·exact Nat.lt_succ_of_lt (h y q)
  ·omega
 ·show (w.heap.push o)[y]?=_
  rw [Array.getElem?_push_lt hy,Array.getElem?_eq_getElem hy]
 ·rw [hsz]
  exact ⟨fun z=>z.imp id fun z=>by omega,fun z=>z.imp id fun z=>by omega⟩
section
variable {main:Bool}{fn:FuncId}{kd:CallKind}{K:ai→(Nat→Prop)→Act→World→Prop}{S:ai}{a:Act}{ops:Array Oper}{i:Nat}{o:Oper}
theorem NZ (hkd:kd≠.early)(ho:ops[i]?=some o)(hw:Region.wanted o (yielded ops a.tmps)=true){v:Value}(hr:∀ w1:World,(execOp a.eval o).run P w1=.ok (.value v) w1∧listed P fn a o w1=#[])(hm:Mm P M w l r)
  (h:∀ w1,Mm P M w1 l r→K S M (a.put o.dst v) w1):cK P main fn kd ops i K S M a w :=
 jr hkd ho hw fun w1 hR K' hK=>by
  rw [(hr w1).1]
  exact hK _ _ M (by rw [(hr w1).2];exact dY.idle P M w1) (h w1 (hm.rely hR))
theorem lK (hkd:kd≠.early)(ho:ops[i]?=some o)(hw:Region.wanted o (yielded ops a.tmps)=true){n b k:Nat}{c:Array Value}{e:TypeId}{fz:Nat×Nat}{v:Value}(hm:Mm P M w l r)(hb:(l ++ r)[n]?=some (b,.cells c e fz))(hv:c[k]?=some v)
  (hr:∀ w1:World,w1.cell? ⟨b,k,none⟩=some v→(execOp a.eval o).run P w1=.ok (.value v) w1∧listed P fn a o w1=#[⟨.cell ⟨b,k,none⟩,false,false⟩])
  (h:∀ w1,Mm P M w1 l r→K S M (a.put o.dst v) w1):cK P main fn kd ops i K S M a w :=
 jr hkd ho hw fun w1 hR K' hK=>by
  have hm1:=hm.rely hR
  have hp:=hm1.all (List.mem_of_getElem? hb)
  obtain ⟨h1,h2⟩:=hr w1 (cell_of hp.2 hv)
  rw [h1]
  exact hK _ _ M (by rw [h2];exact sw fun e he=>⟨⟨b,k,none⟩,by rw [Array.mem_singleton.1 he],by rw [Array.mem_singleton.1 he],hp.1⟩) (h w1 hm1)
theorem Fb (hkd:kd≠.early)(ho:ops[i]?=some o)(hw:Region.wanted o (yielded ops a.tmps)=true){v:Value}(hm:Mm P M w l r)
  (hr:∀ w1:World,(∀ p∈l ++ r,w1.heap[p.1]?=some p.2)→(execOp a.eval o).run P w1=.ok (.value v) w1∧∀ e∈listed P fn a o w1,∃ ad,e.loc=.cell ad∧e.write=false∧∃ p∈l ++ r,p.1=ad.block)
  (h:∀ w1,Mm P M w1 l r→K S M (a.put o.dst v) w1):cK P main fn kd ops i K S M a w :=
 jr hkd ho hw fun w1 hR K' hK=>by
  have hm1:=hm.rely hR
  obtain ⟨h1,h2⟩:=hr w1 fun p hp=>(hm1.all hp).2
  rw [h1]
  exact hK _ _ M (sw fun e he=>(h2 e he).elim fun ad q=>⟨ad,q.1,q.2.1,q.2.2.elim fun p q=>q.2 ▸ (hm1.all q.1).1⟩) (h w1 hm1)
theorem Fe (hkd:kd≠.early)(ho:ops[i]?=some o)(hw:Region.wanted o (yielded ops a.tmps)=true){n b k:Nat}{c:Array Value}{e:TypeId}{v:Value}(hm:Mm P M w l r)(hb:l[n]?=some (b,.cells c e (0,0)))(hk:k < c.size)
  (hr:∀ (w1:World) x,w1.cell? ⟨b,k,none⟩=some x→w1.frozen? ⟨b,k,none⟩=false→(execOp a.eval o).run P w1=.ok .skip (w1.setCell ⟨b,k,none⟩ v)∧listed P fn a o w1=#[⟨.cell ⟨b,k,none⟩,true,false⟩])
  (h:∀ w1,Mm P M w1 (l.set n (b,.cells (c.setIfInBounds k v) e (0,0))) r→K S M (a.put o.dst undef) w1):cK P main fn kd ops i K S M a w :=
 jr hkd ho hw fun w1 hR K' hK=>by
  have hm1:=hm.rely hR
  have hp:=hm1.own _ (List.mem_of_getElem? hb)
  obtain ⟨h1,h2⟩:=hr w1 _ (cell_of hp.2 (Array.getElem?_eq_getElem hk)) (Ab hp.2)
  rw [h1]
  have hG:dY P M M w1 (w1.setCell ⟨b,k,none⟩ v) (listed P fn a o w1):=by rw [h2];exact NY (at_:=true) hp.1 fun e he=>⟨true,false,by simpa using he⟩
  exact hK _ _ M hG (h _ (hm1.turn hb (Fa hp.2) (fun x hx=>NV hx) (bf.setCell w1 ⟨b,k,none⟩ v).size (hG.aX hm1.aX)))
theorem Ff (hkd:kd≠.early)(ho:ops[i]?=some o)(hw:Region.wanted o (yielded ops a.tmps)=true){ob:Obj}(hm:Mm P M w l r)
  (hr:∀ w1:World,(execOp a.eval o).run P w1=.ok (.value (.pointer (some ⟨w1.heap.size,0,none⟩))) (w1.alloc ob)∧listed P fn a o w1=#[])
  (h:∀ b w1,Mm P (plus M b) w1 (l ++ [(b,ob)]) r→K S (plus M b) (a.put o.dst (.pointer (some ⟨b,0,none⟩))) w1):cK P main fn kd ops i K S M a w :=
 jr hkd ho hw fun w1 hR K' hK=>by
  have hm1:=hm.rely hR
  rw [(hr w1).1]
  exact hK _ _ _ (by rw [(hr w1).2];exact nP ob) (h w1.heap.size _ (hm1.new ob))
end
end
def both (M F:Nat→Prop):Nat→Prop:=fun c=>M c∨F c
theorem has_both {M F:Nat→Prop}{b:Nat}:has (both M F) b↔has M b∨has F b:=by
 unfold has both
 exact ⟨fun h=>h.elim (fun h=>h.elim (fun h=>.inl (.inl h)) fun h=>.inr (.inl h)) fun h=>h.elim (fun h=>.inl (.inr h)) fun h=>.inr (.inr h),fun h=>h.elim (fun h=>h.elim (fun h=>.inl (.inl h)) fun h=>.inr (.inl h)) fun h=>h.elim (fun h=>.inl (.inr h)) fun h=>.inr (.inr h)⟩
theorem sD {M F:Nat→Prop}{b:Nat}(h:full M b):full (both M F) b:=⟨.inl h.1,.inl h.2⟩
theorem Ad {M F:Nat→Prop}{b:Nat}(h:full F b):full (both M F) b:=⟨.inr h.1,.inr h.2⟩
theorem ay.left {P:Program}{M F:Nat→Prop}{w w1:World}(h:ay P (both M F) w w1):ay P M w w1:=⟨h.size,fun b hb=>h.mine b (has_both.2 (.inl hb)),h.aX,h.env⟩
theorem N7 {M F:Nat→Prop}{e:Event}(h:Mine M e):Mine (both M F) e:=by
 unfold Mine at h ⊢
 generalize e.loc=l at h ⊢
 cases l with
 | cell a=>exact ⟨has_both.2 (.inl h.1),fun z=>sD (h.2 z)⟩
 | obj r=>exact sD h
 | mark m=>cases m <;> exact h
 | _=>exact h
theorem aj.frame {P:Program}{main:Bool}{S S':ai}{M:Nat→Prop}{g:Goroutine}{w:World}(h:aj P main S M g w){F:Nat→Prop}{w0:World}(hk:∀ b,has F b→w.heap[b]?=w0.heap[b]?)(hlow:∀ c,F c→c / 2 < w.heap.size)(iY:∀ c,F c→¬ has M (c / 2))
  (k:∀ M' g' w',S M' g' w'→(∀ b,has F b→w'.heap[b]?=w0.heap[b]?)→(∀ c,F c→c / 2 < w'.heap.size)→(∀ c,F c→¬ has M' (c / 2))→aj P main S' (both M' F) g' w'):aj P main S' (both M F) g w:=by
 induction h with
 | stop h =>
  rename_i M g w
  refine aj.then (Stop:=fun M1 g1 w1=>M1=both M F∧g1=g∧ay P (both M F) w w1) (.stop fun w1 hr=>⟨rfl,rfl,hr⟩) fun M1 g1 w1 q=>?_
  obtain ⟨rfl,rfl,hr⟩:=q
  exact k M _ w1 (h w1 hr.left) (fun b hb=>(hr.mine b (has_both.2 (.inr hb))).trans (hk b hb)) (fun c hc=>Nat.lt_of_lt_of_le (hlow c hc) hr.size) iY
 | step N g' w' es hg h1 h2 h3 ih =>
  rename_i M g w
  refine .step (fun w1=>both (N w1) F) g' w' es hg (fun w1 hr=>h1 w1 hr.left) (fun w1 hr=>?_) (fun w1 hr=>?_)
  ·have hG:=h2 w1 hr.left
   refine ⟨hG.size,fun hl y hy=>?_,hG.aX,fun y hy hn=>hG.still y hy fun z=>hn (sD z),fun y=>?_,hG.tape,hG.os,hG.output,hG.drawn,fun e he=>N7 (hG.evs e he)⟩
   ·rcases hy with q | q
    ·exact hG.low (fun y hy=>hl y (.inl hy)) y q
    ·exact Nat.lt_of_lt_of_le (hl y (.inr q)) hG.size
   ·have:=hG.iff y
    constructor
    ·rintro (q | q)
     ·exact (this.1 q).imp .inl id
     ·exact .inl (.inr q)
    ·rintro ((q | q) | q)
     ·exact .inl (this.2 (.inl q))
     ·exact .inr q
     ·exact .inl (this.2 (.inr q))
  ·have hG:=h2 w1 hr.left
   have Ae:∀ c,F c→c / 2 < w1.heap.size:=fun c hc=>Nat.lt_of_lt_of_le (hlow c hc) hr.size
   refine ih w1 hr.left (fun b hb=>?_) (fun c hc=>Nat.lt_of_lt_of_le (Ae c hc) hG.size) (fun c hc hn=>?_)
   ·obtain ⟨c,e,hc⟩:=iQ hb
    rw [hG.still b (by rw [← e];exact Ae c hc) fun z=>iY c hc (by rw [e];exact z.has),hr.mine b (has_both.2 (.inr hb))]
    exact hk b hb
   ·obtain ⟨c',e,hc'⟩:=iQ hn
    rcases (hG.iff c').1 hc' with q | q
    ·exact iY c hc (by rw [← e];exact qY q)
    ·have:=Ae c hc
     omega
theorem Fg {P:Program}{main:Bool}{f:FuncId}{ys:Array Value}{R:Ending→(Nat→Prop)→World→Prop}{S:ai}{M F:Nat→Prop}{w:World}(h:C9 P main f ys R M w)(hR:∀ e M' w' w1,R e M' w'→ay P M' w' w1→R e M' w1)(hlow:∀ c,F c→c / 2 < w.heap.size)(iY:∀ c,F c→¬ has M (c / 2)) :
  bn P main f ys (fun e S' M' w'=>S'=S∧∃ M0,M'=both M0 F∧R e M0 w'∧(∀ b,has F b→w'.heap[b]?=w.heap[b]?)∧(∀ c,F c→c / 2 < w'.heap.size)∧∀ c,F c→¬ has M0 (c / 2)) S (both M F) w:=by
 intro c cs h1 h2
 have h0:=h c cs (fun M' g' w'=>∃ e,R e M' w'∧((∃ y,e=.returned y∧g'=ax (c.finish y) cs)∨∃ ch,e=.panicked ch∧g'=ax (c.raise ch) cs)) (fun y M' w' q=>.stop fun w1 hr=>⟨_,hR _ _ _ _ q hr,.inl ⟨y,rfl,rfl⟩⟩) (fun ch M' w' q=>.stop fun w1 hr=>⟨_,hR _ _ _ _ q hr,.inr ⟨ch,rfl,rfl⟩⟩)
 refine h0.frame (w0:=w) (fun _ _=>rfl) hlow iY fun M' g' w' q q1 q2 q3=>?_
 obtain ⟨e,hq,⟨y,rfl,rfl⟩ | ⟨ch,rfl,rfl⟩⟩:=q
 ·exact h1 y S _ _ ⟨rfl,M',rfl,hq,q1,q2,q3⟩
 ·exact h2 ch S _ _ ⟨rfl,M',rfl,hq,q1,q2,q3⟩
def gV (n:Nat)(B:List Nat)(G:FuncId→Bool):av:={ b:=fun x y=>x=y∧x < n,own:=fun x=>x∈B∧x < n,good:=fun f=>G f=true }
theorem VR.tr {K L:av}(hb:∀ x y,K.b x y→L.b x y)(hg:∀ f,K.good f↔L.good f){x y:Value}(r:VR K x y):VR L x y:=by
 induction r with
 | bool b=>exact .bool b
 | int k n=>exact .int k n
 | float k n=>exact .float k n
 | string s=>exact .string s
 | dU=>exact .dU
 | ptr a a' r=>exact .ptr a a' ⟨hb _ _ r.block,r.off,r.spot⟩
 | bX l c=>exact .bX l c
 | slice a a' l c r=>exact .slice a a' l c ⟨hb _ _ r.block,r.off,r.spot⟩
 | void a hv=>exact .void a fun q=>hv ((hg _).2 q)
 | kg=>exact .kg
 | map r r' b=>exact .map r r' (hb _ _ b)
 | ko=>exact .ko
 | chan r r' b=>exact .chan r r' (hb _ _ b)
 | func fn xs ys us vs hf h1 _ h3 _ ih1 ih2=>exact .func fn xs ys us vs ((hg _).1 hf) h1 ih1 h3 ih2
 | fE n xs ys us vs hf h1 _ h3 _ ih1 ih2=>exact .fE n xs ys us vs ((hg _).1 hf) h1 ih1 h3 ih2
 | nilFunc=>exact .nilFunc
 | iface t x y _ ih=>exact .iface t x y ih
 | nilIface=>exact .nilIface
 | agg xs ys h1 _ ih=>exact .agg xs ys h1 ih
 | tuple xs ys h1 _ ih=>exact .tuple xs ys h1 ih
def Old (n:Nat)(G:FuncId→Bool)(v:Value):Prop:=VR (gV n [] G) v v
theorem Old.kin {n:Nat}{G:FuncId→Bool}{B:List Nat}{v:Value}(h:Old n G v):VR (gV n B G) v v:=VR.tr (K:=gV n [] G) (L:=gV n B G) (fun _ _ h=>h) (fun _=>Iff.rfl) h
section
variable {n:Nat}{G:FuncId→Bool}
theorem Old.bool (b:Bool):Old n G (.bool b):=VR.bool b
theorem Old.int (k:IntKind)(i:Int):Old n G (.int k i):=VR.int k i
theorem Old.ptr {a:Addr}(h:a.block < n):Old n G (.pointer (some a)):=VR.ptr a a ⟨⟨rfl,h⟩,rfl,rfl⟩
theorem Old.bX (l c:Nat):Old n G (.slice none l c):=VR.bX l c
theorem Old.slice {a:Addr}{l c:Nat}(h:a.block < n):Old n G (.slice (some a) l c):=VR.slice a a l c ⟨⟨rfl,h⟩,rfl,rfl⟩
theorem Old.iface {t:TypeId}{x:Value}(h:Old n G x):Old n G (.iface t x):=VR.iface t x x h
theorem Old.agg {xs:Array Value}(h:∀ x∈xs,Old n G x):Old n G (.agg xs):=VR.agg xs xs rfl fun i x y hx hy=>by
 rw [hx] at hy;cases hy;exact h x (Array.mem_of_getElem? hx)
theorem Old.row {xs:Array Value}(h:∀ x∈xs,Old n G x){B:List Nat}:AR (gV n B G) xs xs:=⟨rfl,fun i x y hx hy=>by
 rw [hx] at hy;cases hy;exact (h x (Array.mem_of_getElem? hx)).kin⟩
theorem qE {xs ys:Array Value}(hs:xs.size=ys.size)(h:∀ (i:Nat)(x y:Value),xs[i]?=some x→ys[i]?=some y→y=x):ys=xs:=by
 apply Array.ext_getElem?
 intro i
 cases hx:xs[i]? with
 | none =>
  rw [Array.getElem?_eq_none_iff] at hx ⊢
  omega
 | some x =>
  have hi:=(Array.getElem?_eq_some_iff.1 hx).1
  have hy:ys[i]?=some ys[i]:=Array.getElem?_eq_getElem ag
  rw [hy,h i x _ hx hy]
theorem VR.old {L:av}(hb:∀ x y,x < n→L.b x y→y=x){v y:Value}(r:VR L v y)(h:Old n G v)(hV:G iE=true:=by first | rfl | decide):y=v:=by
 have ad:∀ a a':Addr,bA L a a'→a.block < n→a'=a:=fun a a' r h=>by
  obtain ⟨b1,o1,s1⟩:=a
  obtain ⟨b2,o2,s2⟩:=a'
  have e1:b2=b1:=hb _ _ h r.block
  have e2:o1=o2:=r.off
  have e3:s1=s2:=r.spot
  rw [e1,e2,e3]
 induction r with
 | bool b=>rfl
 | int k n=>rfl
 | float k n=>rfl
 | string s=>rfl
 | dU=>rfl
 | ptr a a' r=>cases h with | ptr _ _ q=>rw [ad a a' r q.block.2]
 | bX l c=>rfl
 | void a hv=>rfl
 | slice a a' l c r=>cases h with
  | slice _ _ _ _ q=>rw [ad a a' r q.block.2]
  | void _ hv=>exact absurd hV hv
 | kg=>rfl
 | map r r' b=>cases h with | map _ _ q=>rw [hb _ _ q.2 b]
 | ko=>rfl
 | chan r r' b=>cases h with | chan _ _ q=>rw [hb _ _ q.2 b]
 | func fn xs ys us vs hf h1 _ h3 _ ih1 ih2 =>
  cases h with
  | func _ _ _ _ _ _ _ k1 _ k2=>rw [qE h1 fun i x y hx hy=>ih1 i x y hx hy (k1 i x x hx hx),qE h3 fun i x y hx hy=>ih2 i x y hx hy (k2 i x x hx hx)]
 | fE n xs ys us vs hf h1 _ h3 _ ih1 ih2 =>
  cases h with
  | fE _ _ _ _ _ _ _ k1 _ k2=>rw [qE h1 fun i x y hx hy=>ih1 i x y hx hy (k1 i x x hx hx),qE h3 fun i x y hx hy=>ih2 i x y hx hy (k2 i x x hx hx)]
 | nilFunc=>rfl
 | iface t x y _ ih=>cases h with | iface _ _ _ q=>rw [ih q]
 | nilIface=>rfl
 | agg xs ys h1 _ ih=>cases h with | agg _ _ _ k=>rw [qE h1 fun i x y hx hy=>ih i x y hx hy (k i x x hx hx)]
 | tuple xs ys h1 _ ih=>cases h with | tuple _ _ _ k=>rw [qE h1 fun i x y hx hy=>ih i x y hx hy (k i x x hx hx)]
theorem AR.old {L:av}(hb:∀ x y,x < n→L.b x y→y=x){xs ys:Array Value}(r:AR L xs ys)(h:∀ x∈xs,Old n G x)(hV:G iE=true:=by first | rfl | decide):ys=xs:=qE r.size fun i x y hx hy=>(r.at_ i x y hx hy).old hb (h x (Array.mem_of_getElem? hx)) hV
end
def lM (B:List Nat)(w:World):World:={ w with heap:=w.heap.mapIdx fun i o=>if i∈B then o else fB }
theorem Fh (B:List Nat)(w:World):(lM B w).heap.size=w.heap.size:=by simp [lM]
theorem Fj {B:List Nat}{w:World}{b:Nat}(h:b∈B):(lM B w).heap[b]?=w.heap[b]?:=by
 simp only [lM,Array.getElem?_mapIdx,h,if_true]
 cases w.heap[b]? <;> rfl
theorem N8 {B:List Nat}{w:World}{b:Nat}(h:b∉B)(hb:b < w.heap.size):(lM B w).heap[b]?=some fB:=by
 simp [lM,h,hb]
section
variable {P:Program}{G:FuncId→Bool}{M:Nat→Prop}{w:World}{l r:List (Nat×Obj)}
theorem Fp {B:List Nat}(hB:∀ b∈B,∃ c e fz,w.heap[b]?=some (.cells c e fz)∧∀ v∈c,Old w.heap.size G v)(hbase:P.globals.size+5≤w.heap.size)(lN:∀ g,g < P.globals.size→∃ c e fz,w.heap[g]?=some (.cells c e fz)):aY P (gV w.heap.size B G) (lM B w) w:=by
 refine ⟨fun x y x' y' h1 h2=>by rw [← h1.1,← h2.1],fun x y h=>⟨by rw [Fh];exact h.2,h.1 ▸ h.2⟩,fun x hx=>?_,fun x y hb hn=>N8 (fun q=>hn ⟨q,hb.2⟩) hb.2,fun g hg=>⟨rfl,Nat.lt_of_lt_of_le hg hbase⟩,lN,rfl⟩
 obtain ⟨c,e,fz,q,hc⟩:=hB x hx.1
 exact ⟨x,⟨rfl,hx.2⟩,_,_,(Fj hx.1).trans q,q,.cells c c e fz (Old.row hc)⟩
structure After (P:Program)(G:FuncId→Bool)(n:Nat)(B:List Nat)(l r:List (Nat×Obj))(M:Nat→Prop)(w:World)(L:av)(v:World):Prop where
 le:(gV n B G).le L
 fH:aY P L v w
 kept:∀ l0,(∀ p∈l0,p∈l∧p.1∉B)→(l0.map Prod.fst).Nodup→Mm P M w l0 r
 own:∀ x y,L.own x→L.b x y→full M y
 away:∀ x y,L.own x→L.b x y→∀ p∈l ++ r,p.1∉B→y≠p.1
theorem After.old {n:Nat}{B:List Nat}{L:av}{v:World}(h:After P G n B l r M w L v):∀ x y,x < n→L.b x y→y=x:=fun x y hx hb=>(h.fH.gQ x x x y (h.le.b x x ⟨rfl,hx⟩) hb).1 rfl |>.symm
theorem After.get {n:Nat}{B:List Nat}{L:av}{v:World}(h:After P G n B l r M w L v){x y:Nat}{c:Array Value}{e:TypeId}{fz:Nat×Nat}(hb:L.b x y)(hv:v.heap[x]?=some (.cells c e fz)):∃ c',w.heap[y]?=some (.cells c' e fz)∧AR L c c'∧full M y∧∀ p∈l ++ r,p.1∉B→y≠p.1:=by
 have ho:L.own x:=Classical.byContradiction fun hn=>by
  rw [h.fH.off x y hb hn] at hv
  cases hv
 obtain ⟨y',hb',o,o',e1,e2,hr⟩:=h.fH.mine x ho
 have:y'=y:=((h.fH.gQ x y' x y hb' hb).1 rfl)
 subst this
 rw [hv] at e1
 cases e1
 cases hr with
 | cells _ c' _ _ q=>exact ⟨c',e2,q,h.own x _ ho hb,h.away x _ ho hb⟩
theorem After.same {n:Nat}{B:List Nat}{L:av}{v:World}(h:After P G n B l r M w L v){x:Nat}{c:Array Value}{e:TypeId}{fz:Nat×Nat}(hx:x < n)(hv:v.heap[x]?=some (.cells c e fz))(hc:∀ u∈c,Old n G u)(hV:G iE=true:=by first | rfl | decide):w.heap[x]?=some (.cells c e fz)∧full M x:=by
 obtain ⟨c',h1,h2,h3,_⟩:=h.get (h.le.b x x ⟨rfl,hx⟩) hv
 rw [h2.old h.old hc hV] at h1
 exact ⟨h1,h3⟩
theorem Mm.add (h:Mm P M w l r){y:Nat}{o:Obj}(hy:full M y)(ho:w.heap[y]?=some o)(hn:∀ p∈l ++ r,y≠p.1):Mm P M w (l ++ [(y,o)]) r:=by
 refine ⟨fun p hp=>(List.mem_append.1 hp).elim (h.own p) fun q=>by rw [List.mem_singleton.1 q];exact ⟨hy,ho⟩,h.rd,h.low,h.aX,h.base,?_⟩
 have hd:=h.nodup
 rw [List.map_append] at hd ⊢
 rw [List.map_append,List.append_assoc]
 have hp:(List.map Prod.fst l ++ (List.map Prod.fst [(y,o)] ++ List.map Prod.fst r)).Perm (y :: (List.map Prod.fst l ++ List.map Prod.fst r)):=List.perm_middle
 refine hp.nodup_iff.2 (List.nodup_cons.2 ⟨fun hx=>?_,hd⟩)
 rw [← List.map_append] at hx
 obtain ⟨p,hp,e⟩:=List.mem_map.1 hx
 exact hn p hp e.symm
theorem sF {main:Bool}{S:ai}(H:Good P G){f:FuncId}(hf:G f=true)(gI:∃ fn,P.funcs[f]?=some fn){ys:Array Value}(hys:∀ y∈ys,Old w.heap.size G y)(hm:Mm P M w l r)(B:List Nat)(hB:∀ b∈B,∃ c e fz,(b,.cells c e fz)∈l∧∀ v∈c,Old w.heap.size G v)
  {R:Ending→World→Prop}(hR:∀ v:World,v.heap.size=w.heap.size→(∀ b∈B,v.heap[b]?=w.heap[b]?)→Calls P f ys v R)(hno:∀ u,¬ R .outgrown u) :
  bn P main f ys (fun e S' M' w'=>S'=S∧∃ L v,After P G w.heap.size B l r M' w' L v∧match e with | .returned y=>∃ x,R (.returned x) v∧VR L x y | .panicked qs=>∃ ps,R (.panicked ps) v∧fJ L ps qs | .outgrown=>False) S M w:=by
 have hB':∀ b∈B,∃ c e fz,w.heap[b]?=some (.cells c e fz)∧∀ v∈c,Old w.heap.size G v:=fun b hb=>by
  obtain ⟨c,e,fz,h1,h2⟩:=hB b hb
  exact ⟨c,e,fz,(hm.own _ h1).2,h2⟩
 have hlt:∀ b∈B,b < w.heap.size:=fun b hb=>by
  obtain ⟨c,e,fz,h1,_⟩:=hB' b hb
  exact (Array.getElem?_eq_some_iff.1 h1).1
 have kD:∀ c,(gV w.heap.size B G).mine c↔c / 2∈B:=fun c=>⟨fun ⟨x,h1,h2⟩=>h2.1 ▸ h1.1,fun h=>⟨c / 2,⟨h,hlt _ h⟩,rfl,hlt _ h⟩⟩
 have hfull:∀ c,c / 2∈B→M c:=fun c hc=>by
  obtain ⟨c',e,fz,h1,_⟩:=hB _ hc
  exact oI (hm.own _ h1).1 rfl
 have hM:M=both (gV w.heap.size B G).mine (fun c=>M c∧c / 2∉B):=by
  funext c
  refine propext ⟨fun h=>?_,fun h=>h.elim (fun q=>hfull c ((kD c).1 q)) (·.1)⟩
  by_cases q:c / 2∈B
  ·exact .inl ((kD c).2 q)
  ·exact .inr ⟨h,q⟩
 have iY:∀ c,(M c∧c / 2∉B)→¬ has (gV w.heap.size B G).mine (c / 2):=fun c hc hn=>by
  obtain ⟨c',e,q⟩:=iQ hn
  exact hc.2 (e ▸ (kD c').1 q)
 have hrel:∀ (L:av) (v w' w1:World),aY P L v w'→ay P L.mine w' w1→aY P L v w1:=fun L v w' w1 h k=>h.rely k
 have hcall:=Da (main:=main) H (K:=gV w.heap.size B G) (fun _=>Iff.rfl) hf gI (Old.row hys) (Fp hB' hm.base hm.aX) (R:=R) (fun τ=>hR (tp τ (lM B w)) (Fh B w) fun b hb=>Fj hb) hno
 have hfr:=Fg (S:=S) (F:=fun c=>M c∧c / 2∉B) hcall (fun e M' w' w1 q hr=>by
  obtain ⟨L,v1,q1,q2,q3,q4⟩:=q
  subst q2
  exact ⟨L,v1,q1,rfl,q3.rely hr,q4⟩) (fun c hc=>hm.low c hc.1) iY
 rw [hM]
 refine bG hfr fun e S' M' w' q=>?_
 obtain ⟨hS,M0,hM',⟨L,v1,q1,q2,q3,q4⟩,k1,k2,k3⟩:=q
 subst q2 hM'
 have Fq:∀ p:Nat×Obj,p.1∉B→full M p.1→full (fun c=>M c∧c / 2∉B) p.1:=fun p hp hf=>⟨⟨hf.1,by rw [show 2 * p.1 / 2=p.1 by omega];exact hp⟩,⟨hf.2,by rw [show (2 * p.1+1) / 2=p.1 by omega];exact hp⟩⟩
 have Af:∀ p:Nat×Obj,p.1∉B→has M p.1→has (fun c=>M c∧c / 2∉B) p.1:=fun p hp hf=>hf.imp (fun q=>⟨q,by rw [show 2 * p.1 / 2=p.1 by omega];exact hp⟩) fun q=>⟨q,by rw [show (2 * p.1+1) / 2=p.1 by omega];exact hp⟩
 have rB:∀ p∈r,p.1∉B:=fun p hp hb=>by
  obtain ⟨c',e,fz,h1,_⟩:=hB _ hb
  obtain ⟨i,hi⟩:=List.getElem?_of_mem h1
  obtain ⟨j,hj⟩:=List.getElem?_of_mem hp
  have h2:(l ++ r)[i]?=some (p.1,.cells c' e fz):=by rw [List.getElem?_append_left (List.getElem?_eq_some_iff.1 hi).1];exact hi
  have h3:(l ++ r)[l.length+j]?=some p:=by rw [List.getElem?_append_right ag];simpa using hj
  exact Ac hm.nodup h2 h3 (by have:=(List.getElem?_eq_some_iff.1 hi).1;omega) rfl
 refine ⟨hS,L,v1,⟨q1,q3,fun l0 h0 hn=>?_,fun x y ho hb=>sD (av.qb ho hb),fun x y ho hb p hp qF e=>?_⟩,q4⟩
 ·refine ⟨fun p hp=>⟨Ad (Fq p (h0 p hp).2 (hm.own p (h0 p hp).1).1),(k1 p.1 (Fq p (h0 p hp).2 (hm.own p (h0 p hp).1).1).has).trans (hm.own p (h0 p hp).1).2⟩,fun p hp=>⟨has_both.2 (.inr (Af p (rB p hp) (hm.rd p hp).1)),(k1 p.1 (Af p (rB p hp) (hm.rd p hp).1)).trans (hm.rd p hp).2⟩,fun c hc=>hc.elim (fun q=>?_) (k2 c),q3.aX,?_,?_⟩
  ·obtain ⟨x,h1,h2⟩:=q
   exact (q3.dom x _ h2).2
  ·have:=q3.base (P.globals.size+4) ag
   have:=(q3.dom _ _ this).2
   omega
  ·rw [List.map_append]
   refine List.nodup_append.2 ⟨hn,?_,fun x hx y hy e=>?_⟩
   ·have:=hm.nodup
    rw [List.map_append] at this
    exact (List.nodup_append.1 this).2.1
   ·obtain ⟨p,hp,rfl⟩:=List.mem_map.1 hx
    obtain ⟨p',hp',rfl⟩:=List.mem_map.1 hy
    have:=hm.nodup
    rw [List.map_append] at this
    exact (List.nodup_append.1 this).2.2 _ (List.mem_map_of_mem (h0 p hp).1) _ (List.mem_map_of_mem hp') e
 ·have h1:has (fun c=>M c∧c / 2∉B) p.1:=Af p qF (hm.all hp).1
  obtain ⟨c,e1,hc⟩:=iQ h1
  exact k3 c hc (by rw [e1,← e];exact (av.qb ho hb).has)
end
structure aN where
 σ:Type
 K:Type
 Call:Type
 B:List Nat
 sh:σ→List (Nat×Obj)
 fst:∀ s,(sh s).map Prod.fst=B
 nodup:B.Nodup
 begin:Call→K
 line:K→σ→σ×Sum K (Array Value)
structure Post where
 tn:Nat
 ov:Nat
 arr:Nat
 pb:Nat
 R:Nat
 q:Nat
 ob:Obj
def zS:Value:=.agg #[]
def gL:Array Value:=#[.bool false,.bool false,.int .i64 0,.int .i64 0,.int .i64 0,.bool false,.int .i64 0,.int .i64 0,.int .i64 0,.slice none 0 0,.slice none 0 0]
def zA:Value:=.agg gL
def fP (a:Array Value):Array Value:=#[.bool true,.bool false] ++ a
abbrev aN.bL (Y:aN):Type:=Option Y.K×List Y.Call
def aN.fin (Y:aN)(cs:List Y.Call):Y.σ×Sum Y.K (Array Value)→Y.σ×Array Value×Option Y.bL
 | (s,.inl k)=>(s,gL,some (some k,cs))
 | (s,.inr a)=>(s,fP a,if cs.isEmpty then none else some (none,cs))
def aN.dM (Y:aN):Y.bL→Y.σ→Y.σ×Array Value×Option Y.bL
 | (none,c :: cs),s=>Y.fin cs (Y.line (Y.begin c) s)
 | (some k,cs),s=>Y.fin cs (Y.line k s)
 | (none,[]),s=>(s,gL,none)
def fw (B:List Nat)(pb:Nat):Nat→Prop:=fun c=>c / 2∈B∨c=2 * pb+1
def vF (B:List Nat):Nat→Prop:=fun c=>c / 2∈B
def Post.fA (p:Post):Array CommCase:=#[rcase p.tn zS,rcase p.ov zS]
def nQ (P:Program)(p:Post):ai:=fun _ g _=>g.status=.running∧∃ n,aH P (ig P p.R p.q) (oN p.R p.q) (kK p.R p.q) n 7 g
def N9 (P:Program)(Y:aN)(p:Post)(H:Y.bL→ai):Option Y.bL→ai
 | some q=>zJ P false p.fA .select (H q)
 | none=>nQ P p
def back (B:List Nat)(pb:Nat){α:Type}:Option α→Nat→Prop
 | some _=>fw B pb
 | none=>vF B
def lQ (P:Program)(Y:aN)(p:Post)(H:Y.bL→ai)(x:Y.σ×Array Value×Option Y.bL):ai:=fun M g w =>
 ∃ M0,M=both M0 (back Y.B p.pb x.2.2)∧(∀ c,back Y.B p.pb x.2.2 c→¬ M0 c)∧(∀ b∈Y.sh x.1,w.heap[b.1]?=some b.2)∧(x.2.2.isSome=true→w.heap[p.pb]?=some p.ob)∧∀ w1,ay P M0 w w1→aj P false (N9 P Y p H x.2.2) M0 (g.finishComm P #[scase p.arr (.agg x.2.1) undef] .send 0 undef false) w1
def o7 (P:Program)(Y:aN)(p:Post)(H:Y.bL→ai)(q:Y.bL)(s:Y.σ):ai:=zJ P false #[scase p.arr (.agg (Y.dM q s).2.1) undef] .send (lQ P Y p H (Y.dM q s))
def fQ (P:Program)(Y:aN)(p:Post):Nat→Y.bL→ai
 | 0,_=>fun _ _ _=>True
 | n+1,q=>fun M g w=>∀ s w1,ay P M w w1→(∀ b∈Y.sh s,w1.heap[b.1]?=some b.2)→(∀ c,fw Y.B p.pb c→¬ M c)→aj P false (o7 P Y p (fQ P Y p n) q s) (both M (fw Y.B p.pb)) (g.finishComm P p.fA .select 0 zS true) w1
abbrev nR (P:Program)(Y:aN)(p:Post)(n:Nat)(q:Y.bL):ai:=zJ P false p.fA .select (fQ P Y p n q)
abbrev dP (P:Program)(Y:aN)(p:Post)(n:Nat)(q:Y.bL)(s:Y.σ):ai:=o7 P Y p (fQ P Y p n) q s
section
variable {P:Program}{Y:aN}{p:Post}{M:Nat→Prop}{w w1:World}{wl:List (Nat×Obj)}{o:Obj}{s:Y.σ}
def less (M F:Nat→Prop):Nat→Prop:=fun c=>M c∧¬ F c
theorem Ag {M F:Nat→Prop}(h:∀ c,F c→M c):M=both (less M F) F:=by
 funext c
 refine propext ⟨fun hc=>?_,fun hc=>hc.elim (·.1) (h c)⟩
 by_cases q:F c
 ·exact .inr q
 ·exact .inl ⟨hc,q⟩
theorem o8 {b:Nat}:b∈Y.B↔∃ o,(b,o)∈Y.sh s:=by
 rw [← Y.fst s]
 exact ⟨fun h=>by obtain ⟨x,hx,e⟩:=List.mem_map.1 h;exact ⟨x.2,by rw [← e];exact hx⟩,fun ⟨o,h⟩=>List.mem_map.2 ⟨_,h,rfl⟩⟩
theorem Mm.names (h:Mm P M w ((p.pb,o) :: (wl ++ Y.sh s)) []):p.pb∉Y.B∧(∀ x∈wl,x.1∉Y.B)∧(∀ x∈wl,x.1≠p.pb)∧((wl.map Prod.fst).Nodup):=by
 have hn:=h.nodup
 simp only [List.append_nil,List.map_cons,List.map_append,Y.fst s] at hn
 obtain ⟨h1,h2⟩:=List.nodup_cons.1 hn
 obtain ⟨h3,_,h4⟩:=List.nodup_append.1 h2
 exact ⟨fun q=>h1 (bR (q)),fun x hx q=>h4 _ (List.mem_map_of_mem hx) _ q rfl,fun x hx e=>h1 (aO ((e ▸ List.mem_map_of_mem hx))),h3⟩
theorem Mm.rA (h:Mm P M w ((p.pb,o) :: (wl ++ Y.sh s)) []):(∀ c,fw Y.B p.pb c→M c)∧(∀ b∈Y.sh s,w.heap[b.1]?=some b.2)∧Mm P (less M (fw Y.B p.pb)) w wl [(p.pb,o)]:=by
 obtain ⟨h1,h2,h3,h4⟩:=h.names
 have hpb:=h.own (p.pb,o) ah
 have hsh:∀ b∈Y.sh s,full M b.1∧w.heap[b.1]?=some b.2:=fun b hb=>h.own b (by simp [hb])
 refine ⟨fun c hc=>?_,fun b hb=>(hsh b hb).2,fun x hx=>?_,fun x hx=>?_,fun c hc=>h.low c hc.1,h.aX,h.base,?_⟩
 ·rcases hc with q | q
  ·obtain ⟨o',ho⟩:=(o8 (s:=s)).1 q
   exact oI (hsh _ ho).1 rfl
  ·rw [q];exact hpb.1.2
 ·have hx':=h.own x (by simp [hx])
  have k:∀ c,c / 2=x.1→¬ fw Y.B p.pb c:=fun c e q=>q.elim (fun q=>h2 x hx (e ▸ q)) fun q=>h3 x hx ag
  exact ⟨⟨⟨hx'.1.1,k _ ag⟩,⟨hx'.1.2,k _ ag⟩⟩,hx'.2⟩
 ·rw [List.mem_singleton.1 hx]
  exact ⟨.inl ⟨hpb.1.1,fun q=>q.elim (fun q=>h1 (by rw [show 2 * p.pb / 2=p.pb by omega] at q;exact q)) fun q=>by omega⟩,hpb.2⟩
 ·rw [List.map_append]
  exact List.nodup_append.2 ⟨h4,ah,fun x hx y hy e=>by
   obtain ⟨z,hz,rfl⟩:=List.mem_map.1 hx
   simp only [List.map_cons,List.map_nil,List.mem_singleton] at hy
   exact h3 z hz (e.trans hy)⟩
theorem Mm.quit (h:Mm P M w ((p.pb,o) :: (wl ++ Y.sh s)) []):(∀ c,vF Y.B c→M c)∧(∀ b∈Y.sh s,w.heap[b.1]?=some b.2)∧Mm P (less M (vF Y.B)) w ((p.pb,o) :: wl) []:=by
 obtain ⟨h1,h2,h3,h4⟩:=h.names
 have hsh:∀ b∈Y.sh s,full M b.1∧w.heap[b.1]?=some b.2:=fun b hb=>h.own b (by simp [hb])
 refine ⟨fun c hc=>?_,fun b hb=>(hsh b hb).2,fun x hx=>?_,fun x hx=>absurd hx ah,fun c hc=>h.low c hc.1,h.aX,h.base,?_⟩
 ·obtain ⟨o',ho⟩:=(o8 (s:=s)).1 hc
  exact oI (hsh _ ho).1 rfl
 ·have hx':=h.own x (by rcases List.mem_cons.1 hx with q | q <;> simp [q])
  have k:∀ c,c / 2=x.1→¬ vF Y.B c:=fun c e q=>by
   have q':x.1∈Y.B:=e ▸ q
   rcases List.mem_cons.1 hx with z | z
   ·rw [z] at q';exact h1 q'
   ·exact h2 x z q'
  exact ⟨⟨⟨hx'.1.1,k _ ag⟩,⟨hx'.1.2,k _ ag⟩⟩,hx'.2⟩
 ·simp only [List.append_nil,List.map_cons]
  exact List.nodup_cons.2 ⟨fun q=>by
   obtain ⟨z,hz,e⟩:=List.mem_map.1 q
   exact h3 z hz e,h4⟩
theorem Mm.resume (h:Mm P M w wl [(p.pb,o)])(hr:ay P M w w1)(hs:∀ b∈Y.sh s,w1.heap[b.1]?=some b.2)(hd:∀ c,fw Y.B p.pb c→¬ M c):Mm P (both M (fw Y.B p.pb)) w1 ((p.pb,o) :: (wl ++ Y.sh s)) []:=by
 have h1:=h.rely hr
 have hp:=h1.rd (p.pb,o) ah
 have hleft:M (2 * p.pb):=hp.1.elim id fun q=>absurd q (hd _ (.inr rfl))
 have Ah:∀ b∈Y.B,full (fw Y.B p.pb) b:=fun b hb=>⟨.inl (by rw [show 2 * b / 2=b by omega];exact hb),.inl (by rw [show (2 * b+1) / 2=b by omega];exact hb)⟩
 have qF:p.pb∉Y.B:=fun q=>hd _ (Ah _ q).1 hleft
 have Oa:∀ x∈wl,x.1∉Y.B:=fun x hx q=>hd _ (Ah _ q).1 (h1.own x hx).1.1
 have hn:=h.nodup
 rw [List.map_append] at hn
 obtain ⟨n1,_,n3⟩:=List.nodup_append.1 hn
 refine ⟨fun x hx=>?_,fun x hx=>absurd hx ah,fun c hc=>?_,h1.aX,h1.base,?_⟩
 ·rcases List.mem_cons.1 hx with q | q
  ·rw [q];exact ⟨⟨.inl hleft,.inr (.inr rfl)⟩,hp.2⟩
  ·rcases List.mem_append.1 q with q | q
   ·exact ⟨sD (h1.own x q).1,(h1.own x q).2⟩
   ·exact ⟨Ad (Ah _ ((o8 (s:=s)).2 ⟨x.2,q⟩)),hs x q⟩
 ·rcases hc with q | q | q
  ·exact h1.low c q
  ·obtain ⟨o',ho⟩:=(o8 (s:=s)).1 q
   exact (Array.getElem?_eq_some_iff.1 (hs _ ho)).1
  ·have:=(Array.getElem?_eq_some_iff.1 hp.2).1
   omega
 ·simp only [List.append_nil,List.map_cons,List.map_append,Y.fst s]
  refine List.nodup_cons.2 ⟨fun q=>?_,List.nodup_append.2 ⟨n1,Y.nodup,fun x hx y hy e=>?_⟩⟩
  ·rcases List.mem_append.1 q with q | q
   ·exact n3 _ q _ ah rfl
   ·exact qF q
  ·obtain ⟨z,hz,rfl⟩:=List.mem_map.1 hx
   exact Oa z hz (e ▸ hy)
end
section
variable {P:Program}{Y:aN}{p:Post}{fn:FuncId}{kd:CallKind}{Q:aZ}{M:Nat→Prop}{a:Act}{w:World}{ops:Array Oper}{i:Nat}{rest:List Nat}{o:Oper}{wl:List (Nat×Obj)}{ob:Obj}{n:Nat}{q:Y.bL}{s s':Y.σ}{v:Array Value}
theorem Ob (p:Post):commResult p.fA .select 0 zS true=.tuple #[.int .i64 0,.bool true,zS,zS]:=by
 simp [commResult,Post.fA,rcase,goInt]
theorem Oc (hkd:kd≠.early)(ho:ops[i]?=some o)(hw:Region.wanted o (yielded ops a.tmps)=true)(hrun:∀ w1,(execOp a.eval o).runT P w1 #[]=(.ok (.comm p.fA true .select) w1,#[]))(hm:Mm P M w wl [(p.pb,ob)])
  (h:∀ n' s M' w',n=n' + 1→Mm P M' w' ((p.pb,ob) :: (wl ++ Y.sh s)) []→aG P false fn kd ops rest Q (dP P Y p n' q s) M' (a.put o.dst (.tuple #[.int .i64 0,.bool true,zS,zS])) w'):aG P false fn kd ops (i :: rest) Q (nR P Y p n q) M a w:=by
 refine xg hkd ho hw hrun (mD:=fun S' jj v' ok M' w'=>aG P false fn kd ops rest Q S' M' (a.put o.dst (commResult p.fA .select jj v' ok)) w') (fun g g2 hcm hcont w1 hrel=>⟨g2,hcm,?_⟩) fun _ _ _ _ _ _ h=>h
 cases n with
 | zero=>trivial
 | succ n=>exact fun s w2 hr hs hd=>hcont _ 0 _ _ _ _ (by rw [Ob];exact h n s _ _ rfl ((hm.rely hrel).resume hr hs hd))
theorem Od (hkd:kd≠.early)(ho:ops[i]?=some o)(hw:Region.wanted o (yielded ops a.tmps)=true)(hrun:∀ w1,(execOp a.eval o).runT P w1 #[]=(.ok (.comm #[scase p.arr (.agg v) undef] true .send) w1,#[])){q':Y.bL}(hl:Y.dM q s=(s',v,some q'))(bF:ob=p.ob)(hm:Mm P M w ((p.pb,ob) :: (wl ++ Y.sh s')) [])
  (h:∀ M' w',Mm P M' w' wl [(p.pb,ob)]→aG P false fn kd ops rest Q (nR P Y p n q') M' (a.put o.dst undef) w'):aG P false fn kd ops (i :: rest) Q (dP P Y p n q s) M a w:=by
 refine xg hkd ho hw hrun (mD:=fun S' jj v' ok M' w'=>aG P false fn kd ops rest Q S' M' (a.put o.dst (commResult #[scase p.arr (.agg v) undef] .send jj v' ok)) w') (fun g g2 hcm hcont w1 hrel=>?_) fun _ _ _ _ _ _ h=>h
 obtain ⟨k1,k2,k3⟩:=(hm.rely hrel).rA
 show o7 P Y p (fQ P Y p n) q s M g w1
 unfold o7
 rw [hl]
 exact ⟨g2,hcm,less M (fw Y.B p.pb),Ag k1,fun c hc hn=>hn.2 hc,k2,fun _=>(by rw [← bF];exact (k3.rd _ (List.mem_singleton.2 rfl)).2),fun w2 hr=>hcont _ 0 undef false _ _ (h _ _ (k3.rely hr))⟩
end
section
variable {P:Program}{main:Bool}{f:FuncId}{aD:Func}{R:fu}{S:ai}{M:Nat→Prop}{a:Act}{w:World}
theorem xQ (hfn:P.funcs[f]?=some aD)(ys:Array Value)(kd:CallKind):(Frame.enter P f ys kd).tmps=ys ++ Array.replicate (aD.ntmps - ys.size) undef:=by
 unfold Frame.enter
 simp [hfn]
theorem vG {body:Code}(hfn:P.funcs[f]?=some aD)(hbody:aD.body=some body){N:Nat}(hN:aD.ntmps=N){ys T:Array Value}(hT:ys ++ Array.replicate (N - ys.size) undef=T)(h:aM P main f .normal body (rE P f aD R) S M ⟨T,[]⟩ w):bn P main f ys R S M w :=
 eQ hfn hbody (by rw [xQ hfn,hN,hT];exact h)
theorem mI (h:kH P f aD R S M a w):rE P f aD R .normal S M a w:=h
theorem fT (h:kH P f aD R S M a w):rE P f aD R .ret S M a w:=h
theorem iZ (hr:aD.results=#[])(hd:a.defers=[])(h:∀ w1,ay P M w w1→R (.returned (.tuple #[])) S M w1):kH P f aD R S M a w :=
 ⟨hd,fun w1 hrel=>⟨.tuple #[],M,w1,#[],Prod.ext ((Sem.runT_fst _ _ _ _).trans (results_none hr _ _ _)) (events_results_none hr _ _),dY.idle P M w1,h w1 hrel⟩⟩
theorem Oe {t:Tmp}(hr:aD.results=#[.tmp t])(hd:a.defers=[]){y:Value}(hy:a.tmps.getD t undef=y)(h:∀ w1,ay P M w w1→R (.returned y) S M w1):kH P f aD R S M a w :=
 ⟨hd,fun w1 hrel=>⟨y,M,w1,#[],Prod.ext ((Sem.runT_fst _ _ _ _).trans (hy ▸ results_tmp hr _ _ _)) (events_results_tmp hr _ _),dY.idle P M w1,h w1 hrel⟩⟩
end
end Go.Blind
namespace Go.Blind
open Go.Conc
section
variable {P:Program}{main:Bool}{fn:FuncId}{kd:CallKind}{Q:aZ}{S:ai}{M:Nat→Prop}{a:Act}{w:World}{c:Operand}{x y:Code}
theorem kF (hc:a.eval c=.bool false)(h:aM P main fn kd y Q S M a w):aM P main fn kd (.cond c x y) Q S M a w:=lH (t:=false) hc h
theorem kY (hc:a.eval c=.bool true)(h:aM P main fn kd x Q S M a w):aM P main fn kd (.cond c x y) Q S M a w:=lH (t:=true) hc h
end
def fU {α:Type}(P:Program)(s:Sem α):Prop:=∀ w es,s.events P w es=es
theorem fU.bind {α β:Type}{P:Program}{s:Sem α}{f:α→Sem β}(h:fU P s)(k:∀ a,fU P (f a)):fU P (s >>= f):=fun w es=>by
 rw [Sem.events_bind,h w es]
 cases s.run P w with
 | ok a w'=>exact k a w' es
 | halt _ _=>rfl
theorem fU.map {α β:Type}{P:Program}{s:Sem α}{f:α→β}(h:fU P s):fU P (Functor.map f s):=fun w es=>by
 rw [Sem.events_map,h w es]
theorem fU.list {α β:Type}{P:Program}{f:α→Sem β}(h:∀ a,fU P (f a)):∀ l:List α,fU P (l.mapM f)
 | []=>fun _ _=>by rw [List.mapM_nil];rfl
 | a :: l=>by
  rw [List.mapM_cons]
  exact (h a).bind fun _=>(fU.list h l).bind fun _=>fun _ _=>rfl
theorem Fs (P:Program)(t:TypeId)(parts:Array (Nat×Value)):fU P (Instr.build t parts):=by
 unfold Instr.build
 refine fU.bind (fun w es=>events_zeroValue P w es t) fun z=>fU.bind (fun w es=>events_underlying P w es t) fun d=>?_
 cases d with
 | struct fs =>
  refine fU.bind ?_ fun pl=>?_
  ·rw [Array.mapM_eq_mapM_toList]
   refine fU.map ?_
   refine fU.list (fun f=>?_) _
   refine fU.bind ?_ fun _=>?_
   ·exact fun w es=>events_sizeOf P w es _
   ·exact fun w es=>Sem.events_pure P w es _
  ·split
   ·exact fun _ _=>rfl
   ·exact fun _ _=>rfl
 | array n e =>
  refine fU.bind (fun w es=>events_sizeOf P w es _) fun sz=>?_
  split
  ·exact fun _ _=>rfl
  ·exact fun _ _=>rfl
 | _=>exact fun _ _=>rfl
section
variable {P:Program}{main:Bool}{fn:FuncId}{kd:CallKind}{Q:aZ}{S:ai}{M:Nat→Prop}{a:Act}{w:World}{ops:Array Oper}{i:Nat}{rest:List Nat}{o:Oper}
theorem Og (hkd:kd≠.early)(ho:ops[i]?=some o)(hw:Region.wanted o (yielded ops a.tmps)=true)(t:TypeId)(parts:Array (Nat×Operand))(hop:o.op=.build t parts){vs:List (Nat×Value)}(hv:parts.toList.map (fun q=>(q.1,a.eval q.2))=vs){cells:Array Value}(hb:P.built t vs=some cells)
  (h:aG P main fn kd ops rest Q S M (a.put o.dst (.agg cells)) w):aG P main fn kd ops (i :: rest) Q S M a w:=by
 have e:execOp a.eval o=(do pure (Next.value (← Instr.build t (parts.map fun q=>(q.1,a.eval q.2))))):=by
  unfold execOp
  rw [hop]
 have e2:(parts.map fun q=>(q.1,a.eval q.2)).toList=vs:=by rw [Array.toList_map];exact hv
 refine xn hkd ho hw (v:=.agg cells) (fun w1=>?_) (fun w1=>?_) h
 ·rw [e,Sem.run_bind,run_build w1 t _ cells (by rw [e2];exact hb)]
  rfl
 ·rw [e]
  exact fU.bind (Fs P t _) (fun _ _ _=>rfl) w1 #[]
theorem Oh (d:Nat)(t:TypeId)(pp:Option Addr)(h:P.underlying t=some (.pointer (P.pointee t)))(w1:World)(es:Array Event):(Op.equalIn (d+1) t (.pointer pp) (.pointer none)).events P w1 es=es:=by
 cases pp <;> simp [Op.equalIn,run_underlying h]
theorem Oi (t:TypeId)(pp:Option Addr)(h:P.underlying t=some (.pointer (P.pointee t)))(w1:World)(es:Array Event):(binOp .eql t (.pointer pp) (.pointer none)).events P w1 es=es:=by
 simp only [binOp]
 have h1:(Op.equal t (.pointer pp) (.pointer none)).events P w1 es=es:=Oh 9999 t pp h w1 es
 rw [Sem.events_bind,h1,run_equal_pointer_nil w1 t pp h]
 rfl
theorem xR (hkd:kd≠.early)(ho:ops[i]?=some o)(hw:Region.wanted o (yielded ops a.tmps)=true){t t':TypeId}{x y:Operand}(hop:o.op=.binOp .eql t x y t'){pp:Option Addr}(hx:a.eval x=.pointer pp)(hy:a.eval y=.pointer none)(hu:P.underlying t=some (.pointer (P.pointee t))){b:Bool}(hb:pp.isNone=b)
  (h:aG P main fn kd ops rest Q S M (a.put o.dst (.bool b)) w):aG P main fn kd ops (i :: rest) Q S M a w:=by
 subst hb
 have e:execOp a.eval o=(do pure (Next.value (← (do eqGuard .eql t x y (.pointer pp) (.pointer none);binOp .eql t (.pointer pp) (.pointer none))))):=by
  unfold execOp
  rw [hop,← hx,← hy]
 have g1:∀ w1:World,(eqGuard .eql t x y (.pointer pp) (.pointer none)).run P w1=.ok () w1:=fun w1=>rfl
 have g2:∀ (w1:World) es,(eqGuard .eql t x y (.pointer pp) (.pointer none)).events P w1 es=es:=fun w1 es=>rfl
 refine xn hkd ho hw (v:=.bool pp.isNone) (fun w1=>?_) (fun w1=>?_) h
 ·rw [e,Sem.run_bind,Sem.run_bind,g1 w1]
  show ((binOp .eql t (.pointer pp) (.pointer none)).run P w1).andThen _=_
  rw [run_eql_pointer_nil w1 t pp hu]
  rfl
 ·rw [e,Sem.events_bind,Sem.events_bind,Sem.run_bind,g1 w1,g2 w1 #[]]
  show (((binOp .eql t (.pointer pp) (.pointer none)).run P w1)).evThen ((binOp .eql t (.pointer pp) (.pointer none)).events P w1 #[]) _=_
  rw [Oi t pp hu w1 #[],run_eql_pointer_nil w1 t pp hu]
  rfl
theorem vH (hkd:kd≠.early)(ho:ops[i]?=some o)(hw:Region.wanted o (yielded ops a.tmps)=true){f:FuncId}{aD:Func}{args:Array Operand}{ats:Array TypeId}(hop:o.op=.call { callee:=.value (.func f),args:=args,argTypes:=ats })(hf:P.funcs[f]?=some aD)(hname:(aD.name == "runtime.NumGoroutine")=false)(hb:aD.body.isNone=false){ys:Array Value}(hy:args.map a.eval=ys)
  (h:bn P main f ys (fun e S' M w=>match e with | .returned y=>aG P main fn kd ops rest Q S' M (a.put o.dst y) w | .panicked ch=>Q (.panic ch) S' M a w | .outgrown=>False) S M w):aG P main fn kd ops (i :: rest) Q S M a w :=
 KM hkd ho hw (fun w1=>Prod.ext ((Sem.runT_fst _ _ _ _).trans (by rw [run_call_body hop hf hname hb,hy])) (events_call_body hop hf hname hb #[])) h
end
def o9 (l:List Bool):Nat:=l.countP (fun b=>!b)
theorem Fw:∀ (l:List Bool)(i:Nat),l[i]?=some false→o9 (l.set i true)+1=o9 l
 | [],i,h=>by simp at h
 | b :: l,0,h=>by simp at h;subst h;simp [o9]
 | b :: l,i+1,h=>by
  have:=Fw l i (by simpa using h)
  simp only [o9,List.set_cons_succ,List.countP_cons] at this ⊢
  omega
theorem On {l:List Bool}(h:o9 l=0)(i:Nat)(b:Bool)(hb:l[i]?=some b):b=true:=by
 have h0:=List.countP_eq_zero.1 h b (List.mem_of_getElem? hb)
 simpa using h0
section
variable {P:Program}{main:Bool}{fn:FuncId}{kd:CallKind}{Q:aZ}{ops:Array Oper}
theorem Oo (hac:∀ i o,ops[i]?=some o→∀ e∈o.after,Region.binds .any e=true→e.on < i){l:Array Bool}(hs:l.size=ops.size)(hr:Region.ready .any ops l=[]):∀ i,i < ops.size→l.getD i true=true:=by
 intro i
 induction i using Nat.strongRecOn with
 | _ i ih =>
  intro hi
  cases hl:l.getD i true with
  | true=>rfl
  | false =>
   exfalso
   have hm:i∈Region.ready .any ops l:=by
    refine mem_ready.2 ⟨hl,ops[i],Array.getElem?_eq_getElem hi,fun e he hb=>?_⟩
    have hlt:=hac i _ (Array.getElem?_eq_getElem hi) e he hb
    have:=ih e.on hlt ag
    simp [Array.getD,(by omega:e.on < l.size)] at this ⊢
    exact this
   rw [hr] at hm
   cases hm
theorem Oq (hac:∀ i o,ops[i]?=some o→∀ e∈o.after,Region.binds .any e=true→e.on < i)(I:Array Bool→ai→(Nat→Prop)→Act→World→Prop)(hsz:∀ l S M a w,I l S M a w→l.size=ops.size)
  (hstep:∀ l S M a w,I l S M a w→∀ i∈Region.ready .any ops l,cK P main fn kd ops i (fun S' M' a' w'=>I (l.setIfInBounds i true) S' M' a' w') S M a w)(hend:∀ l S M a w,I l S M a w→(∀ i,i < ops.size→l.getD i true=true)→Q .normal S M a w) :
  ∀ fuel l S M a w,I l S M a w→o9 l.toList≤fuel→xL P main fn kd .any ops Q fuel l S M a w:=by
 intro fuel
 induction fuel with
 | zero =>
  intro l S M a w hI hc
  have hall:∀ i,i < ops.size→l.getD i true=true:=fun i hi=>by
   have hlt:i < l.size:=by rw [hsz l S M a w hI];exact hi
   have:=On (l:=l.toList) ag i l[i] (by simp [hlt])
   simp [Array.getD,hlt,this]
  refine ⟨?_,hend l S M a w hI hall⟩
  rw [List.eq_nil_iff_forall_not_mem]
  intro i hi
  obtain ⟨h1,o,ho,-⟩:=mem_ready.1 hi
  rw [hall i (Array.getElem?_eq_some_iff.1 ho).1] at h1
  cases h1
 | succ fuel ih =>
  intro l S M a w hI hc
  refine ⟨fun hr=>hend l S M a w hI (Oo hac (hsz l S M a w hI) hr),fun i hi=>?_⟩
  refine (hstep l S M a w hI i hi).mono fun S' M' a' w' h'=>ih _ S' M' a' w' h' ?_
  obtain ⟨h1,o,ho,-⟩:=mem_ready.1 hi
  have hlt:i < l.size:=by rw [hsz l S M a w hI];exact (Array.getElem?_eq_some_iff.1 ho).1
  have:=Fw l.toList i (by simp [Array.getD,hlt] at h1;simp [hlt,h1])
  rw [Array.toList_setIfInBounds]
  omega
def on (l:Array Bool)(i:Nat):Bool:=l.getD i false
def waits (ops:Array Oper)(i j:Nat):Bool:=((ops[i]?).map fun o=>o.after.any fun e=>Region.binds .any e && e.on == j).getD false
def Fx (ops:Array Oper)(D:List (Option Nat))(n:Nat):Bool :=
 ops.size == D.length && (List.range ops.size).all (fun i=>match ops[i]? with
  | some o=>o.dst == D.getD i none && o.guard.isNone && (match o.dst with | some d=>decide (d < n) | none=>true) && o.after.all (fun e=>!Region.binds .any e || decide (e.on < i)) &&
   (List.range ops.size).all (fun j=>match ops[j]? with | some o'=>o.dst.isNone || i == j || !(o.dst == o'.dst) | none=>true)
  | none=>false)
theorem xS {l:Array Bool}{i:Nat}(j:Nat)(h:i < l.size):on (l.setIfInBounds i true) j=if i=j then true else on l j:=by
 unfold on
 by_cases e:i=j
 ·subst e;simp [Array.getD,h]
 ·simp [Array.getD_eq_getD_getElem?,e]
theorem eval_put_ne {a:Act}{s d:Nat}{v:Value}(h:s≠d):(a.put (some d) v).tmps[s]?=a.tmps[s]?:=by
 simp only [Act.put]
 rw [Array.getElem?_setIfInBounds_ne (fun e=>h e.symm)]
theorem Fy {a:Act}{d:Nat}{v:Value}(h:d < a.tmps.size):(a.put (some d) v).eval (.tmp d)=v:=by
 simp [Act.put,Act.eval,Array.getD_eq_getD_getElem?,h]
structure Mid (ops:Array Oper)(D:List (Option Nat))(a0:Act)(val:Nat→Value)(l:Array Bool)(a:Act):Prop where
 size:l.size=D.length
 fV:a.tmps.size=a0.tmps.size
 defers:a.defers=a0.defers
 off:∀ s,some s∉D→a.tmps[s]?=a0.tmps[s]?
 val:∀ i d,D.getD i none=some d→on l i=true→a.eval (.tmp d)=val i
theorem jy {id:Nat}{S:ai}{M:Nat→Prop}{a0:Act}{w:World}(hm:P.follows .mixedOrders=true)(D:List (Option Nat))(hok:Fx ops D a0.tmps.size=true){Γ:Type}(val:Γ→Nat→Value)(C:Γ→Array Bool→ai→(Nat→Prop)→World→Prop)(γ0:Γ)
  (h0:∀ w1,ay P M w w1→C γ0 (Array.replicate ops.size false) S M { w1 with drawn:=w1.drawn+1 })
  (hstep:∀ i,i < D.length→∀ γ l S M a w o,ops[i]?=some o→o.guard=none→Mid ops D a0 (val γ) l a→on l i=false→(∀ j,waits ops i j=true→on l j=true)→C γ l S M w →
   cK P main fn kd ops i (fun S' M' a' w'=>∃ γ',a'=a.put o.dst (val γ' i)∧(∀ j,on l j=true→val γ' j=val γ j)∧C γ' (l.setIfInBounds i true) S' M' w') S M a w)
  (hend:∀ γ l S M a w,(∀ i,i < D.length→on l i=true)→Mid ops D a0 (val γ) l a→C γ l S M w→Q .normal S M a w):aM P main fn kd (.region id ops true) Q S M a0 w:=by
 unfold Fx at hok
 simp only [Bool.and_eq_true,beq_iff_eq] at hok
 obtain ⟨hn,hok⟩:=hok
 rw [List.all_eq_true] at hok
 have hat:∀ i o,ops[i]?=some o→i < ops.size∧o.dst=D.getD i none∧o.guard=none∧(∀ d,o.dst=some d→d < a0.tmps.size)∧(∀ e∈o.after,Region.binds .any e=true→e.on < i)∧∀ j o',ops[j]?=some o'→i≠j→∀ d,o.dst=some d→o'.dst≠some d:=by
  intro i o ho
  have hi:=(Array.getElem?_eq_some_iff.1 ho).1
  have:=hok i (List.mem_range.2 hi)
  rw [ho] at this
  simp only [Bool.and_eq_true,beq_iff_eq,Option.isNone_iff_eq_none] at this
  obtain ⟨⟨⟨⟨h1,h2⟩,h3⟩,h4⟩,h5⟩:=this
  refine ⟨hi,h1,h2,fun d e=>?_,fun e he hb=>?_,fun j o' hj hne d e e'=>?_⟩
  ·rw [e] at h3;simpa using h3
  ·rw [Array.all_eq_true] at h4
   obtain ⟨k,hk,rfl⟩:=Array.mem_iff_getElem.1 he
   have:=h4 k hk
   rw [hb] at this
   simpa using this
  ·rw [List.all_eq_true] at h5
   have:=h5 j (List.mem_range.2 (Array.getElem?_eq_some_iff.1 hj).1)
   rw [hj] at this
   simp [e,e',hne] at this
 refine Ny hm fun w1 hr=>?_
 refine Oq (fun i o ho=>(hat i o ho).2.2.2.2.1) (fun l S M a w=>∃ γ,Mid ops D a0 (val γ) l a∧C γ l S M w) (fun l S M a w h=>by obtain ⟨γ,h,_⟩:=h;rw [hn];exact h.size) (fun l S M a w h i hi=>?_) (fun l S M a w h hall=>?_) ops.size _ _ _ _ _ ⟨γ0,⟨by simp [hn],rfl,rfl,fun _ _=>rfl,fun i d _ hh=>?_⟩,h0 w1 hr⟩ ?_
 ·obtain ⟨γ,hM,hC⟩:=h
  obtain ⟨hu,o,ho,hall⟩:=mem_ready.1 hi
  obtain ⟨r1,r2,r3,r4,r5,r6⟩:=hat i o ho
  have hlt:i < l.size:=by rw [hM.size,← hn];exact r1
  have hoi:on l i=false:=by unfold on;simp [Array.getD,hlt] at hu ⊢;exact hu
  refine (hstep i (by rw [← hn];exact r1) γ l S M a w o ho r3 hM hoi (fun j hj=>?_) hC).mono fun S' M' a' w' q=>?_
  ·unfold waits at hj
   rw [ho] at hj
   simp only [Option.map_some,Option.getD_some,Array.any_eq_true,Bool.and_eq_true,beq_iff_eq] at hj
   obtain ⟨k,hk,hb,he⟩:=hj
   rw [← he]
   exact hall _ (Array.getElem_mem hk) hb
  ·obtain ⟨γ',rfl,hv,hC'⟩:=q
   refine ⟨γ',⟨by simp [hM.size],?_,?_,fun s hs=>?_,fun j d hjd hj=>?_⟩,hC'⟩
   ·rw [← hM.fV];cases o.dst <;> simp [Act.put]
   ·rw [← hM.defers];cases o.dst <;> rfl
   ·rw [← hM.off s hs]
    cases hd:o.dst with
    | none=>rfl
    | some d=>exact eval_put_ne fun e=>hs (by
      subst e
      rw [hd] at r2
      have hi2:i < D.length:=by rw [← hn];exact r1
      rw [List.getD_eq_getElem?_getD,List.getElem?_eq_getElem hi2] at r2
      have:=List.getElem_mem hi2
      rw [show D[i]=some _ from r2.symm] at this
      exact this)
   ·by_cases e:i=j
    ·subst e
     rw [← r2] at hjd
     rw [hjd]
     exact Fy (by rw [hM.fV];exact r4 d hjd)
    ·rw [xS j hlt,if_neg e] at hj
     have hold:=hM.val j d hjd hj
     have hjlt:j < ops.size:=by
      rw [hn]
      apply Classical.byContradiction
      intro hx
      rw [List.getD_eq_getElem?_getD,List.getElem?_eq_none ag] at hjd
      cases hjd
     obtain ⟨_,q2,_⟩:=hat j _ (Array.getElem?_eq_getElem hjlt)
     rw [hv j hj,← hold]
     cases hd:o.dst with
     | none=>rfl
     | some d2 =>
      have hne:d≠d2:=fun z=>r6 j _ (Array.getElem?_eq_getElem hjlt) e d2 hd (by rw [q2,hjd,z])
      simp only [Act.eval,Array.getD_eq_getD_getElem?,eval_put_ne hne]
 ·obtain ⟨γ,hM,hC⟩:=h
  refine hend γ l S M a w (fun i hi=>?_) hM hC
  have:=hall i (by rw [hn];exact hi)
  have hlt:i < l.size:=by rw [hM.size];exact hi
  unfold on
  simp [Array.getD,hlt] at this ⊢
  exact this
 ·have hz:on (Array.replicate ops.size false) i=false:=by
   unfold on
   rw [Array.getD_eq_getD_getElem?,Array.getElem?_replicate]
   split <;> rfl
  rw [hz] at hh
  cases hh
 ·have:∀ n,o9 (List.replicate n false)≤n:=fun n=>by
   have:=List.countP_le_length (p:=fun b=>!b) (l:=List.replicate n false)
   simpa [o9] using this
  simpa using this ops.size
end
end Go.Blind

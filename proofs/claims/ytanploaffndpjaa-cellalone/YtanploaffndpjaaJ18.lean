/- Of the proof. -/
import Derived.Test.YtanploaffndpjaaJ17
set_option maxRecDepth 100000
set_option linter.unusedSimpArgs false
set_option linter.unusedVariables false
namespace Go.Blind
open Go.Conc Go.RowKit
section
variable {P:Program}{Y:aN}{arr:Nat}{s:Ring}{ws:List (Wk Y)}
theorem dD.jv (h:dD P Y arr s ws)(hout:∀ i,s.size≤i→s.O i=none):dN s.C s.O:=by
 refine ⟨fun i cs sh e=>?_,fun i l iU jM jq shl a b hil hi hl ha hb hs hr hc=>?_⟩
 ·obtain ⟨l,k,_,hk,rfl,_⟩:=h.who hout e
  exact h.plain hk
 ·obtain ⟨_,k,_,hk,rfl,_⟩:=h.who hout hi
  rcases nW ha with rfl | rfl <;> cases hs
theorem dD.hire (h:dD P Y arr s ws){p:Post}(hp:p.arr=arr){eD:List Nat}(hch:eD.Perm (p.tn :: p.ov :: s.ch))(E:Env)(n:Nat)(q:Y.bL):dD P Y arr (({ s with ch:=eD,E:=E }:Ring).hire (some (p.fA,.select)) (fQ P Y p n q)) (ws ++ [⟨p,some q,n⟩]):=by
 have hsz:=h.size
 have split:∀ (i:Nat) k,(ws ++ [(⟨p,some q,n⟩:Wk Y)])[i]?=some k→(i < ws.length∧ws[i]?=some k)∨(i=ws.length∧k=⟨p,some q,n⟩):=fun i k e=>by
  by_cases hi:i < ws.length
  ·rw [List.getElem?_append_left hi] at e
   exact .inl ⟨hi,e⟩
  ·rw [List.getElem?_append_right ag] at e
   have:i - ws.length=0:=by
    have:=(List.getElem?_eq_some_iff.1 e).1
    simp at this;omega
   rw [this] at e
   cases e
   exact .inr ⟨ag,rfl⟩
 have Be:∀ c,c∈s.ch→c∈eD:=fun c hc=>hch.mem_iff.2 (List.mem_cons_of_mem _ (List.mem_cons_of_mem _ hc))
 refine ⟨?_,?_,fun i k q' hi hq=>?_,fun i k hi hq=>?_,fun k hk=>?_,⟨Be _ h.mem.1,fun k hk=>?_⟩,fun hnd=>?_⟩
 ·show s.size+1=_
  rw [hsz,List.length_append];rfl
 ·show bN s.O s.size _ 0=none
  rw [dz _ _ ag];exact h.zero
 ·rcases split i k hi with ⟨hl,e⟩ | ⟨hl,rfl⟩
  ·obtain ⟨z1,z2⟩:=h.seat i k q' e hq
   exact ⟨(dz _ _ (by show i+1≠s.size;omega)).trans z1,(dz _ _ (by show i+1≠s.size;omega)).trans z2⟩
  ·cases hq
   subst hl
   have e:ws.length+1=s.size:=hsz.symm
   rw [e]
   exact ⟨eu _ _ _,eu _ _ _⟩
 ·rcases split i k hi with ⟨hl,e⟩ | ⟨hl,rfl⟩
  ·exact (dz _ _ (by show i+1≠s.size;omega)).trans (h.gone i k e hq)
  ·cases hq
 ·rcases List.mem_append.1 hk with q1 | q1
  ·exact h.vL k q1
  ·rw [List.mem_singleton.1 q1];exact hp
 ·rcases List.mem_append.1 hk with q1 | q1
  ·exact ⟨Be _ (h.mem.2 k q1).1,Be _ (h.mem.2 k q1).2⟩
  ·rw [List.mem_singleton.1 q1]
   exact ⟨hch.mem_iff.2 ah,hch.mem_iff.2 ah⟩
 ·have hnd:(p.tn :: p.ov :: s.ch).Nodup:=hch.nodup_iff.1 hnd
  obtain ⟨d1,d2⟩:=List.nodup_cons.1 hnd
  obtain ⟨d3,d4⟩:=List.nodup_cons.1 d2
  have hA:=h.apart d4
  refine ⟨fun i k hi=>?_,fun i l k1 k2 hil h1 h2=>?_⟩
  ·rcases split i k hi with ⟨hl,e⟩ | ⟨hl,rfl⟩
   ·exact hA.own i k e
   ·exact ⟨fun e=>d1 (by rw [show p.tn=p.ov from e];simp),fun e=>d1 (List.mem_cons_of_mem _ (by rw [show p.tn=arr from e];exact h.mem.1)),fun e=>d3 (by rw [show p.ov=arr from e];exact h.mem.1)⟩
  ·rcases split i k1 h1 with ⟨l1,e1⟩ | ⟨l1,rfl⟩
   ·rcases split l k2 h2 with ⟨l2,e2⟩ | ⟨l2,rfl⟩
    ·exact hA.two i l k1 k2 hil e1 e2
    ·have hm:=h.mem.2 k1 (List.mem_of_getElem? e1)
     exact ⟨fun e=>d1 (List.mem_cons_of_mem _ (by rw [← show k1.p.tn=p.tn from e];exact hm.1)),fun e=>d3 (by rw [← show k1.p.tn=p.ov from e];exact hm.1)⟩
   ·rcases split l k2 h2 with ⟨l2,e2⟩ | ⟨l2,rfl⟩
    ·have hm:=h.mem.2 k2 (List.mem_of_getElem? e2)
     exact ⟨fun e=>d1 (List.mem_cons_of_mem _ (by rw [show p.tn=k2.p.tn from e];exact hm.1)),fun e=>d1 (List.mem_cons_of_mem _ (by rw [show p.tn=k2.p.ov from e];exact hm.2))⟩
    ·exact absurd (l1.trans l2.symm) hil
end
section
variable {P:Program}{M:Nat→Prop}{w:World}{l1 l2 r:List (Nat×Obj)}{pb:Nat}{o:Obj}
theorem RV {Fin:bH}{s:Ring}{fn:FuncId}{kd:CallKind}{Q:aZ}{a:Act}{ops:Array Oper}{i:Nat}{rest:List Nat}{d:Option Tmp}{b:aJ}{kk:Nat}(hG:s.E=(GH b kk 0).env P)(hkd:kd≠.early){x:Operand}{args:Array Operand}{ats:Array TypeId}(hi:aV ops i d (.go { callee:=.value x,args:=args,argTypes:=ats })){f:Fn}{vs us ys:Array Value}(hx:a.eval x=.func f vs us)(hy:args.map a.eval=ys)
  {O':Option (Array CommCase×CommShape)}{H':ai}(fit:s.Ok P→dN s.C (bN s.O s.size O'))(oh oc:Nat→Prop)(h1:∀ b,oh b→M b)(h2:∀ b,oc b→M b)(h3:∀ b,oh b→oc b→False)
  (child:∀ w1,ay P M w w1→aj P false (dm P s.E (bN s.O s.size O') (bN s.Home s.size H') 7 s.size) oc (ax (floor P [⟨.fn f us,vs ++ ys⟩]) []) w1)
  (h:∀ w1,ay P M w w1→aG P true fn kd ops rest Q (aK P Fin (s.hire O' H')) oh (a.put d undef) w1):aG P true fn kd ops (i :: rest) Q (aK P Fin s) M a w:=by
 obtain ⟨o,ho,rfl,hop,hw⟩:=hi.at a
 exact NN hG hkd ho hw (fun e=>by cases e) (QF hop hx hy) fit oh oc h1 h2 h3 child h
theorem RX {α:Type}{X A N B:List α}:(X ++ (A ++ N) ++ B).Perm (A ++ (B ++ (X ++ N))) :=
 (List.perm_append_comm).trans (((List.perm_append_comm_assoc X A N).append_left B).trans (List.perm_append_comm_assoc B A (X ++ N)))
theorem ay.less {N F:Nat→Prop}{w w1:World}(h:ay P N w w1):ay P (less N F) w w1:=⟨h.size,fun b hb=>h.mine b (hb.imp (·.1) (·.1)),h.aX,h.env⟩
theorem RY {α:Type}{A R E N Z:List α}{x5 x6 x7 x9 xp xb:α}:(A ++ ([x5,x6,x7,x9] ++ ((R ++ E) ++ N) ++ [xp,xb] ++ Z)).Perm ((x5 :: xb :: x6 :: x7 :: x9 :: R) ++ xp :: (A ++ (E ++ (N ++ Z)))):=by
 classical
 exact List.perm_iff_count.2 fun a=>by
  simp only [List.count_append,List.count_cons,List.count_nil]
  omega
theorem RZ {α:Type}{A E N Z:List α}{xb xs:α}:(A ++ (E ++ ((N ++ Z) ++ [xb,xs]))).Perm (((E ++ [xs]) ++ (A ++ (N ++ [xb]))) ++ Z):=by
 classical
 exact List.perm_iff_count.2 fun a=>by
  simp only [List.count_append,List.count_cons,List.count_nil]
  omega
def taken (l1:List (Nat×Obj))(pb:Nat):Nat→Prop:=fun c=>c / 2∈l1.map Prod.fst∨c=2 * pb
theorem H6 (h:Mm P M w (l1 ++ (pb,o) :: l2) r):(∀ c,taken l1 pb c→M c)∧Mm P (taken l1 pb) w l1 [(pb,o)]∧Mm P (less M (taken l1 pb)) w l2 ((pb,o) :: r)∧less M (taken l1 pb) (2 * pb+1)∧∀ y∈r,∀ c,c / 2=y.1→M c→less M (taken l1 pb) c:=by
 have hn:=h.nodup
 simp only [List.map_append,List.map_cons,List.append_assoc,List.cons_append] at hn
 obtain ⟨n1,n2,n3⟩:=List.nodup_append.1 hn
 obtain ⟨m1,m2⟩:=List.nodup_cons.1 n2
 have hpb:=h.own (pb,o) ah
 have ho:∀ x∈l1,full M x.1∧w.heap[x.1]?=some x.2:=fun x hx=>h.own x (by simp [hx])
 have h2:∀ x∈l2,full M x.1∧w.heap[x.1]?=some x.2:=fun x hx=>h.own x (by simp [hx])
 have hp1:pb∉l1.map Prod.fst:=fun z=>n3 _ z pb ah rfl
 have away:∀ y:Nat,y∈l2.map Prod.fst ++ r.map Prod.fst→∀ c,c / 2=y→¬ taken l1 pb c:=fun y hy c e z=>by
  rcases z with z | z
  ·exact n3 _ z y (List.mem_cons_of_mem _ hy) e
  ·exact m1 (by rw [show pb=y by omega];exact hy)
 refine ⟨fun c hc=>?_,⟨fun x hx=>⟨⟨.inl ?_,.inl ?_⟩,(ho x hx).2⟩,fun x hx=>?_,fun c hc=>?_,h.aX,h.base,?_⟩,⟨fun x hx=>?_,fun x hx=>?_,fun c hc=>h.low c hc.1,h.aX,h.base,?_⟩,?_,fun y hy c e hc=>⟨hc,away _ (bR ((List.mem_map_of_mem hy))) c e⟩⟩
 ·rcases hc with z | rfl
  ·obtain ⟨x,hx,e⟩:=List.mem_map.1 z
   exact oI (ho x hx).1 e.symm
  ·exact hpb.1.1
 ·rw [show 2 * x.1 / 2=x.1 by omega];exact List.mem_map_of_mem hx
 ·rw [show (2 * x.1+1) / 2=x.1 by omega];exact List.mem_map_of_mem hx
 ·rw [List.mem_singleton.1 hx]
  exact ⟨.inl (.inr rfl),hpb.2⟩
 ·rcases hc with z | rfl
  ·obtain ⟨x,hx,e⟩:=List.mem_map.1 z
   rw [← e]
   exact (Array.getElem?_eq_some_iff.1 (ho x hx).2).1
  ·rw [show 2 * pb / 2=pb by omega]
   exact (Array.getElem?_eq_some_iff.1 hpb.2).1
 ·rw [List.map_append]
  exact List.nodup_append.2 ⟨n1,ah,fun x hx y hy e=>hp1 (by
   have:y=pb:=by simpa using hy
   rw [← this,← e];exact hx)⟩
 ·have hx':=h2 x hx
  have hi:x.1∈l2.map Prod.fst ++ r.map Prod.fst:=aO ((List.mem_map_of_mem hx))
  exact ⟨⟨⟨hx'.1.1,away _ hi _ ag⟩,⟨hx'.1.2,away _ hi _ ag⟩⟩,hx'.2⟩
 ·rcases List.mem_cons.1 hx with rfl | hx
  ·refine ⟨.inr ⟨hpb.1.2,fun z=>?_⟩,hpb.2⟩
   rcases z with z | z
   ·rw [show (2 * pb+1) / 2=pb by omega] at z;exact hp1 z
   ·simp only at z;omega
  ·have hx':=h.rd x hx
   have hi:x.1∈l2.map Prod.fst ++ r.map Prod.fst:=bR ((List.mem_map_of_mem hx))
   exact ⟨hx'.1.imp (fun z=>⟨z,away _ hi _ ag⟩) fun z=>⟨z,away _ hi _ ag⟩,hx'.2⟩
 ·rw [List.map_append,List.map_cons]
  exact (List.perm_middle).nodup_iff.2 n2
 ·refine ⟨hpb.1.2,fun z=>?_⟩
  rcases z with z | z
  ·rw [show (2 * pb+1) / 2=pb by omega] at z;exact hp1 z
  ·omega
end
end Go.Blind
namespace Go.Proofs.Ytanploaffndpjaa
open Go Go.Blind Go.Conc
theorem R3:Try.f26.body=some (.seq (.region 0 (opsOf 0 Try.f26.body) false) (.seq (.region 1 (opsOf 1 Try.f26.body) true) (.seq (.region 2 (opsOf 2 Try.f26.body) true) (.seq (.region 3 (opsOf 3 Try.f26.body) false) (.region 4 (opsOf 4 Try.f26.body) false))))):=by kernel_rfl
structure HA (Y:aN)(Fin:bH)(s:Ring)(b:aJ)(arr:Nat)(v:Value)(A:List (Nat×Obj))(bs:List (Bq Y))(σ:Y.σ)(E:List (Nat×Obj))(S:ai)(M:Nat→Prop)(w:World):Prop where
 stop:S=aK Try.prog Fin s
 hE:s.E=(GH b bs.length 0).env Try.prog
 fine:b.dL
 q2:b.q=2
 sz:b.c.size=5
 c0:b.c[0]?=some v
 row:Row 116 1 v bs.length (bs.map fun x=>.pointer (some ⟨x.k.bb,0,none⟩)) A
 c1:b.c[1]?=some (.chan (some arr))
 c4:b.c[4]?=some (.int .i64 ((0:Nat):Int))
 qL:dD Try.prog Y arr s (bs.map Bq.w)
 ok:∀ x∈bs,x.Ok b.R
 mem:Mm Try.prog M w ((E ++ (A ++ bs.flatMap Bq.mem)) ++ Y.sh σ) (halves bs)
 half:∀ x∈bs,x.w.st.isSome=true→M (2 * x.w.p.pb+1)
def pJ {Y:aN}(cs:List Y.Call)(halt:Int)(n:Nat):Pb Y:=⟨(cs.length:Nat),halt,0,0,0,false,0,[],some (none,cs),n⟩
section
variable {Y:aN}{Fin:bH}{s:Ring}{b:aJ}{arr:Nat}{v:Value}{A:List (Nat×Obj)}{bs:List (Bq Y)}{σ:Y.σ}{E rest:List (Nat×Obj)}{S:ai}{M:Nat→Prop}{w:World}{k:Int}{t:TypeId}{vd rc:Value}{f:FuncId}{aD:Func}{enc:Y.Call→List Value}{cs:List Y.Call}{halt:Int}{n:Nat}{ad:Option Addr}{cp:Nat}
theorem R4 {l:List (Nat×Obj)}{vc:Value}(h:sN enc vc rest cs):sN enc vc (l ++ rest) cs:=by
 cases cs with
 | nil=>exact h
 | cons c cs =>
  obtain ⟨cb,off,cap,cc,eC,fz,i2,h1,h2,h3,h4⟩:=h
  refine ⟨cb,off,cap,cc,eC,fz,l.length+i2,h1,h2,?_,h4⟩
  rw [List.getElem?_append_right ag]
  simpa using h3
theorem R5 (gW:∀ p:Post,p.q=2→p.ob=aR p false false→∀ wb,pE Y p wb k t vd rc f aD enc)(h:HA Y Fin s b arr v A bs σ (rest ++ E) S M w)(hcs:cs≠[])(hv:sN enc (.slice ad cs.length cp) rest cs)(hlen:bs.length < 90) :
  bn Try.prog true 26 #[.pointer (some ⟨b.R,0,none⟩),.int .i64 k,.slice ad cs.length cp,.int .i64 halt,.iface t vd] (fun e S' M' w'=>e=.returned (.tuple #[])∧∃ s' b' v' A' x' E',x'.pure=pJ cs halt n∧b'.R=b.R∧b'.n=b.n∧HA Y Fin s' b' arr v' A' (bs ++ [x']) σ (E ++ E') S' M' w') S M w:=by
 obtain ⟨hS,hE,hf,hq,hz,hv0,hrow,hv1,hv4,hcr,hok,hm,jW⟩:=h
 subst hS
 refine eQ Try.func26 R3 ?_
 obtain ⟨a,ha,hs,hd,he⟩:=entered Try.func26 #[.pointer (some ⟨b.R,0,none⟩),.int .i64 k,.slice ad cs.length cp,.int .i64 halt,.iface t vd] .normal (N:=39) rfl (by show 5≤39;decide)
 have h0:=he 0 _ rfl
 have h1:=he 1 _ rfl
 have h2:=he 2 _ rfl
 have h3:=he 3 _ rfl
 have h4:=he 4 _ rfl
 rw [← ha]
 clear ha he
 refine ak (kG [0,1,2,3] (je ae (d:=some 5) (t:=88) (x:=.tmp 0) eI (cells:=#[.pointer (some ⟨b.R,0,none⟩)]) ((congrArg Value.cells (show _=.pointer (some ⟨b.R,0,none⟩) from h0)).trans rfl) hm fun b5 w hm=>?_))
 refine je ae (d:=some 6) (t:=3) (x:=.tmp 1) eI (cells:=#[.int .i64 k]) ((congrArg Value.cells (show _=.int .i64 k from eV)).trans rfl) hm fun b6 w hm=>?_
 refine je ae (d:=some 7) (t:=22) (x:=.tmp 2) eI (cells:=#[.slice ad cs.length cp]) ((congrArg Value.cells (show _=.slice ad cs.length cp from eV)).trans rfl) hm fun b7 w hm=>?_
 refine je ae (d:=some 9) (t:=86) (x:=.tmp 4) eI (cells:=#[.iface t vd]) ((congrArg Value.cells (show _=.iface t vd from eV)).trans rfl) hm fun b9 w hm=>?_
 refine aA ?_
 have hm:Mm Try.prog _ _ (A ++ ([(b5,jV b.R),(b6,jS k),(b7,dV (.slice ad cs.length cp)),(b9,jT t vd)] ++ ((rest ++ E) ++ (bs.flatMap Bq.mem ++ Y.sh σ)))) (halves bs):=hm.perm (by
  have:=RX (X:=rest ++ E) (A:=A) (N:=bs.flatMap Bq.mem ++ Y.sh σ) (B:=[(b5,jV b.R),(b6,jS k),(b7,dV (.slice ad cs.length cp)),(b9,jT t vd)])
  simp only [List.append_assoc,List.cons_append,List.nil_append] at this ⊢
  exact this)
 refine ak (QG (b5:=b5) (kk:=bs.length) bJ eV hE hf hq hv1 ah hm fun a1 w M1 c1 c2 pb bp eD hs1 hd1 hk1 h10 hch fC hm=>?_)
 have g5:a1.eval (.tmp 5)=.pointer (some ⟨b5,0,none⟩):=(hk1 5 ae).trans eV
 have g6:a1.eval (.tmp 6)=.pointer (some ⟨b6,0,none⟩):=(hk1 6 ae).trans eV
 have g7:a1.eval (.tmp 7)=.pointer (some ⟨b7,0,none⟩):=(hk1 7 ae).trans eV
 have g9:a1.eval (.tmp 9)=.pointer (some ⟨b9,0,none⟩):=(hk1 9 ae).trans eV
 have g3:a1.eval (.tmp 3)=.int .i64 halt:=(hk1 3 ae).trans eV
 have gd:a1.defers=[]:=hd1.trans bJ
 clear hk1 hd1 h0 h1 h2 h3 h4 hs hd
 refine ak (RS (s:={ s with ch:=eD }) (A:=A) (b5:=b5) (b7:=b7) (bp:=bp) (pb:=pb) (kk:=bs.length) (n:=bs.length) (len:=cs.length) (ad:=ad) (cp:=cp) (pO:=iA c1 c2 arr) hs1 g5 g7 h10 g3 hE hf hq hz hv0 (L:=[(b5,jV b.R),(b6,jS k),(b7,dV (.slice ad cs.length cp)),(b9,jT t vd)] ++ ((rest ++ E) ++ (bs.flatMap Bq.mem ++ Y.sh σ)) ++ [(pb,iA c1 c2 arr),(bp,kV (.pointer (some ⟨pb,0,none⟩)))]) ah ah ah ah hrow ag (hm.perm (List.Perm.of_eq (by simp only [List.append_assoc]))) fun a2 w M2 bb sb v' A' hs2 hd2 hk2 dF hlt hrow' hm=>?_)
 replace g5:=(hk2 5 ae).trans g5
 replace g6:=(hk2 6 ae).trans g6
 replace g7:=(hk2 7 ae).trans g7
 replace g9:=(hk2 9 ae).trans g9
 replace h10:=(hk2 10 ae).trans h10
 replace gd:=hd2.trans gd
 clear hk2 hd2 g3
 obtain ⟨j5,pG⟩:∃ j5:Nat,((A' ++ ([(b5,jV b.R),(b6,jS k),(b7,dV (.slice ad cs.length cp)),(b9,jT t vd)] ++ ((rest ++ E) ++ (bs.flatMap Bq.mem ++ Y.sh σ)) ++ [(pb,iA c1 c2 arr),(bp,kV (.pointer (some ⟨pb,0,none⟩)))] ++ [(bb,bD pb cs.length halt 0 0 0 false (.slice none 0 0)),(sb,.cells #[.pointer (some ⟨bb,0,none⟩)] 116 (0,0))])) ++ halves bs)[j5]?=some (b5,jV b.R):=List.mem_iff_getElem?.1 ah
 refine ak (kG [0,1,2,3] (kL (d:=some 34) (t:=88) (x:=.tmp 5) (n:=j5) (b:=b5) (k:=0) g5 hm pG (v:=.pointer (some ⟨b.R,0,none⟩)) rfl fun w hm=>?_))
 refine kN 35 34 hm fun w hm=>kP (fo:=2) (off:=0) 36 99 35 2 hm fun w hm=>kC (d:=some 37) (args:=#[.tmp 36,.const (.int .i64 1)]) (ats:=#[97,3]) Try.func37 (ys:=#[.pointer (some ⟨b.R,2,none⟩),.int .i64 1]) (by simp only [List.map_toArray,List.map_cons,List.map_nil];exact tK eV rfl) (EZ (bG (Nt Try.Au (R:=b.R) (q:=2)) fun e S' M3 w3 hq3=>?_) (by have:=NG (P:=Try.prog) (Fin:=Fin) (s:={ s with ch:=eD }) (b:=b.set 0 v') (k:=bs.length) (vO hf _ _) ag;rw [show (b.set 0 v').q=2 from hq] at this;exact this))
 obtain ⟨rfl,rfl,rfl,rfl⟩:=hq3
 refine aA (kG [0,1] (kR (d:=some 38) (Ar (fn:=.func 38) (first:=#[]) (cap:=#[.tmp 5,.tmp 10,.tmp 6,.tmp 7,.tmp 9]) (vs:=#[]) (us:=#[.pointer (some ⟨b5,0,none⟩),.pointer (some ⟨bp,0,none⟩),.pointer (some ⟨b6,0,none⟩),.pointer (some ⟨b7,0,none⟩),.pointer (some ⟨b9,0,none⟩)]) (by simp only [List.map_toArray,List.map_nil]) (by simp only [List.map_toArray,List.map_cons,List.map_nil];exact Rf eV eV eV eV eV)) hm fun w hm=>?_))
 have H7:Mm Try.prog _ _ (((b5,jV b.R) :: (bp,kV (.pointer (some ⟨pb,0,none⟩))) :: (b6,jS k) :: (b7,dV (.slice ad cs.length cp)) :: (b9,jT t vd) :: rest) ++ (pb,iA c1 c2 arr) :: (A' ++ (E ++ ((bs.flatMap Bq.mem ++ Y.sh σ) ++ [(bb,bD pb cs.length halt 0 0 0 false (.slice none 0 0)),(sb,.cells #[.pointer (some ⟨bb,0,none⟩)] 116 (0,0))])))) (halves bs):=hm.perm RY
 obtain ⟨t1,t2,t3,t4,t5⟩:=H6 H7
 have hcn:=hcr.hire (p:=(⟨c1,c2,arr,pb,b.R,2,iA c1 c2 arr⟩:Post)) rfl hch ((GH (b.set 0 v') (bs.length+1) 0).env Try.prog) n (none,cs)
 have hsz:s.size=bs.length+1:=by rw [hcr.size,List.length_map]
 refine RV (s:=({ s with ch:=eD,E:=(GH (b.set 0 v') (bs.length+1) 0).env Try.prog }:Ring)) (b:=b.set 0 v') (kk:=bs.length+1) rfl ae (d:=none) (x:=.tmp 38) (args:=#[]) (ats:=#[]) eI (f:=.func 38) (vs:=#[]) (us:=#[.pointer (some ⟨b5,0,none⟩),.pointer (some ⟨bp,0,none⟩),.pointer (some ⟨b6,0,none⟩),.pointer (some ⟨b7,0,none⟩),.pointer (some ⟨b9,0,none⟩)]) (ys:=#[]) eV (by simp only [List.map_toArray,List.map_nil]) (O':=some ((⟨c1,c2,arr,pb,b.R,2,iA c1 c2 arr⟩:Post).fA,.select)) (H':=fQ Try.prog Y (⟨c1,c2,arr,pb,b.R,2,iA c1 c2 arr⟩:Post) n (none,cs)) (fun hok=>hcn.jv fun i hi=>?_) (less _ (taken ((b5,jV b.R) :: (bp,kV (.pointer (some ⟨pb,0,none⟩))) :: (b6,jS k) :: (b7,dV (.slice ad cs.length cp)) :: (b9,jT t vd) :: rest) pb)) (taken ((b5,jV b.R) :: (bp,kV (.pointer (some ⟨pb,0,none⟩))) :: (b6,jS k) :: (b7,dV (.slice ad cs.length cp)) :: (b9,jT t vd) :: rest) pb) (fun _ h=>h.1) t1 (fun _ h1 h2=>h1.2 h2) (fun w1 hr=>?_) (fun w1 hr=>?_)
 ·have hi:s.size+1≤i:=hi
  show bN s.O s.size _ i=none
  rw [dz _ _ ag]
  exact hok.out i (show s.size≤i by omega)
 ·have hmw:=(H6 (H7.rely hr)).2.1
  refine Kw (f:=38) (xs:=#[.pointer (some ⟨b5,0,none⟩),.pointer (some ⟨bp,0,none⟩),.pointer (some ⟨b6,0,none⟩),.pointer (some ⟨b7,0,none⟩),.pointer (some ⟨b9,0,none⟩)]) (fun w=>(F3 Try.func38 af af w).trans ah) (fun _ e=>by cases e) (fun e=>by cases e) ?_
  refine (child (p:=(⟨c1,c2,arr,pb,b.R,2,iA c1 c2 arr⟩:Post)) (k:=k) (n:=n) (cs:=cs) (rest:=rest) (S:=nR Try.prog Y (⟨c1,c2,arr,pb,b.R,2,iA c1 c2 arr⟩:Post) n (none,cs)) rfl (gW (⟨c1,c2,arr,pb,b.R,2,iA c1 c2 arr⟩:Post) rfl rfl) rfl (R4 (l:=[(b5,jV b.R),(bp,kV (.pointer (some ⟨pb,0,none⟩))),(b6,jS k),(b7,dV (.slice ad cs.length cp)),(b9,jT t vd)]) hv) rfl ?_).mono fun M' g' w' hs=>?_
  ·unfold Av
   rw [if_neg (by cases cs with | nil=>exact absurd rfl hcs | cons=>simp)]
   exact ⟨rfl,hmw⟩
  ·obtain ⟨g2,hcm,hs⟩:=hs
   refine .inl ⟨_,_,g2,eu _ _ _,?_,by rw [eu];exact hs⟩
   have e0:(s.size == 0)=false:=by rw [hsz];rfl
   show nH Try.prog (s.size == 0) _ _ _ _
   rw [e0]
   exact hcm
 ·refine aA (mI (iZ rfl (by simp only [bO,bV];exact gd) fun w2 hr2=>⟨rfl,({ s with ch:=eD,E:=(GH (b.set 0 v') (bs.length+1) 0).env Try.prog }:Ring).hire (some ((⟨c1,c2,arr,pb,b.R,2,iA c1 c2 arr⟩:Post).fA,.select)) (fQ Try.prog Y (⟨c1,c2,arr,pb,b.R,2,iA c1 c2 arr⟩:Post) n (none,cs)),b.set 0 v',v',A',⟨⟨bb,pb,(cs.length:Nat),halt,0,0,0,false,.slice none 0 0⟩,⟨(⟨c1,c2,arr,pb,b.R,2,iA c1 c2 arr⟩:Post),some (none,cs),n⟩,0,[],[]⟩,[(sb,.cells #[.pointer (some ⟨bb,0,none⟩)] 116 (0,0))],rfl,rfl,rfl,⟨rfl,?_,vO hf _ _,hq,?_,?_,?_,?_,?_,?_,?_,?_,?_⟩⟩))
  ·rw [List.length_append];rfl
  ·show (b.c.setIfInBounds 0 _).size=5
   rw [Array.size_setIfInBounds];exact hz
  ·show (b.c.setIfInBounds 0 _)[0]?=_
   rw [Array.getElem?_setIfInBounds_self_of_lt ag]
  ·rw [List.length_append,List.map_append]
   exact hrow'
  ·show (b.c.setIfInBounds 0 _)[1]?=_
   rw [Array.getElem?_setIfInBounds_ne ae];exact hv1
  ·show (b.c.setIfInBounds 0 _)[4]?=_
   rw [Array.getElem?_setIfInBounds_ne ae];exact hv4
  ·rw [List.map_append]
   exact hcn
  ·intro x hx
   rcases List.mem_append.1 hx with q | q
   ·exact hok x q
   ·rw [List.mem_singleton.1 q]
    exact ⟨rfl,hlt,⟨rfl,.inl ⟨rfl,rfl,rfl⟩⟩,rfl,rfl,rfl⟩
  ·have mO:=t3.rely ((ay.less hr).trans hr2)
   refine vT (mO.perm ?_) ?_
   ·rw [List.flatMap_append]
    exact RZ
   ·unfold halves
    rw [List.flatMap_append]
    exact (List.perm_append_comm (l₁:=[(pb,iA c1 c2 arr)]))
  ·intro x hx hs
   rcases List.mem_append.1 hx with q | q
   ·exact t5 (x.w.p.pb,x.w.p.ob) (List.mem_flatMap.2 ⟨x,q,yo hs⟩) _ (by show (2 * x.w.p.pb+1) / 2=x.w.p.pb;omega) (dF _ (fC _ (.inl (.inl (.inl (.inl (jW x q hs)))))))
   ·rw [List.mem_singleton.1 q]
    exact t4
end
end Go.Proofs.Ytanploaffndpjaa
namespace Go.Proofs.Ytanploaffndpjaa
open Go Go.Blind Go.Conc
theorem R6 {α β:Type}{enc:α→List β}{k:Nat}(h:∀ c,(enc c).length=k)(cs:List α):(cs.flatMap enc).length=cs.length * k:=by
 induction cs with
 | nil=>simp
 | cons c cs ih=>rw [List.flatMap_cons,List.length_append,ih,h,List.length_cons,Nat.succ_mul,Nat.add_comm]
theorem Bf {α β:Type}{enc:α→List β}{k:Nat}(h:∀ c,(enc c).length=k):∀ (cs:List α)(i j:Nat)(x:α),cs[i]?=some x→j < k→(cs.flatMap enc)[i * k+j]?=(enc x)[j]?
 | [],i,j,x,e,_=>by simp at e
 | c :: cs,0,j,x,e,hj=>by
  cases e
  rw [List.flatMap_cons,Nat.zero_mul,Nat.zero_add,List.getElem?_append_left (by rw [h];exact hj)]
 | c :: cs,i+1,j,x,e,hj=>by
  rw [List.flatMap_cons,List.getElem?_append_right (by rw [h,Nat.succ_mul];omega),h,show (i+1) * k+j - k=i * k+j by rw [Nat.succ_mul];omega]
  exact Bf h cs i j x (by simpa using e) hj
structure Bg {Y:aN}(enc:Y.Call→List Value):Prop where
 len:∀ c,(enc c).length=5
 nil:∀ c,(enc c)[4]?=some (.slice none 0 0)
 one:∀ c,∀ u∈enc c,u.oneCell'=true
def iN (wv tv:Value):Obj:=.cells #[wv,tv,.slice none 0 0,.int .i64 0] 39 (0,0)
def H9:List (Option Nat):=[some 28,some 29,some 30,some 31,some 32,some 33,some 34,some 35,some 36,some 37]
abbrev Gr:Type:=Nat×Nat×Array Value
def pK (R b2 i cb len cap:Nat)(t:TypeId)(vd:Value)(γ:Gr):Nat→Value
 | 0=>.pointer (some ⟨R,0,none⟩)
 | 1=>.int .i64 (i:Nat)
 | 2=>.slice (some ⟨cb,0,none⟩) len cap
 | 3=>.slice (some ⟨γ.1,0,none⟩) len γ.2.1
 | 4=>.pointer (some ⟨b2,2,none⟩)
 | 5=>.slice none 0 0
 | 6=>.int .i64 (i:Nat)
 | 7=>.int .i64 0
 | 8=>.iface t vd
 | _=>.tuple #[]
section
variable {Y:aN}{Fin:bH}{s:Ring}{b:aJ}{arr:Nat}{v:Value}{A:List (Nat×Obj)}{bs:List (Bq Y)}{σ:Y.σ}{E:List (Nat×Obj)}{S:ai}{M:Nat→Prop}{w:World}
theorem HA.with (h:HA Y Fin s b arr v A bs σ E S M w){w1:World}{M':Nat→Prop}{E':List (Nat×Obj)}(hu:∀ c,M c→M' c)(hm:Mm Try.prog M' w1 ((E' ++ (A ++ bs.flatMap Bq.mem)) ++ Y.sh σ) (halves bs)):HA Y Fin s b arr v A bs σ E' S M' w1:=⟨h.stop,h.hE,h.fine,h.q2,h.sz,h.c0,h.row,h.c1,h.c4,h.qL,h.ok,hm,fun x hx hs=>hu _ (h.half x hx hs)⟩
def Ia (Y:aN)(Fin:bH)(R N arr:Nat)(bs:List (Bq Y))(σ:Y.σ)(E:List (Nat×Obj))(pb:Pb Y)(S:ai)(M:Nat→Prop)(w:World):Prop :=
 ∃ s' b' v' A' x' E',x'.pure=pb∧b'.R=R∧b'.n=N∧HA Y Fin s' b' arr v' A' (bs ++ [x']) σ (E ++ E') S M w
def yE (Y:aN)(Fin:bH)(R N arr:Nat)(bs:List (Bq Y))(σ:Y.σ)(E:List (Nat×Obj))(A:List (Nat×Obj))(pb:Pb Y)(xs:List Value)(len:Nat)(S0:ai)(M0:Nat→Prop)(γ:Gr)(f:Array Bool)(S:ai)(M:Nat→Prop)(w:World):Prop :=
 (on f 3=true→on f 2=true)∧(on f 5=true→on f 4=true)∧(on f 7=true→on f 5=true∧on f 6=true)∧(on f 9=true→∀ j,j < 9→on f j=true) ∧
  if on f 9 then Ia Y Fin R N arr bs σ E pb S M w else S=S0∧(∀ c,M0 c→M c)∧(on f 3=true→len≤γ.2.1∧γ.2.2.toList.take (len * 5)=xs)∧Mm Try.prog M w ((if on f 3 then [(γ.1,.cells γ.2.2 32 (0,0))] else []) ++ ((E ++ (A ++ bs.flatMap Bq.mem)) ++ Y.sh σ)) (halves bs)
variable {t:TypeId}{vd rc:Value}{f:FuncId}{aD:Func}{enc:Y.Call→List Value}{cs:List Y.Call}{n i b2 cb cap:Nat}{wv tv:Value}{eS:TypeId}{fz:Nat×Nat}{a0:Act}{Q:aZ}
theorem R7 (gW:∀ p:Post,p.q=2→p.ob=aR p false false→∀ wb,pE Y p wb ((i:Nat):Int) t vd rc f aD enc)(hen:Bg enc)(hs:a0.tmps.size=58)(h1:a0.eval (.tmp 1)=.iface t vd)(h2:a0.eval (.tmp 2)=.pointer (some ⟨b2,0,none⟩))(h7:a0.eval (.tmp 7)=.pointer (some ⟨b.R,0,none⟩))(h8:a0.eval (.tmp 8)=.int .i64 (i:Nat))(h9:a0.eval (.tmp 9)=.slice (some ⟨cb,0,none⟩) cs.length cap)(hb2:(b2,iN wv tv)∈E)(hcb:(cb,Obj.cells (cs.flatMap enc).toArray eS fz)∈E)(hcs:cs≠[])(R8:cs.length≤64)(hlen:bs.length < 90)(h:HA Y Fin s b arr v A bs σ E S M w)
  (hQ:∀ a w M' S',a.tmps.size=58→a.defers=a0.defers→(∀ x:Nat,x < 28→a.eval (.tmp x)=a0.eval (.tmp x))→Ia Y Fin b.R b.n arr bs σ E (pJ cs 0 n) S' M' w→Q .normal S' M' a w) :
  aM Try.prog true 20 .normal (.region 8 (opsOf 8 Try.f20.body) true) Q S M a0 w:=by
 have hxs:(cs.flatMap enc).length=cs.length * 5:=R6 hen.len cs
 have hpos:0 < cs.length:=List.length_pos_iff.2 hcs
 refine jy af H9 (by rw [hs];kernel_rfl) (Γ:=Gr) (pK b.R b2 i cb cs.length cap t vd) (fun γ f S' M' w=>yE Y Fin b.R b.n arr bs σ E A (pJ cs 0 n) (cs.flatMap enc) cs.length S M γ f S' M' w) (0,0,#[]) (fun w1 hr=>?_) (fun i' hi γ f' S' M' a w o ho hg hM hoi az hC=>?_) (fun γ f' S' M' a w hall hM hC=>?_)
 ·unfold yE
  simp only [kW]
  refine ⟨(fun h=>by cases h),(fun h=>by cases h),(fun h=>by cases h),(fun h=>by cases h),?_⟩
  simp only [Bool.false_eq_true,if_false,List.nil_append]
  exact ⟨trivial,fun _ h=>h,(fun h=>h.elim),oq (h.mem.rely hr)⟩
 ·have hsz:f'.size=10:=hM.size
  have hw:=jd (a:=a) (ops:=(opsOf 8 Try.f20.body)) hg
  have hlt:i' < 10:=hi
  obtain ⟨k3,k5,k7,k9,hC⟩:=hC
  have Bh:on f' 9=false:=Bool.eq_false_iff.2 fun h=>by
   by_cases e:i'=9
   ·subst e;rw [hoi] at h;cases h
   ·have:=k9 h i' ag;rw [hoi] at this;cases this
  rw [Bh] at hC
  simp only [Bool.false_eq_true,if_false] at hC
  obtain ⟨rfl,hup,hg3,hmm⟩:=hC
  obtain ⟨jb,hjb⟩:∃ jb:Nat,(((if on f' 3 then [(γ.1,.cells γ.2.2 32 (0,0))] else []) ++ ((E ++ (A ++ bs.flatMap Bq.mem)) ++ Y.sh σ)) ++ halves bs)[jb]?=some (b2,iN wv tv):=List.mem_iff_getElem?.1 (by simp [hb2])
  have again:∀ {γ':Gr} {w1:World} {M1:Nat→Prop},i'≠9→(i'≠3∨on f' 2=true)→(i'≠5∨on f' 4=true)→(i'≠7∨(on f' 5=true∧on f' 6=true))→(∀ c,M c→M1 c)→(on (f'.setIfInBounds i' true) 3=true→cs.length≤γ'.2.1∧γ'.2.2.toList.take (cs.length * 5)=cs.flatMap enc)→Mm Try.prog M1 w1 ((if on (f'.setIfInBounds i' true) 3 then [(γ'.1,.cells γ'.2.2 32 (0,0))] else []) ++ ((E ++ (A ++ bs.flatMap Bq.mem)) ++ Y.sh σ)) (halves bs)→yE Y Fin b.R b.n arr bs σ E A (pJ cs 0 n) (cs.flatMap enc) cs.length S' M γ' (f'.setIfInBounds i' true) S' M1 w1:=by
   intro γ' w1 M1 e9 e3 e5 e7 fC hg3' hm1
   have mono:∀ j,on f' j=true→on (f'.setIfInBounds i' true) j=true:=fun j hj=>by
    by_cases e:i'=j
    ·subst e;exact bP ag
    ·rw [aB e];exact hj
   have back:∀ j,i'≠j→on (f'.setIfInBounds i' true) j=true→on f' j=true:=fun j e hj=>by rw [aB e] at hj;exact hj
   refine ⟨fun h=>?_,fun h=>?_,fun h=>?_,fun h=>?_,?_⟩
   ·rcases e3 with e | e
    ·exact mono 2 (k3 (back 3 e h))
    ·exact mono 2 e
   ·rcases e5 with e | e
    ·exact mono 4 (k5 (back 5 e h))
    ·exact mono 4 e
   ·rcases e7 with e | e
    ·exact ⟨mono 5 (k7 (back 7 e h)).1,mono 6 (k7 (back 7 e h)).2⟩
    ·exact ⟨mono 5 e.1,mono 6 e.2⟩
   ·have:=back 9 e9 h;rw [Bh] at this;cases this
   ·rw [aB e9,Bh]
    simp only [Bool.false_eq_true,if_false]
    exact ⟨trivial,fC,hg3',hm1⟩
  have still:∀ w1 x,i'≠3→i'≠9→(i'≠5∨on f' 4=true)→(i'≠7∨(on f' 5=true∧on f' 6=true))→x=pK b.R b2 i cb cs.length cap t vd γ i'→∀ M1,(∀ c,M c→M1 c)→Mm Try.prog M1 w1 ((if on f' 3 then [(γ.1,.cells γ.2.2 32 (0,0))] else []) ++ ((E ++ (A ++ bs.flatMap Bq.mem)) ++ Y.sh σ)) (halves bs)→∃ γ':Gr,a.put o.dst x=a.put o.dst (pK b.R b2 i cb cs.length cap t vd γ' i')∧(∀ j,on f' j=true→pK b.R b2 i cb cs.length cap t vd γ' j=pK b.R b2 i cb cs.length cap t vd γ j)∧yE Y Fin b.R b.n arr bs σ E A (pJ cs 0 n) (cs.flatMap enc) cs.length S' M γ' (f'.setIfInBounds i' true) S' M1 w1:=by
   intro w1 x e3 e9 e5 e7 hx M1 fC hm1
   refine ⟨γ,by rw [hx],fun _ _=>rfl,again e9 (.inl e3) e5 e7 fC ?_ ?_⟩
   ·rw [aB e3];exact hg3
   ·rw [aB e3];exact hm1
  rcases (by omega:i'=0∨i'=1∨i'=2∨i'=3∨i'=4∨i'=5∨i'=6∨i'=7∨i'=8∨i'=9) with rfl | rfl | rfl | rfl | rfl | rfl | rfl | rfl | rfl | rfl
  ·exact aS ae ho hw (bK (x:=.tmp 7) (aC af ho) ((hM.slot ae).trans h7)) hmm fun w1=>still w1 _ ae ae (.inl ae) (.inl ae) rfl _ hup
  ·exact aS ae ho hw (bK (x:=.tmp 8) (aC af ho) ((hM.slot ae).trans h8)) hmm fun w1=>still w1 _ ae ae (.inl ae) (.inl ae) rfl _ hup
  ·exact aS ae ho hw (bK (x:=.tmp 9) (aC af ho) ((hM.slot ae).trans h9)) hmm fun w1=>still w1 _ ae ae (.inl ae) (.inl ae) rfl _ hup
  ·rw [hoi] at hmm
   simp only [Bool.false_eq_true,if_false,List.nil_append] at hmm
   refine nU ae ho hw (args:=#[.tmp 30]) (ats:=#[22]) (aC af ho) Try.func27 af af (ys:=#[.slice (some ⟨cb,0,none⟩) cs.length cap]) (by simp [hM.val 2 30 rfl (az 2 af),pK]) (RN (cb:=cb) (n:=cs.length) (cap:=cap) (xs:=cs.flatMap enc) (eS:=eS) (fz:=fz) (aO ((aO (hcb)))) hxs hpos R8 (fun u hu=>by
    obtain ⟨c,_,hc⟩:=List.mem_flatMap.1 hu
    exact hen.one c u hc) (fun j hj=>by
    obtain ⟨x,hx⟩:∃ x,cs[j]?=some x:=⟨_,List.getElem?_eq_getElem hj⟩
    rw [Bf hen.len cs j 4 x hx ae]
    exact hen.nil x) hmm _) fun e S2 M2 w2 hd=>?_
   obtain ⟨rfl,dF,g,cp,cur,rfl,hcp,htk,hm2⟩:=hd
   refine ⟨_,rfl,(g,cp,cur),rfl,fun j hj=>?_,again ae (.inr (az 2 af)) (.inl ae) (.inl ae) (fun c hc=>dF c (hup c hc)) (fun _=>⟨hcp,htk⟩) ?_⟩
   ·match j,hj with
    | 3,hj=>rw [hoi] at hj;cases hj
    | 0,_=>rfl
    | 1,_=>rfl
    | 2,_=>rfl
    | 4,_=>rfl
    | 5,_=>rfl
    | 6,_=>rfl
    | 7,_=>rfl
    | 8,_=>rfl
    | n+9,_=>rfl
   ·rw [bP ag]
    exact hm2
  ·exact aS ae ho hw (bZ (t:=39) (x:=.tmp 2) (k:=2) (fo:=2) (aC af ho) ((hM.slot ae).trans h2) af) hmm fun w1=>still w1 _ ae ae (.inl ae) (.inl ae) rfl _ hup
  ·exact eU ae ho hw (t:=29) (x:=.tmp 32) (aC af ho) (n:=jb) (b:=b2) (k:=2) (hM.val 4 32 rfl (az 4 af)) hmm hjb (v:=.slice none 0 0) rfl af fun w1=>still w1 _ ae ae (.inr (az 4 af)) (.inl ae) rfl _ hup
  ·exact aS ae ho hw (bK (x:=.tmp 8) (aC af ho) ((hM.slot ae).trans h8)) hmm fun w1=>still w1 _ ae ae (.inl ae) (.inl ae) rfl _ hup
  ·refine nU ae ho hw (args:=#[.tmp 33,.tmp 34]) (ats:=#[29,3]) (aC af ho) Try.func28 af af (ys:=#[.slice none 0 0,.int .i64 (i:Nat)]) (by simp [hM.val 5 33 rfl (az 5 af),hM.val 6 34 rfl (az 6 af),pK]) (sP (f:=28) af ⟨_,Try.func28⟩ (fun y hy=>by
    simp only [List.mem_toArray,List.mem_cons,List.not_mem_nil,or_false] at hy
    rcases hy with rfl | rfl
    ·exact Old.bX _ _
    ·exact Old.int _ _) hmm [] (fun b hb=>by cases hb) (y:=.int .i64 0) (Old.int _ _) (fun v _ _=>(PY v i).mono fun e v' q=>⟨q.1,fun b hb=>by cases hb⟩) _) fun e S2 M2 w2 hd=>?_
   obtain ⟨rfl,⟨rfl,hm2⟩,dF⟩:=hd
   exact ⟨_,rfl,still w2 _ ae ae (.inl ae) (.inr ⟨az 5 af,az 6 af⟩) rfl _ (fun c hc=>dF c (hup c hc)) hm2⟩
  ·exact aS ae ho hw (bK (x:=.tmp 1) (aC af ho) ((hM.slot ae).trans h1)) hmm fun w1=>still w1 _ ae ae (.inl ae) (.inl ae) rfl _ hup
  ·have d3:=az 3 af
   have d7:=az 7 af
   obtain ⟨hcp,htk⟩:=hg3 d3
   rw [d3] at hmm
   have hH:HA Y Fin s b arr v A bs σ ([(γ.1,.cells γ.2.2 32 (0,0))] ++ E) S' M' w:=h.with hup (hmm.perm (List.Perm.of_eq (by simp only [if_true,List.append_assoc,List.cons_append,List.nil_append])))
   refine nU ae ho hw (args:=#[.tmp 28,.tmp 29,.tmp 31,.tmp 35,.tmp 36]) (ats:=#[88,3,22,3,86]) (aC af ho) Try.func26 af af (ys:=#[.pointer (some ⟨b.R,0,none⟩),.int .i64 (i:Nat),.slice (some ⟨γ.1,0,none⟩) cs.length γ.2.1,.int .i64 0,.iface t vd]) (by simp [hM.val 0 28 rfl (az 0 af),hM.val 1 29 rfl (az 1 af),hM.val 3 31 rfl d3,hM.val 7 35 rfl d7,hM.val 8 36 rfl (az 8 af),pK]) (R5 (n:=n) gW hH hcs (by
    cases cs with
    | nil=>exact absurd rfl hcs
    | cons c0 cs0=>exact ⟨γ.1,0,γ.2.1,γ.2.2,32,(0,0),0,rfl,hcp,rfl,fun j x hx l y hy=>by
      have hl:l < 5:=by
       have:=(List.getElem?_eq_some_iff.1 hy).1
       rw [hen.len] at this;exact this
      have hj:=(List.getElem?_eq_some_iff.1 hx).1
      have h2:((c0 :: cs0).flatMap enc)[j * 5+l]?=some y:=by rw [Bf hen.len _ j l x hx hl];exact hy
      rw [← htk,List.getElem?_take_of_lt ag] at h2
      rw [Nat.zero_add,Nat.mul_comm 5 j]
      simpa using h2⟩) hlen) fun e S2 M2 w2 hd=>?_
   obtain ⟨rfl,s',b',v',A',x',E',q1,q2,q3,q4⟩:=hd
   refine ⟨_,rfl,γ,rfl,fun _ _=>rfl,?_⟩
   have all:∀ j,j < 9→on f' j=true:=fun j hj=>by
    rcases (by omega:j=0∨j=1∨j=2∨j=3∨j=4∨j=5∨j=6∨j=7∨j=8) with rfl | rfl | rfl | rfl | rfl | rfl | rfl | rfl | rfl
    ·exact az 0 af
    ·exact az 1 af
    ·exact k3 d3
    ·exact d3
    ·exact k5 (k7 d7).1
    ·exact (k7 d7).1
    ·exact (k7 d7).2
    ·exact d7
    ·exact az 8 af
   have mono:∀ j,j < 9→on (f'.setIfInBounds 9 true) j=true:=fun j hj=>by rw [aB ag];exact all j hj
   refine ⟨fun _=>mono 2 ae,fun _=>mono 4 ae,fun _=>⟨mono 5 ae,mono 6 ae⟩,fun _=>mono,?_⟩
   rw [bP ag]
   exact ⟨s',b',v',A',x',E',q1,q2,q3,q4⟩
 ·obtain ⟨k3,k5,k7,k9,hC⟩:=hC
  rw [hall 9 ae] at hC
  exact hQ a w M' S' (hM.fV.trans hs) hM.defers (fun x hx=>hM.slot (by
   unfold H9
   simp only [List.mem_cons,Option.some.injEq,List.not_mem_nil,or_false,reduceCtorEq]
   omega)) hC
end
end Go.Proofs.Ytanploaffndpjaa
namespace Go.Blind
open Go.Conc Go.RowKit
theorem Bi {x y z p u v s t:Value}(h:x=u)(k:y=v)(l:z=s)(m:p=t):(#[x,y,z,p]:Array Value)=#[u,v,s,t]:=by rw [h,k,l,m]
theorem R9 {α:Type}{W Z:List α}{x y c:α}:((x :: (y :: W ++ Z)) ++ [c]).Perm (x :: (y :: (c :: W) ++ Z)):=by
 classical
 exact List.perm_iff_count.2 fun z=>by
  simp only [List.count_append,List.count_cons,List.count_nil,List.cons_append]
  omega
theorem Sa {α:Type}{W Z:List α}{x y c d e:α}:((((x :: (y :: W ++ Z)) ++ [c]) ++ [d]) ++ [e]).Perm (x :: (y :: (c :: d :: e :: W) ++ Z)):=by
 classical
 exact List.perm_iff_count.2 fun z=>by
  simp only [List.count_append,List.count_cons,List.count_nil,List.cons_append]
  omega
theorem qN {P:Program}{a:Act}{t t':TypeId}{x:Operand}{v c:Value}{b:Bool}(hg:∀ w1,(eqGuard .eql t x (.const c) v c).run P w1=.ok () w1∧(eqGuard .eql t x (.const c) v c).events P w1 #[]=#[])(hb:∀ w1,(binOp .eql t v c).run P w1=.ok (.bool b) w1∧(binOp .eql t v c).events P w1 #[]=#[])(hx:a.eval x=v):∀ o:Oper,o.op=.binOp .eql t x (.const c) t'→dn P a o (.bool b):=fun o hop w1=>by
 have e:execOp a.eval o=(do pure (Next.value (← (do eqGuard .eql t x (.const c) v c;binOp .eql t v c)))):=by
  unfold execOp
  rw [hop,← hx]
  rfl
 rw [e]
 refine ⟨?_,?_⟩
 ·simp only [Sem.run_bind,(hg w1).1,(hb w1).1,Result.andThen_ok,Sem.run_pure]
 ·simp only [Sem.events_bind,Sem.run_bind,(hg w1).1,(hb w1).1,(hg w1).2,(hb w1).2,Result.evThen_ok,Result.andThen_ok,Sem.events_pure]
end Go.Blind
namespace Go.Proofs.Ytanploaffndpjaa
open Go Go.Blind Go.Conc
section
variable {cb ab:Nat}{hne:cb≠ab}{p:Post}{wb n v:Nat}{k:Int}{cs:List Nat}{wl:List (Nat×Obj)}{M:Nat→Prop}{w:World}{s:Nat}
theorem Sb (bF:p.ob=aR p false false)(hm:Mm Try.prog M w ((p.pb,aR p true false) :: ((wb,bY p k) :: wl ++ (cellL cb ab hne).sh s)) []) :
  bn Try.prog false 22 #[.pointer (some ⟨cb,0,none⟩),.pointer (some ⟨wb,0,none⟩),.int .i64 ((0:Nat):Int),.iface 79 (.agg #[.int .i64 (v:Nat)])] (vI (cellL cb ab hne) p wb k wl cs) (dP Try.prog (cellL cb ab hne) p n (none,v :: cs) s) M w:=by
 refine eQ Try.func22 Hu ?_
 obtain ⟨a,ha,hs,hd,he⟩:=entered Try.func22 #[.pointer (some ⟨cb,0,none⟩),.pointer (some ⟨wb,0,none⟩),.int .i64 ((0:Nat):Int),.iface 79 (.agg #[.int .i64 (v:Nat)])] .normal (N:=35) rfl (by show 4≤35;decide)
 have h0:=he 0 _ rfl
 have h1:=he 1 _ rfl
 have h2:=he 2 _ rfl
 have h3:=he 3 _ rfl
 rw [← ha]
 clear ha he
 refine ak (kG [0] (kX ae (d:=some 8) (t:=48) eI (z:=.agg (aQ false 0 0 0).toArray) af hm fun b8 w hm=>?_))
 refine aA ?_
 replace hm:=hm.perm R9
 obtain ⟨jc,hjc⟩:=List.mem_iff_getElem?.1 (show (cb,Obj.cells #[.slice (some ⟨ab,0,none⟩) 1 1] 53 (0,0))∈((p.pb,aR p true false) :: ((wb,bY p k) :: ((b8,dW false 0 0 0) :: wl) ++ (cellL cb ab hne).sh s)) ++ [] by simp [cellL])
 refine ak (ak (kG [0,1,2,3,4,5,6,7,8,9,10] (kM (v:=.int .i64 ((0:Nat):Int)) 9 2 hm fun w hm=>?_)))
 refine kR (d:=some 10) (jC (t:=3) (t':=3) (x:=.tmp 9) (y:=(.const (.int .i64 0))) (k:=((0:Nat):Int)) (m:=0) eV rfl) hm fun w hm=>?_
 refine sM ae (v:=.bool (decide (((0:Nat):Int) < 0))) (d:=some 11) (p:=.move (.tmp 10)) eI (fun o ho=>bK ho eV) hm fun w hm=>?_
 refine bT ae (v:=.int .i64 ((0:Nat):Int)) (d:=some 12) (p:=.move (.tmp 2)) (bB.of (j:=2) (sj:=11) (b:=false) af af eO eV) (fun o ho=>bK ho eV) hm fun w hm=>?_
 refine bT ae (v:=.pointer (some ⟨cb,0,none⟩)) (d:=some 13) (p:=.move (.tmp 0)) (bB.of (j:=2) (sj:=11) (b:=false) af af eO eV) (fun o ho=>bK ho eV) hm fun w hm=>?_
 refine bT ae (d:=some 14) (p:=.nilCheck (.tmp 13)) (bB.of (j:=2) (sj:=11) (b:=false) af af eO eV) (fun o ho=>jA ho eV) hm fun w hm=>?_
 refine bT ae (d:=some 15) (p:=.fieldAddr 53 (.tmp 14) 0) (bB.of (j:=2) (sj:=11) (b:=false) af af eO eV) (fun o ho=>bZ (fo:=0) (off:=0) ho eV af) hm fun w hm=>?_
 refine kZ ae (d:=some 16) (t:=51) (x:=.tmp 15) (bB.of (j:=2) (sj:=11) (b:=false) af af eO eV) (n:=jc) (b:=cb) (k:=0) eV hm hjc (v:=.slice (some ⟨ab,0,none⟩) 1 1) rfl af fun w hm=>?_
 refine bT ae (d:=some 17) (bB.of (j:=2) (sj:=11) (b:=false) af af eO eV) (gN (t:=51) (x:=.tmp 16) (ad:=some ⟨ab,0,none⟩) (len:=1) (cap:=1) af eV) hm fun w hm=>?_
 refine bT ae (d:=some 18) (bB.of (j:=2) (sj:=11) (b:=false) af af eO eV) (Ba (t:=3) (t':=3) (x:=.tmp 12) (y:=.tmp 17) (k:=((0:Nat):Int)) (m:=((1:Nat):Int)) eV eV) hm fun w hm=>?_
 refine kR (d:=some 19) (mY (x:=.tmp 11) (y:=.const (.bool true)) (z:=.tmp 18) eV (v:=.bool false) eV) hm fun w hm=>?_
 refine aA (kF eV ?_)
 refine bS (ak (RQ (cs:=cs) bF bJ eV eV eV eV eV hm fun γ S a w M hs1 hd1 g8 hD=>?_))
 refine eG ?_
 obtain ⟨n',q',s0,s',rfl,hl,hm⟩:=hD
 exact fT (vU (sl:=8) (t:=48) (b:=b8) (vs:=aQ γ.1 γ.2.1 γ.2.2.1 γ.2.2.2) (e:=48) (fz:=(0,0)) rfl (hd1.trans bJ) g8 af af hm (by simp [dW]) fun w1 hr=>⟨γ.1,γ.2.1,γ.2.2.1,γ.2.2.2,n',q',s0,s',rfl,rfl,hl,(hm.rely hr).sub (List.Sublist.cons_cons _ (List.Sublist.cons_cons _ (List.Sublist.append ((List.Sublist.refl wl).cons _) (List.Sublist.refl _))))⟩)
def dR (v:Nat):List Value:=[.int .i64 6,.int .i64 ((0:Nat):Int),.int .i64 (v:Nat),.int .i64 0,.slice none 0 0]
theorem Sc:Bg (Y:=cellL cb ab hne) dR:=⟨fun _=>rfl,fun _=>rfl,fun v u hu=>by
 have hu:u∈dR v:=hu
 simp only [dR,List.mem_cons,List.not_mem_nil,or_false] at hu
 rcases hu with rfl | rfl | rfl | rfl | rfl <;> rfl⟩
theorem Sd:Try.f97.body=some (.seq (.region 0 (opsOf 0 Try.f97.body) false) (.seq (.region 1 (opsOf 1 Try.f97.body) false) (.seq (.seq (.region 2 (opsOf 2 Try.f97.body) false) (.cond (.tmp 11) (.seq (.region 3 (opsOf 3 Try.f97.body) false) (.seq (.region 4 (opsOf 4 Try.f97.body) false) .ret)) .skip)) (.seq (.region 5 (opsOf 5 Try.f97.body) false) .ret)))):=by kernel_rfl
open Go.RowKit in
theorem Se (w:World)(v:Nat):Calls Try.prog 98 #[.agg (dR v).toArray] w fun e w'=>e=.returned (.iface 79 (.agg #[.int .i64 (v:Nat)])):=by
 unfold dR
 go_enter Try.func98,Try.ntmps98
 go_wp2
 go_ret
 rfl
theorem Sf (bF:p.ob=aR p false false)(hm:Mm Try.prog M w ((p.pb,aR p true false) :: ((wb,bY p k) :: wl ++ (cellL cb ab hne).sh s)) []) :
  bn Try.prog false 97 #[.agg #[.pointer (some ⟨cb,0,none⟩)],.pointer (some ⟨wb,0,none⟩),.agg (dR v).toArray] (vI (cellL cb ab hne) p wb k wl cs) (dP Try.prog (cellL cb ab hne) p n (none,v :: cs) s) M w:=by
 refine eQ Try.func97 Sd ?_
 obtain ⟨a,ha,hs,hd,he⟩:=entered Try.func97 #[.agg #[.pointer (some ⟨cb,0,none⟩)],.pointer (some ⟨wb,0,none⟩),.agg (dR v).toArray] .normal (N:=22) rfl (by show 3≤22;decide)
 have h0:=he 0 _ rfl
 have h1:=he 1 _ rfl
 have h2:=he 2 _ rfl
 rw [← ha]
 clear ha he
 refine ak (kG [0,1,2] (je ae (d:=some 3) (t:=68) (x:=.tmp 0) eI (cells:=#[.pointer (some ⟨cb,0,none⟩)]) ((congrArg Value.cells (show _=Value.agg #[.pointer (some ⟨cb,0,none⟩)] from h0)).trans rfl) hm fun b3 w hm=>?_))
 refine je ae (d:=some 5) (t:=32) (x:=.tmp 2) eI (cells:=(dR v).toArray) ((congrArg Value.cells (show _=Value.agg (dR v).toArray from eV)).trans rfl) hm fun b5 w hm=>?_
 refine kX ae (d:=some 6) (t:=48) eI (z:=.agg (aQ false 0 0 0).toArray) af hm fun b6 w hm=>?_
 refine aA ?_
 replace hm:=hm.perm Sa
 refine ak (kG [0,1,2] (vW ae (d:=some 8) (t:=32) (x:=.tmp 5) eI (n:=3) (b:=b5) (off:=0) eV hm rfl (vs:=dR v) (fun j v hj=>by rw [Nat.zero_add];simpa using hj) af af fun w hm=>?_))
 refine kC (d:=some 9) (args:=#[.tmp 8]) (ats:=#[32]) Try.func98 (ys:=#[.agg (dR v).toArray]) (by simp only [List.map_toArray,List.map_cons,List.map_nil];exact iM eV) (bG (sP (f:=98) af ⟨_,Try.func98⟩ (fun y hy=>by
   rw [Array.mem_singleton.1 hy]
   refine Old.agg fun x hx=>?_
   have hx:x∈dR v:=by simpa using hx
   simp only [dR,List.mem_cons,List.not_mem_nil,or_false] at hx
   rcases hx with rfl | rfl | rfl | rfl | rfl
   ·exact Old.int _ _
   ·exact Old.int _ _
   ·exact Old.int _ _
   ·exact Old.int _ _
   ·exact Old.bX _ _) hm [] (fun b hb=>by cases hb) (y:=.iface 79 (.agg #[.int .i64 (v:Nat)])) (Old.iface (Old.agg fun x hx=>by rw [Array.mem_singleton.1 hx];exact Old.int _ _)) (fun u _ _=>(Se u v).mono fun e v' q=>⟨q,fun b hb=>by cases hb⟩) _) fun e S1 M1 w hq=>?_)
 obtain ⟨hS1,⟨rfl,hm⟩,fC⟩:=hq
 rw [hS1]
 refine kS (v:=.iface 79 (.agg #[.int .i64 (v:Nat)])) 7 9 hm fun w hm=>aA (ak (ak (kG [0,1] (kM (v:=.iface 79 (.agg #[.int .i64 (v:Nat)])) 10 7 hm fun w hm=>?_))))
 refine kR (d:=some 11) (qN (t:=109) (t':=109) (x:=.tmp 10) (v:=.iface 79 (.agg #[.int .i64 (v:Nat)])) (c:=.nilIface) (b:=false) (fun w1=>⟨af,af⟩) (fun w1=>⟨af,af⟩) eV) hm fun w hm=>?_
 refine aA (kF eV ?_)
 refine bS (ak (kG [0,1,2,3,4,5,6,7] (kP (fo:=0) (off:=0) 15 68 3 0 hm fun w hm=>?_)))
 refine kL (d:=some 16) (t:=24) (x:=.tmp 15) (n:=2) (b:=b3) (k:=0) eV hm rfl (v:=.pointer (some ⟨cb,0,none⟩)) rfl fun w hm=>?_
 refine kM (v:=.pointer (some ⟨wb,0,none⟩)) 17 1 hm fun w hm=>kP (fo:=1) (off:=0) 18 32 5 1 hm fun w hm=>kL (d:=some 19) (t:=3) (x:=.tmp 18) (n:=3) (b:=b5) (k:=1) eV hm rfl (v:=.int .i64 ((0:Nat):Int)) rfl fun w hm=>?_
 refine kM (v:=.iface 79 (.agg #[.int .i64 (v:Nat)])) 20 7 hm fun w hm=>kC (d:=some 21) (args:=#[.tmp 16,.tmp 17,.tmp 19,.tmp 20]) (ats:=#[24,69,3,109]) Try.func22 (ys:=#[.pointer (some ⟨cb,0,none⟩),.pointer (some ⟨wb,0,none⟩),.int .i64 ((0:Nat):Int),.iface 79 (.agg #[.int .i64 (v:Nat)])]) (by simp only [List.map_toArray,List.map_cons,List.map_nil];exact Bi eV eV eV eV) (bG (Sb (cs:=cs) bF hm) fun e S2 M2 w hq2=>?_)
 obtain ⟨ok,n1,m1,er,n',q',s0,s',rfl,rfl,hl,hm⟩:=hq2
 refine lX ae (d:=none) (t:=48) (x:=.tmp 6) (y:=.tmp 21) eI (n:=4) (b:=b6) eV (vs:=aQ ok n1 m1 er) eV hm rfl rfl af xU fun w hm=>?_
 rw [bV]
 refine aA (eG ?_)
 have hm:Mm Try.prog _ _ ((p.pb,aR p false false) :: ((wb,bY p k) :: ((b3,.cells #[.pointer (some ⟨cb,0,none⟩)] 68 (0,0)) :: (b5,.cells (dR v).toArray 32 (0,0)) :: (b6,dW ok n1 m1 er) :: wl) ++ (cellL cb ab hne).sh s')) []:=hm
 exact fT (vU (sl:=6) (t:=48) (b:=b6) (vs:=aQ ok n1 m1 er) (e:=48) (fz:=(0,0)) rfl bJ eV af af hm (by simp [dW]) fun w1 hr=>⟨ok,n1,m1,er,n',q',s0,s',rfl,rfl,hl,(hm.rely hr).sub (List.Sublist.cons_cons _ (List.Sublist.cons_cons _ (List.Sublist.append ((((List.Sublist.refl wl).cons _).cons _).cons _) (List.Sublist.refl _))))⟩)
theorem Sg (bF:p.ob=aR p false false):pE (cellL cb ab hne) p wb k 68 (.agg #[.pointer (some ⟨cb,0,none⟩)]) (.agg #[.pointer (some ⟨cb,0,none⟩)]) 97 Try.f97 dR :=
 ⟨fun w1=>⟨af,af⟩,Try.func97,af,by kernel_rfl,fun _=>rfl,fun c cs n s wl M w hm=>Sf bF hm⟩
end
end Go.Proofs.Ytanploaffndpjaa
namespace Go.Blind
open Go.Conc Go.RowKit
section
variable {P:Program}{main:Bool}{fn:FuncId}{kd:CallKind}{Q:aZ}{S:ai}{M:Nat→Prop}{a:Act}{w:World}{ops:Array Oper}{i:Nat}{d:Option Tmp}{l r:List (Nat×Obj)}{rest:List Nat}
theorem Si (hkd:kd≠.early){t e:TypeId}{x y:Operand}(hi:aV ops i d (.makeSlice t x y)){z:Value}{bytes n:Nat}(ht:P.underlying t=some (.slice e))(hinfo:(P.info? e).map (fun i=>(i.zero,i.size,i.bytes))=some (some z,1,bytes))(hx:a.eval x=.int .i64 (n:Nat))(hy:a.eval y=.int .i64 (n:Nat))(hn:n * bytes≤140737488355328)(h63:n≤4611686018427387904)(hm:Mm P M w l r)
  (h:∀ b w1,Mm P (plus M b) w1 (l ++ [(b,.cells (madeCells z.cells n) e (0,0))]) r→aG P main fn kd ops rest Q S (plus M b) (a.put d (.slice (some ⟨b,0,none⟩) n n)) w1):aG P main fn kd ops (i :: rest) Q S M a w:=by
 obtain ⟨o,ho,rfl,hop,hw⟩:=hi.at a
 obtain ⟨inf,jD,hq⟩:=Option.map_eq_some_iff.1 hinfo
 simp only [Prod.mk.injEq] at hq
 obtain ⟨hz,hsz,hby⟩:=hq
 have e1:execOp a.eval o=(do pure (Next.value (← Instr.makeSlice t (.int .i64 (n:Nat)) (.int .i64 (n:Nat))))):=by
  unfold execOp
  rw [hop,← hx]
  simp only [hx,hy]
 have hb2:inf.bytes * n≤140737488355328:=by rw [hby,Nat.mul_comm];exact hn
 have hb3:((inf.bytes:Nat):Int) * ((n:Nat):Int)≤281474976710656:=by
  rw [← Int.natCast_mul];omega
 have hr:∀ w1:World,(Instr.makeSlice t (.int .i64 (n:Nat)) (.int .i64 (n:Nat))).run P w1=.ok (.slice (some ⟨w1.heap.size,0,none⟩) n n) (w1.alloc (.cells (madeCells z.cells n) e (0,0))):=fun w1=>by
  have:=run_make (P:=P) w1 t e inf z ht jD hz .i64 .i64 n n ag (Int.le_refl _) hb3 ag
  simp only [Int.toNat_natCast,hsz,Nat.mul_one] at this
  exact this
 have hev:∀ w1:World,(Instr.makeSlice t (.int .i64 (n:Nat)) (.int .i64 (n:Nat))).events P w1 #[]=#[]:=fun w1=>events_make (P:=P) w1 t e inf z ht jD hz .i64 .i64 n n ag (Int.le_refl _) hb3 ag (by rw [Int.toNat_natCast,Nat.mul_comm];exact hb2) #[]
 refine dx (jr hkd ho hw fun w1 hR K' hK=>?_)
 have hm1:=hm.rely hR
 have hlist:listed P fn a o w1=#[]:=listed_nil (by rw [e1,Sem.events_bind,hr];exact hev w1)
 rw [e1,Sem.run_bind,hr]
 exact hK _ _ _ (by rw [hlist];exact nP _) (h w1.heap.size _ (hm1.new _))
theorem Sk {t t':TypeId}{x:Operand}{k c:Int}(hx:a.eval x=.int .i64 k):∀ o:Oper,o.op=.binOp .gtr t x (.const (.int .i64 c)) t'→dn P a o (.bool (decide (c < k))):=fun o hop w1=>by
 have e:execOp a.eval o=(do pure (Next.value (← (do eqGuard .gtr t x (.const (.int .i64 c)) (.int .i64 k) (.int .i64 c);binOp .gtr t (.int .i64 k) (.int .i64 c))))):=by
  unfold execOp
  rw [hop,← hx]
  rfl
 have hg:eqGuard .gtr t x (.const (.int .i64 c)) (.int .i64 k) (.int .i64 c)=Pure.pure ():=rfl
 have hb:binOp .gtr t (.int .i64 k) (.int .i64 c)=Pure.pure (.bool (decide (c < k))):=by simp [binOp,Op.intCmp]
 rw [e,hg,hb]
 exact ⟨rfl,rfl⟩
theorem Bj {f:FuncId}{aD:Func}{R:fu}{t u:Tmp}(hr:aD.results=#[.tmp t,.tmp u])(hd:a.defers=[]){x y:Value}(hx:a.eval (.tmp t)=x)(hy:a.eval (.tmp u)=y)(h:∀ w1,ay P M w w1→R (.returned (.tuple #[x,y])) S M w1):kH P f aD R S M a w:=by
 have hx':a.tmps.getD t undef=x:=hx
 have hy':a.tmps.getD u undef=y:=hy
 exact ⟨hd,fun w1 hrel=>⟨.tuple #[x,y],M,w1,#[],Prod.ext ((Sem.runT_fst _ _ _ _).trans (by rw [results_tmp2 hr,hx',hy'])) (events_results_tmp2 hr _ _),dY.idle P M w1,h w1 hrel⟩⟩
end
end Go.Blind
namespace Go.Proofs.Ytanploaffndpjaa
open Go Go.Blind Go.Conc
theorem Sl:Try.f5.body=some (.seq (.region 0 (opsOf 0 Try.f5.body) false) (.seq (.seq (.region 1 (opsOf 1 Try.f5.body) false) (.cond (.tmp 9) (.seq (.region 2 (opsOf 2 Try.f5.body) false) .ret) .skip)) (.seq (.region 3 (opsOf 3 Try.f5.body) false) .ret))):=by kernel_rfl
theorem Sm {n:Nat}:madeCells (Value.agg #[.int .i64 0]).cells n=(Tu.ints (List.replicate n 0)).toArray:=by
 apply Array.ext
 ·simp [madeCells,Tu.ints]
 ·intro j h1 h2
  simp [madeCells,Tu.ints,Nat.mod_one,Value.cells]
section
variable {M:Nat→Prop}{w:World}{L r:List (Nat×Obj)}{main:Bool}{n:Nat}
theorem Ib (h1:1≤n)(Bl:n≤256)(hm:Mm Try.prog M w L r)(S:ai):bn Try.prog main 5 #[.int .i64 (n:Nat)] (fun e S' M' w'=>S'=S∧(∀ c,M c→M' c)∧∃ cb ab,e=.returned (.tuple #[.pointer (some ⟨cb,0,none⟩),.int .i64 0])∧Mm Try.prog M' w' ((L ++ [(ab,.cells (Tu.ints (List.replicate n 0)).toArray 62 (0,0))]) ++ [(cb,.cells #[.slice (some ⟨ab,0,none⟩) n n] 53 (0,0))]) r) S M w:=by
 refine eQ Try.func5 Sl ?_
 obtain ⟨a,ha,hs,hd,he⟩:=entered Try.func5 #[.int .i64 (n:Nat)] .normal (N:=14) rfl (by show 1≤14;decide)
 have h0:=he 0 _ rfl
 rw [← ha]
 clear ha he
 have hd1:decide (((n:Nat):Int) < 1)=false:=by simp;omega
 have hd2:decide ((256:Int) < ((n:Nat):Int))=false:=by simp;omega
 refine ak (kG [0,1] (kR (d:=some 2) (p:=.assign (.const (.pointer none))) (fun o ho=>eB (v:=.pointer none) ho rfl) hm fun w hm=>?_))
 refine kR (d:=some 3) (p:=.assign (.const (.int .i64 0))) (fun o ho=>eB (v:=.int .i64 0) ho rfl) hm fun w hm=>?_
 refine aA (ak (ak (kG [0,1,2,3,4,5] (kM (v:=.int .i64 (n:Nat)) 4 0 hm fun w hm=>?_))))
 refine kR (d:=some 5) (jC (t:=3) (t':=3) (x:=.tmp 4) (y:=(.const (.int .i64 1))) (k:=((n:Nat):Int)) (m:=1) eV rfl) hm fun w hm=>?_
 rw [hd1]
 refine kM (v:=.bool false) 6 5 hm fun w hm=>bT ae (v:=.int .i64 (n:Nat)) (d:=some 7) (p:=.move (.tmp 0)) (bB.of (j:=2) (sj:=6) (b:=false) af af eO eV) (fun o ho=>bK ho eV) hm fun w hm=>?_
 refine bT ae (d:=some 8) (bB.of (j:=2) (sj:=6) (b:=false) af af eO eV) (Sk (t:=3) (t':=3) (x:=.tmp 7) (k:=((n:Nat):Int)) (c:=256) eV) hm fun w hm=>?_
 rw [hd2]
 refine kR (d:=some 9) (mY (x:=.tmp 6) (y:=.const (.bool true)) (z:=.tmp 8) eV (v:=.bool false) eV) hm fun w hm=>?_
 refine aA (kF eV ?_)
 refine bS (ak (kG [0,1,2,3,4,5] (kM (v:=.int .i64 (n:Nat)) 10 0 hm fun w hm=>?_)))
 refine Si ae (d:=some 11) (t:=51) (e:=62) (x:=.tmp 10) (y:=.tmp 10) eI (z:=.agg #[.int .i64 0]) (bytes:=8) (n:=n) af af eV eV ag ag hm fun ab w hm=>?_
 rw [Sm] at hm
 refine kR (d:=some 12) (v:=.agg #[.slice (some ⟨ab,0,none⟩) n n]) (p:=.build 53 #[(0,.tmp 11)]) (fun o ho=>ik ho (vs:=[(0,.slice (some ⟨ab,0,none⟩) n n)]) (by simp only [List.map_cons,List.map_nil];exact congrArg (fun x=>[(0,x)]) eV) af) hm fun w hm=>?_
 refine je ae (d:=some 13) (t:=53) (x:=.tmp 12) eI (cells:=#[.slice (some ⟨ab,0,none⟩) n n]) ((congrArg Value.cells (show _=Value.agg #[.slice (some ⟨ab,0,none⟩) n n] from eV)).trans rfl) hm fun cb w hm=>?_
 refine kS (v:=.pointer (some ⟨cb,0,none⟩)) 2 13 hm fun w hm=>kR (d:=some 3) (p:=.assign (.const (.int .i64 0))) (fun o ho=>eB (v:=.int .i64 0) ho rfl) hm fun w hm=>?_
 refine aA (eG ?_)
 exact fT (Bj (t:=2) (u:=3) rfl bJ eV eV fun w1 hr=>⟨rfl,fun c hc=>.inl (.inl hc),cb,ab,rfl,hm.rely hr⟩)
end
end Go.Proofs.Ytanploaffndpjaa
namespace Go.Blind
theorem Ic {α:Type}{W:List α}{x y z:α}:(x :: y :: z :: W).Perm (z :: x :: y :: W):=by
 classical
 exact List.perm_iff_count.2 fun u=>by
  simp only [List.count_cons]
  omega
end Go.Blind
namespace Go.Proofs.Ytanploaffndpjaa
open Go Go.Blind Go.Conc
theorem Sn:Try.f8.body=some (.seq (.region 0 (opsOf 0 Try.f8.body) false) (.seq (.region 1 (opsOf 1 Try.f8.body) false) (.seq (.seq (.region 2 (opsOf 2 Try.f8.body) false) (.block 0 (.loop (.seq (.region 3 (opsOf 3 Try.f8.body) false) (.seq (.cond (.tmp 17) .skip (.exit 0)) (.seq (.block 1 (.seq (.region 4 (opsOf 4 Try.f8.body) false) (.region 5 (opsOf 5 Try.f8.body) false))) (.region 6 (opsOf 6 Try.f8.body) false))))))) (.seq (.region 7 (opsOf 7 Try.f8.body) false) .ret)))):=by kernel_rfl
theorem Sq {n:Nat}:madeCells #[.int .i64 0] n=(Tu.ints (List.replicate n 0)).toArray:=by
 apply Array.ext
 ·simp [madeCells,Tu.ints]
 ·intro j h1 h2
  simp [madeCells,Tu.ints,Nat.mod_one]
theorem Sr {vs:List Int}{i:Nat}(hi:i < vs.length):(Tu.ints (vs.take i ++ List.replicate (vs.length - i) 0)).toArray.setIfInBounds (i * 1) (.int .i64 vs[i])=(Tu.ints (vs.take (i+1) ++ List.replicate (vs.length - (i+1)) 0)).toArray:=by
 rw [Nat.mul_one]
 apply Array.ext
 ·simp [Tu.ints];omega
 ·intro j h1 h2
  simp only [Array.size_setIfInBounds,List.size_toArray,Tu.AX,List.length_append,List.length_take,List.length_replicate] at h1
  rw [Array.getElem_setIfInBounds]
  by_cases e:i=j
  ·subst e
   rw [if_pos rfl]
   simp [Tu.ints,List.getElem_append,List.getElem_take,hi]
   intro h;omega
  ·rw [if_neg e]
   simp only [Tu.ints,List.getElem_toArray,List.getElem_map,List.getElem_append,List.length_take,List.getElem_take,List.getElem_replicate]
   by_cases h3:j < i
   ·rw [dif_pos ag,dif_pos ag]
   ·rw [dif_neg ag,dif_neg ag]
  ·simp [Tu.ints];omega
section
variable {M:Nat→Prop}{w:World}{L r:List (Nat×Obj)}{main:Bool}{cb ab:Nat}{vs:List Int}{S0:ai}
theorem Ie {N:Nat}{l:List Int}:∀ v∈(Tu.ints l).toArray,Old N GL v:=fun v hv=>by
 have:v∈Tu.ints l:=by simpa using hv
 obtain ⟨i,_,rfl⟩:=List.mem_map.1 this
 exact Old.int _ _
theorem Su {l:List (Nat×Obj)}{e:TypeId}{i:Nat}(hi:i < vs.length)(hm:Mm Try.prog M w ((ab,.cells (Tu.ints vs).toArray e (0,0)) :: l) r)(S:ai):bn Try.prog main 18 #[.pointer (some ⟨ab,i * 1,none⟩)] (fun en S' M' w'=>S'=S∧(en=.returned (.int .i64 vs[i])∧Mm Try.prog M' w' ((ab,.cells (Tu.ints vs).toArray e (0,0)) :: l) r)∧∀ c,M c→M' c) S M w :=
 yh af ⟨_,Try.func18⟩ (fun y hy=>by rw [Array.mem_singleton.1 hy];exact Old.ptr (Array.getElem?_eq_some_iff.1 (hm.own _ (List.mem_cons_self ..)).2).1) hm Ie Ie (Old.int _ _) (fun v _ hv=>(sQ (cell_of hv (by rw [Nat.mul_one];simpa using Tu.ints_at vs hi))).mono fun en v' q=>⟨q.1,by rw [q.2];exact hv⟩) S
structure VI (cb ab vb:Nat)(vs:List Int)(L r:List (Nat×Obj))(S0:ai)(M0:Nat→Prop)(i:Nat)(S:ai)(M:Nat→Prop)(a:Act)(w:World):Prop where
 stop:S=S0
 size:a.tmps.size=31
 defers:a.defers=[]
 s0:a.eval (.tmp 0)=.pointer (some ⟨cb,0,none⟩)
 s3:a.eval (.tmp 3)=.slice (some ⟨vb,0,none⟩) vs.length vs.length
 s15:a.eval (.tmp 15)=.int .i64 (vs.length:Nat)
 s16:a.eval (.tmp 16)=.int .i64 (i:Nat)
 le:i≤vs.length
 up:∀ c,M0 c→M c
 mem:Mm Try.prog M w ((vb,.cells (Tu.ints (vs.take i ++ List.replicate (vs.length - i) 0)).toArray 3 (0,0)) :: (cb,.cells #[.slice (some ⟨ab,0,none⟩) vs.length vs.length] 53 (0,0)) :: (ab,.cells (Tu.ints vs).toArray 62 (0,0)) :: L) r
theorem Sv (Bl:vs.length≤256)(hm:Mm Try.prog M w ((cb,.cells #[.slice (some ⟨ab,0,none⟩) vs.length vs.length] 53 (0,0)) :: (ab,.cells (Tu.ints vs).toArray 62 (0,0)) :: L) r)(S:ai):bn Try.prog main 8 #[.pointer (some ⟨cb,0,none⟩)] (fun e S' M' w'=>S'=S∧(∀ c,M c→M' c)∧∃ vb,e=.returned (.slice (some ⟨vb,0,none⟩) vs.length vs.length)∧Mm Try.prog M' w' ((vb,.cells (Tu.ints vs).toArray 3 (0,0)) :: (cb,.cells #[.slice (some ⟨ab,0,none⟩) vs.length vs.length] 53 (0,0)) :: (ab,.cells (Tu.ints vs).toArray 62 (0,0)) :: L) r) S M w:=by
 refine eQ Try.func8 Sn ?_
 obtain ⟨a,ha,hs,hd,he⟩:=entered Try.func8 #[.pointer (some ⟨cb,0,none⟩)] .normal (N:=31) rfl (by show 1≤31;decide)
 have h0:=he 0 _ rfl
 rw [← ha]
 clear ha he
 refine ak (kG [0] (kR (d:=some 2) (p:=.assign (.const (.slice none 0 0))) (fun o ho=>eB (v:=.slice none 0 0) ho rfl) hm fun w hm=>?_))
 refine aA (ak (kG [0,1,2,3,4,5,6] (kM (v:=.pointer (some ⟨cb,0,none⟩)) 5 0 hm fun w hm=>?_)))
 refine kN 6 5 hm fun w hm=>kP (fo:=0) (off:=0) 7 53 6 0 hm fun w hm=>kL (d:=some 8) (t:=51) (x:=.tmp 7) (n:=0) (b:=cb) (k:=0) eV hm rfl (v:=.slice (some ⟨ab,0,none⟩) vs.length vs.length) rfl fun w hm=>?_
 refine kR (d:=some 9) (gN (t:=51) (x:=.tmp 8) (ad:=some ⟨ab,0,none⟩) (len:=vs.length) (cap:=vs.length) af eV) hm fun w hm=>?_
 refine G9 ae (d:=some 10) (t:=29) (e:=3) (x:=.tmp 9) (y:=.tmp 9) eI (z:=.int .i64 0) (bytes:=8) (n:=vs.length) af af rfl eV eV ag ag hm fun vb w hm=>?_
 rw [Sq] at hm
 replace hm:=hm.perm List.perm_append_comm
 refine kS (v:=.slice (some ⟨vb,0,none⟩) vs.length vs.length) 3 10 hm fun w hm=>aA (ak (ak (kG [0,1,2,3,4,5] (kM (v:=.pointer (some ⟨cb,0,none⟩)) 11 0 hm fun w hm=>?_))))
 refine kN 12 11 hm fun w hm=>kP (fo:=0) (off:=0) 13 53 12 0 hm fun w hm=>kL (d:=some 14) (t:=51) (x:=.tmp 13) (n:=1) (b:=cb) (k:=0) eV hm rfl (v:=.slice (some ⟨ab,0,none⟩) vs.length vs.length) rfl fun w hm=>?_
 refine kR (d:=some 15) (gN (t:=51) (x:=.tmp 14) (ad:=some ⟨ab,0,none⟩) (len:=vs.length) (cap:=vs.length) af eV) hm fun w hm=>?_
 refine kR (d:=some 16) (p:=.move (.const (.int .i64 0))) (fun o ho=>bK (v:=.int .i64 ((0:Nat):Int)) ho rfl) hm fun w hm=>?_
 refine aA (eH (kE (X:=Nat) (r:=InvImage (· < ·) (fun i=>vs.length - i)) (InvImage.wf _ Nat.lt_wfRel.wf) (fun i S' M' a w=>VI cb ab vb vs L r S M i S' M' a w) 0 ?_ fun i S' M' a w hI=>?_))
 ·exact ⟨rfl,by simp only [size_put];exact hs,by simp only [bO];exact hd,eV,eV,eV,eV,Nat.zero_le _,fun c hc=>.inl hc,hm⟩
 clear hm hs hd h0
 obtain ⟨rfl,hs,hd,h0,h3,nk,h16,hle,hup,hm⟩:=hI
 refine ak (kG [0] (kR (d:=some 17) (jC (t:=3) (t':=3) (x:=.tmp 16) (y:=(.tmp 15)) (k:=((i:Nat):Int)) (m:=((vs.length:Nat):Int)) h16 nk) hm fun w hm=>?_))
 refine aA ?_
 by_cases hi:i < vs.length
 ·have hdec:decide (((i:Nat):Int) < ((vs.length:Nat):Int))=true:=by simp [hi]
  refine ak (kY (by rw [eP];exact congrArg Value.bool hdec) ?_)
  refine bS (ak (eH (ak (kG [0,1] (kM (v:=.int .i64 (i:Nat)) 18 16 hm fun w hm=>?_)))))
  refine kS (v:=.int .i64 (i:Nat)) 4 18 hm fun w hm=>aA (kG [0,1,2,3,4,5,6,7,8,9,10] (kM (v:=.slice (some ⟨vb,0,none⟩) vs.length vs.length) 19 3 hm fun w hm=>?_))
  refine kM (v:=.int .i64 (i:Nat)) 20 4 hm fun w hm=>kM (v:=.pointer (some ⟨cb,0,none⟩)) 21 0 hm fun w hm=>kN 22 21 hm fun w hm=>kP (fo:=0) (off:=0) 23 53 22 0 hm fun w hm=>kL (d:=some 24) (t:=51) (x:=.tmp 23) (n:=1) (b:=cb) (k:=0) eV hm rfl (v:=.slice (some ⟨ab,0,none⟩) vs.length vs.length) rfl fun w hm=>?_
  refine kM (v:=.int .i64 (i:Nat)) 25 4 hm fun w hm=>kR (d:=some 26) (wh (t:=51) (x:=.tmp 24) (y:=.tmp 25) (b:=ab) (n:=vs.length) (cp:=vs.length) (i:=i) (sz:=1) eV eV hi af af) hm fun w hm=>?_
  refine kC (d:=some 27) (args:=#[.tmp 26]) (ats:=#[62]) Try.func18 (ys:=#[.pointer (some ⟨ab,i * 1,none⟩)]) (by simp only [List.map_toArray,List.map_cons,List.map_nil];exact iM eV) (bG (Su (e:=62) hi (hm.perm Ic) _) fun e S2 M2 w hq=>?_)
  obtain ⟨hS2,⟨rfl,hm⟩,dF⟩:=hq
  rw [hS2]
  replace hm:=hm.perm Ic.symm
  refine kR (d:=some 28) (wh (t:=29) (x:=.tmp 19) (y:=.tmp 20) (b:=vb) (n:=vs.length) (cp:=vs.length) (i:=i) (sz:=1) eV eV hi af af) hm fun w hm=>?_
  refine lU ae Try.func8 rfl (d:=none) (t:=3) (x:=.tmp 28) (y:=.tmp 27) eI (n:=0) (b:=vb) (k:=i * 1) (v:=.int .i64 vs[i]) eV eV hm rfl (by simp [Tu.ints];omega) af rfl fun w hm=>?_
  rw [bV]
  rw [Sr hi] at hm
  refine aA (kG [0,1] (kR (d:=some 29) (mM (t:=3) (t':=3) (x:=.tmp 16) (k:=i) ag eV) hm fun w hm=>?_))
  refine kM (v:=.int .i64 ((i+1:Nat):Int)) 16 29 hm fun w hm=>aA ?_
  exact ⟨i+1,by show vs.length - (i+1) < vs.length - i;omega,rfl,by simp only [size_put];exact hs,by simp only [bO];exact hd,eV,eV,eV,eV,hi,fun c hc=>dF c (hup c hc),hm⟩
 ·have hdec:decide (((i:Nat):Int) < ((vs.length:Nat):Int))=false:=by simp [hi]
  refine ak (kF (by rw [eP];exact congrArg Value.bool hdec) ?_)
  refine lG ?_
  simp only [Bool.false_eq_true,↓reduceIte,if_true]
  have hin:i=vs.length:=by omega
  subst hin
  rw [List.take_of_length_le (Nat.le_refl _),Nat.sub_self,List.replicate_zero,List.append_nil] at hm
  refine ak (kG [0,1] (kM (v:=.slice (some ⟨vb,0,none⟩) vs.length vs.length) 30 3 hm fun w hm=>?_))
  refine kS (v:=.slice (some ⟨vb,0,none⟩) vs.length vs.length) 2 30 hm fun w hm=>aA (eG ?_)
  exact fT (pF (t:=2) rfl bJ (y:=.slice (some ⟨vb,0,none⟩) vs.length vs.length) eV fun w1 hr=>⟨rfl,hup,vb,rfl,hm.rely hr⟩)
end
end Go.Proofs.Ytanploaffndpjaa
namespace Go.Blind
theorem Sw {α:Type}{W:List α}{x y c a:α}:(x :: y :: ([] ++ (c :: a :: W))).Perm (c :: a :: (x :: y :: W)):=by
 classical
 exact List.perm_iff_count.2 fun u=>by
  simp only [List.count_append,List.count_cons,List.count_nil]
  omega
theorem Sy {α:Type}{W:List α}{x y c a v:α}:(v :: c :: a :: (x :: y :: W)).Perm (x :: y :: ([v] ++ (c :: a :: W))):=by
 classical
 exact List.perm_iff_count.2 fun u=>by
  simp only [List.count_append,List.count_cons,List.count_nil]
  omega
end Go.Blind
namespace Go.Proofs.Ytanploaffndpjaa
open Go Go.Blind Go.Conc
def Sz:List (Option Nat):=[some 56,some 57,some 58,none,some 7,some 8]
def tQ (cb k:Nat)(v:Value)(vs:List Int)(γ:Nat):Nat→Value
 | 0=>.agg (dA v k false).toArray
 | 1=>.pointer (some ⟨cb,0,none⟩)
 | 2=>.slice (some ⟨γ,0,none⟩) vs.length vs.length
 | 4=>.slice (some ⟨γ,0,none⟩) vs.length vs.length
 | 5=>.int .i64 0
 | _=>undef
section
variable {M:Nat→Prop}{w:World}{X:List (Nat×Obj)}{cb ab b6 b13 k:Nat}{vs:List Int}{v:Value}{S0:ai}
def Ig (cb ab b6 b13 k:Nat)(v:Value)(vs:List Int)(X:List (Nat×Obj))(S0:ai)(M0:Nat→Prop)(γ:Nat)(f:Array Bool)(S:ai)(M:Nat→Prop)(w:World):Prop :=
 Shut (opsOf 14 Try.f10.body) f∧S=S0∧(∀ c,M0 c→M c)∧Mm Try.prog M w ((b6,if on (f) 3 then bC v k false else bC (.slice none 0 0) 0 false) :: (b13,bC v k false) :: ((if on (f) 2 then [(γ,.cells (Tu.ints vs).toArray 3 (0,0))] else []) ++ ((cb,.cells #[.slice (some ⟨ab,0,none⟩) vs.length vs.length] 53 (0,0)) :: (ab,.cells (Tu.ints vs).toArray 62 (0,0)) :: X))) []
theorem SA {a0:Act}{Q:aZ}(hv:v.oneCell'=true)(hs:a0.tmps.size=59)(h6:a0.eval (.tmp 6)=.pointer (some ⟨b6,0,none⟩))(h9:a0.eval (.tmp 9)=.pointer (some ⟨cb,0,none⟩))(jX:a0.eval (.tmp 13)=.pointer (some ⟨b13,0,none⟩))(Bl:vs.length≤256)(hm:Mm Try.prog M w ((b6,bC (.slice none 0 0) 0 false) :: (b13,bC v k false) :: ((cb,.cells #[.slice (some ⟨ab,0,none⟩) vs.length vs.length] 53 (0,0)) :: (ab,.cells (Tu.ints vs).toArray 62 (0,0)) :: X)) [])
  (hQ:∀ a w M' vb,a.tmps.size=59→a.defers=a0.defers→a.eval (.tmp 6)=.pointer (some ⟨b6,0,none⟩)→a.eval (.tmp 7)=.slice (some ⟨vb,0,none⟩) vs.length vs.length→a.eval (.tmp 8)=.int .i64 0→(∀ c,M c→M' c)→Mm Try.prog M' w ((b6,bC v k false) :: (b13,bC v k false) :: ([(vb,.cells (Tu.ints vs).toArray 3 (0,0))] ++ ((cb,.cells #[.slice (some ⟨ab,0,none⟩) vs.length vs.length] 53 (0,0)) :: (ab,.cells (Tu.ints vs).toArray 62 (0,0)) :: X))) []→Q .normal S0 M' a w) :
  aM Try.prog true 10 .normal (.region 14 (opsOf 14 Try.f10.body) true) Q S0 M a0 w:=by
 refine jy af Sz (by rw [hs];kernel_rfl) (Γ:=Nat) (tQ cb k v vs) (fun γ f S' M' w=>Ig cb ab b6 b13 k v vs X S0 M γ f S' M' w) 0 (fun w1 hr=>?_) (fun i hi γ f S' M' a w o ho hg hM hoi az hC=>?_) (fun γ f S' M' a w hall hM hC=>?_)
 ·refine ⟨Shut.zero,rfl,fun _ h=>h,?_⟩
  rw [kW,kW]
  simp only [Bool.false_eq_true,if_false,List.nil_append]
  exact oq (hm.rely hr)
 ·have hsz:f.size=6:=hM.size
  have hw:=jd (a:=a) (ops:=(opsOf 14 Try.f10.body)) hg
  have hlt:i < 6:=hi
  obtain ⟨hsh,rfl,hup,hmm⟩:=hC
  have hsh':=hsh.step (i:=i) ag az
  have still:∀ w1 x,i≠2→i≠3→x=tQ cb k v vs γ i→Mm Try.prog M' w1 ((b6,if on (f) 3 then bC v k false else bC (.slice none 0 0) 0 false) :: (b13,bC v k false) :: ((if on (f) 2 then [(γ,.cells (Tu.ints vs).toArray 3 (0,0))] else []) ++ ((cb,.cells #[.slice (some ⟨ab,0,none⟩) vs.length vs.length] 53 (0,0)) :: (ab,.cells (Tu.ints vs).toArray 62 (0,0)) :: X))) []→∃ γ':Nat,a.put o.dst x=a.put o.dst (tQ cb k v vs γ' i)∧(∀ j,on f j=true→tQ cb k v vs γ' j=tQ cb k v vs γ j)∧Ig cb ab b6 b13 k v vs X S' M γ' (f.setIfInBounds i true) S' M' w1:=by
   intro w1 x e2 e3 hx hm1
   refine ⟨γ,by rw [hx],fun _ _=>rfl,hsh',rfl,hup,?_⟩
   rw [aB e2,aB e3]
   exact hm1
  rcases (by omega:i=0∨i=1∨i=2∨i=3∨i=4∨i=5) with rfl | rfl | rfl | rfl | rfl | rfl
  ·exact pq ae ho hw (t:=43) (x:=.tmp 13) (aC af ho) (n:=1) (b:=b13) (off:=0) ((hM.slot ae).trans jX) hmm rfl (vs:=dA v k false) (fun j u hj=>by rw [Nat.zero_add];simpa using hj) af af fun w1=>still w1 _ ae ae rfl
  ·exact aS ae ho hw (bK (x:=.tmp 9) (aC af ho) ((hM.slot ae).trans h9)) hmm fun w1=>still w1 _ ae ae rfl
  ·have h3:on f 3=false:=Bool.eq_false_iff.2 fun h=>by have:=hsh 3 2 h af;rw [hoi] at this;cases this
   rw [hoi,h3] at hmm
   simp only [Bool.false_eq_true,if_false] at hmm
   refine nU ae ho hw (args:=#[.tmp 57]) (ats:=#[24]) (aC af ho) Try.func8 af af (ys:=#[.pointer (some ⟨cb,0,none⟩)]) (by simp [hM.val 1 57 rfl (az 1 af),tQ]) (Sv Bl (hmm.perm Sw) _) fun e S2 M2 w2 hd=>?_
   obtain ⟨hS2,dF,vb,rfl,hm2⟩:=hd
   subst hS2
   refine ⟨_,rfl,vb,rfl,fun j hj=>?_,hsh',rfl,fun c hc=>dF c (hup c hc),?_⟩
   ·match j,hj with
    | 2,hj=>rw [hoi] at hj;cases hj
    | 4,hj=>have:=hsh 4 2 hj af;rw [hoi] at this;cases this
    | 0,_=>rfl
    | 1,_=>rfl
    | 3,_=>rfl
    | 5,_=>rfl
    | n+6,_=>rfl
   ·rw [bP ag,aB ae,h3]
    exact hm2.perm Sy
  ·have d0:=az 0 af
   have v0:=hM.val 0 56 rfl d0
   rw [hoi] at hmm
   simp only [Bool.false_eq_true,if_false] at hmm
   refine qG ae ho hw (t:=43) (x:=.tmp 6) (y:=.tmp 56) (aC af ho) (n:=0) (b:=b6) ((hM.slot ae).trans h6) (vs:=dA v k false) v0 hmm rfl rfl af (tL hv) fun w1 hm1=>⟨γ,rfl,fun _ _=>rfl,hsh',rfl,hup,?_⟩
   rw [bP ag,aB ae]
   exact hm1
  ·exact aS ae ho hw (eB (x:=.tmp 58) (aC af ho) (hM.val 2 58 rfl (az 2 af))) hmm fun w1=>still w1 _ ae ae rfl
  ·exact aS ae ho hw (eB (x:=.const (.int .i64 0)) (v:=.int .i64 0) (aC af ho) rfl) hmm fun w1=>still w1 _ ae ae rfl
 ·obtain ⟨hsh,rfl,hup,hmm⟩:=hC
  rw [hall 2 ae,hall 3 ae] at hmm
  exact hQ a w M' γ (hM.fV.trans hs) hM.defers ((hM.slot ae).trans h6) (hM.val 4 7 rfl (hall 4 ae)) (hM.val 5 8 rfl (hall 5 ae)) hup hmm
end
end Go.Proofs.Ytanploaffndpjaa
namespace Go.Blind
open Go.Conc Go.RowKit
section
variable {P:Program}{main:Bool}{fn:FuncId}{kd:CallKind}{Q:aZ}{S:ai}{M:Nat→Prop}{a:Act}{w:World}{ops:Array Oper}{i:Nat}{d:Option Tmp}{rest:List Nat}{l r:List (Nat×Obj)}
theorem SB (hkd:kd≠.early){x:Operand}{t:TypeId}(hi:aV ops i d (.call { callee:=.builtin .append,args:=#[.const (.slice none 0 0),x],argTypes:=#[t,t] })){e:TypeId}{z:Value}{size bytes m sb c:Nat}{news:List Value}{eS:TypeId}{fz:Nat×Nat}
  (hm0:0 < m)(hx:a.eval x=.slice (some ⟨sb,0,none⟩) m c)(ht:P.underlying t=some (.slice e))(hinfo:(P.info? e).map (fun i=>(i.zero,i.size,i.bytes))=some (some z,size,bytes))(hzs:z.cells.size=size)(hpos:0 < size)(hm:Mm P M w l r)(hsb:(sb,Obj.cells news.toArray eS fz)∈l)(hlen:news.length=m * size)(h1:∀ u∈news,u.oneCell'=true)(h63:m≤maxLen)(hbytes:m * bytes≤140737488355328)
  (h:∀ b cap' w1,m≤cap'→cap'≤maxLen→Mm P (plus M b) w1 (l ++ [(b,.cells (news.toArray ++ Builtin.zeroCells z.cells (cap' - m)) e (0,0))]) r→aG P main fn kd ops rest Q S (plus M b) (a.put d (.slice (some ⟨b,0,none⟩) m cap')) w1):aG P main fn kd ops (i :: rest) Q S M a w:=by
 obtain ⟨o,ho,rfl,hop,hw⟩:=hi.at a
 obtain ⟨inf,jD,hq⟩:=Option.map_eq_some_iff.1 hinfo
 simp only [Prod.mk.injEq] at hq
 obtain ⟨hz,hsz,hby⟩:=hq
 refine dx (jr hkd ho hw fun w1 hR K' hK=>?_)
 have hm1:=hm.rely hR
 have hown:w1.ownsRow 0 e size (.slice none 0 0) 0 []:=World.ownsRow_nil _ _ _ _
 have vP:=hm1.own _ hsb
 have hs:a.eval (.const (.slice none 0 0))=.slice none 0 0:=rfl
 have hnews:∀ (j:Nat) u,news[j]?=some u→w1.cell? ((⟨sb,0,none⟩:Addr).add j)=some u:=fun j u hj=>by
  rw [Addr.add_mid]
  exact cell_of vP.2 (by simpa using hj)
 have h63':0+m≤maxLen:=by omega
 have hb':(0+m) * bytes≤140737488355328:=by rw [Nat.zero_add];exact hbytes
 obtain ⟨v',w',hr,hown',hgr,hnil⟩:=run_append_own (P:=P) w1 0 t o.type e inf z size bytes ht jD hz hsz hby hzs hpos (.slice none 0 0) 0 [] hown ⟨sb,0,none⟩ m c news hlen hnews h1 h63' hb' (Nat.zero_le _)
 have Az:(execOp a.eval o).run P w1=.ok (.value v') w':=by
  unfold execOp
  simp only [hop,resolve,invoke,builtin,Sem.run_bind,Sem.run_pure,Result.andThen_ok,List.map_toArray,List.map_cons,List.map_nil,hs,hx,hr]
 have yj:∀ ev∈listed P fn a o w1,Mine (plus M w1.heap.size) ev:=fun ev hev=>by
  have hev:=iG hev
  rw [events_append_op (.const (.slice none 0 0)) x t hop hs hx #[]] at hev
  have key:=events_append_where (P:=P) w1 0 t o.type e inf z size bytes ht jD hz hsz hby (.slice none 0 0) 0 [] hown ⟨sb,0,none⟩ m c news hlen hnews h1 h63' hb' ev hev
  rcases key with ⟨ad,k1,k2⟩ | ⟨mk,rfl,hmn⟩
  ·have hf:full M ad.block:=by
    rcases k2 with ⟨_,k3⟩ | k3
    ·rw [k3];exact vP.1
    ·cases k3
   unfold Mine
   rw [k1]
   exact ⟨.inl (.inl hf.1),fun _=>⟨.inl hf.1,.inl hf.2⟩⟩
  ·have:mk=.noRoom:=hmn
   subst this
   trivial
 rw [Az]
 have hr2:=run_append_nil (P:=P) w1 t o.type e inf z ht jD hz ⟨sb,0,none⟩ m c news (by rw [hlen,hsz]) hnews hm0 (by simp only [maxLen] at h63;omega) (by rw [hby];omega)
 rw [hr] at hr2
 cases hr2
 have hcap:m≤grownCap w1 m 0 e∧grownCap w1 m 0 e≤maxLen:=by
  rcases hown'.2 with ⟨q1,_⟩ | ⟨g',cap',cur',q1,_,q3,q4,q5,q6,q7⟩
  ·cases q1
  ·injection q1 with _ _ q1
   rw [q1]
   exact ⟨ag,q5⟩
 have hmd:Mm P M w1.drew l r:=⟨hm1.own,hm1.rd,hm1.low,hm1.aX,hm1.base,hm1.nodup⟩
 have g:=nP (P:=P) (M:=M) (w:=w1.drew) (.cells (news.toArray ++ Builtin.zeroCells z.cells (grownCap w1 m 0 e - m)) e (0,0))
 refine hK _ _ _ ⟨g.size,g.low,g.aX,g.still,g.iff,g.tape,g.os,g.output,Nat.le_trans (Nat.le_succ _) g.drawn,yj⟩ (h w1.heap.size _ _ hcap.1 hcap.2 (hmd.new _))
end
end Go.Blind
namespace Go.Proofs.Ytanploaffndpjaa
open Go Go.Blind Go.Conc
theorem SC:Try.f46.body=some (.seq (.region 0 (opsOf 0 Try.f46.body) false) (.seq (.region 1 (opsOf 1 Try.f46.body) false) .ret)):=by kernel_rfl
theorem SE {k:Nat}:∀ v∈Builtin.zeroCells (Value.int .i64 0).cells k,∃ i,v=.int .i64 i:=by
 intro v hv
 unfold Builtin.zeroCells at hv
 obtain ⟨j,_,rfl⟩:=Array.mem_map.1 hv
 refine ⟨0,?_⟩
 have:j % (Value.int .i64 0).cells.size=0:=Nat.mod_one j
 rw [this]
 rfl
section
variable {M:Nat→Prop}{w:World}{L r:List (Nat×Obj)}{tb cap:Nat}{ts:List Int}{fz:Nat×Nat}{main:Bool}
theorem SF (htb:(tb,Obj.cells (Tu.ints ts).toArray 3 fz)∈L)(hne:ts≠[])(hn2:ts.length≤1000000)(hm:Mm Try.prog M w L r)(S:ai):bn Try.prog main 46 #[.slice (some ⟨tb,0,none⟩) ts.length cap] (fun e S' M' w'=>S'=S∧(∀ c,M c→M' c)∧∃ g cp cs,e=.returned (.slice (some ⟨g,0,none⟩) ts.length cp)∧ts.length≤cp∧cp≤maxLen∧(∀ v∈cs,∃ i,v=.int .i64 i)∧(∀ (j:Nat) u,(Tu.ints ts)[j]?=some u→cs[j]?=some u)∧Mm Try.prog M' w' (L ++ [(g,.cells cs 3 (0,0))]) r) S M w:=by
 refine eQ Try.func46 SC ?_
 obtain ⟨a,ha,hs,hd,he⟩:=entered Try.func46 #[.slice (some ⟨tb,0,none⟩) ts.length cap] .normal (N:=5) rfl (by show 1≤5;decide)
 have h0:=he 0 _ rfl
 rw [← ha]
 clear ha he
 refine ak (kG [0] (kR (d:=some 2) (p:=.assign (.const (.slice none 0 0))) (fun o ho=>eB (v:=.slice none 0 0) ho rfl) hm fun w hm=>?_))
 refine aA (ak (kG [0,1,2] (kM (v:=.slice (some ⟨tb,0,none⟩) ts.length cap) 3 0 hm fun w hm=>?_)))
 refine SB ae (d:=some 4) (x:=.tmp 3) (t:=29) eI (e:=3) (z:=.int .i64 0) (size:=1) (bytes:=8) (m:=ts.length) (sb:=tb) (c:=cap) (news:=Tu.ints ts) (eS:=3) (fz:=fz) (List.length_pos_iff.2 hne) eV af af rfl ae hm htb (by rw [Tu.AX,Nat.mul_one]) (fun u hu=>by obtain ⟨_,_,rfl⟩:=List.mem_map.1 hu;rfl) (by unfold maxLen;omega) ag fun g cp w hc1 hc2 hm=>?_
 refine kS (v:=.slice (some ⟨g,0,none⟩) ts.length cp) 2 4 hm fun w hm=>aA (eG ?_)
 refine fT (pF (t:=2) rfl bJ (y:=.slice (some ⟨g,0,none⟩) ts.length cp) eV fun w1 hr=>⟨rfl,fun c hc=>.inl hc,g,cp,_,rfl,hc1,hc2,fun v hv=>?_,fun j u hu=>?_,hm.rely hr⟩)
 ·rcases Array.mem_append.1 hv with q | q
  ·have:v∈Tu.ints ts:=by simpa using q
   obtain ⟨i,_,rfl⟩:=List.mem_map.1 this
   exact ⟨i,rfl⟩
  ·exact SE v q
 ·have hj:=(List.getElem?_eq_some_iff.1 hu).1
  rw [Array.getElem?_append_left (by simpa using hj)]
  simpa using hu
theorem SG:Try.f30.body=some (.seq (.region 0 (opsOf 0 Try.f30.body) false) (.seq (.region 1 (opsOf 1 Try.f30.body) false) .ret)):=by kernel_rfl
theorem SH (htb:(tb,Obj.cells (Tu.ints ts).toArray 3 fz)∈L)(hne:ts≠[])(hn2:ts.length≤1000000)(hm:Mm Try.prog M w L r)(S:ai):bn Try.prog main 30 #[.slice (some ⟨tb,0,none⟩) ts.length cap] (fun e S' M' w'=>S'=S∧(∀ c,M c→M' c)∧∃ ob g ao c TB,e=.returned (.pointer (some ⟨ob,0,none⟩))∧mW ob g ts ao c TB∧Mm Try.prog M' w' ((ob,gP ts.length ao c (-1+1)) :: (TB ++ L)) r) S M w:=by
 refine eQ Try.func30 SG ?_
 obtain ⟨a,ha,hs,hd,he⟩:=entered Try.func30 #[.slice (some ⟨tb,0,none⟩) ts.length cap] .normal (N:=7) rfl (by show 1≤7;decide)
 have h0:=he 0 _ rfl
 rw [← ha]
 clear ha he
 refine ak (kG [0] (kR (d:=some 2) (p:=.assign (.const (.pointer none))) (fun o ho=>eB (v:=.pointer none) ho rfl) hm fun w hm=>?_))
 refine aA (ak (kG [0,1,2,3,4] (kM (v:=.slice (some ⟨tb,0,none⟩) ts.length cap) 3 0 hm fun w hm=>?_)))
 refine kC (d:=some 4) (args:=#[.tmp 3]) (ats:=#[29]) Try.func46 (ys:=#[.slice (some ⟨tb,0,none⟩) ts.length cap]) (by rw [Array.map_singleton,eP];rfl) (bG (SF htb hne hn2 hm _) fun e S' M1 w hq=>?_)
 obtain ⟨hS,hup,g,cp,cs,rfl,hc1,hc2,hcs,hat,hm⟩:=hq
 rw [hS]
 refine kR (d:=some 5) (v:=.agg #[.slice (some ⟨g,0,none⟩) ts.length cp,.int .i64 0]) (p:=.build 131 #[(0,.tmp 4)]) (fun o ho=>ik ho (vs:=[(0,.slice (some ⟨g,0,none⟩) ts.length cp)]) (by simp only [List.map_cons,List.map_nil];exact congrArg (fun x=>[(0,x)]) eV) af) hm fun w hm=>?_
 refine je ae (d:=some 6) (t:=131) (x:=.tmp 5) eI (cells:=#[.slice (some ⟨g,0,none⟩) ts.length cp,.int .i64 0]) ((congrArg Value.cells (show _=Value.agg #[.slice (some ⟨g,0,none⟩) ts.length cp,.int .i64 0] from eV)).trans rfl) hm fun ob w hm=>?_
 refine kS (v:=.pointer (some ⟨ob,0,none⟩)) 2 6 hm fun w hm=>aA (eG ?_)
 have SL:g≠ob:=fun e=>by
  have hn:=hm.nodup
  simp only [List.map_append,List.map_cons,List.map_nil,List.append_assoc] at hn
  have:=(List.nodup_append.1 hn).2.1
  simp [e] at this
 refine fT (pF (t:=2) rfl bJ (y:=.pointer (some ⟨ob,0,none⟩)) eV fun w1 hr=>⟨rfl,fun c hc=>.inl (hup c hc),ob,g,some ⟨g,0,none⟩,cp,[(g,.cells cs 3 (0,0))],rfl,⟨hc1,hc2,(fun e=>by cases e),(fun ad e=>by cases e;rfl),.inr ⟨SL,cs,rfl,hcs,fun _=>⟨0,rfl,fun j u hu=>by rw [Nat.zero_add];exact hat j u hu⟩⟩⟩,(hm.rely hr).perm ?_⟩)
 have h:=List.perm_append_comm (l₁:=L) (l₂:=[(g,Obj.cells cs 3 (0,0)),(ob,gP ts.length (some ⟨g,0,none⟩) cp (-1+1))])
 simp only [List.append_assoc,List.cons_append,List.nil_append] at h ⊢
 exact h.trans (List.Perm.swap _ _ _)
end
end Go.Proofs.Ytanploaffndpjaa

/- Of the proof. -/
import Derived.Test.YtanploaffndpjaaJ13
import Derived.Laws.Runes
import Derived.WalkKit
import Derived.WalkMore
import Derived.WalkSpells
import Derived.BigQuiet
set_option maxRecDepth 100000
set_option linter.unusedSimpArgs false
set_option linter.unusedVariables false
namespace Go.Proofs.Ytanploaffndpjaa
open Go Go.Blind Go.Conc
theorem Pk:Try.f38.body=some (.seq (.region 0 (opsOf 0 Try.f38.body) false) (.region 1 (opsOf 1 Try.f38.body) false)):=by kernel_rfl
def vJ (p:Post):Obj:=.cells #[.pointer (some ⟨p.R,0,none⟩)] 88 (0,0)
def jS (k:Int):Obj:=.cells #[.int .i64 k] 3 (0,0)
def jT (t:TypeId)(vd:Value):Obj:=.cells #[.iface t vd] 86 (0,0)
section
variable {Y:aN}{p:Post}{k:Int}{t:TypeId}{vd rc:Value}{f:FuncId}{aD:Func}{enc:Y.Call→List Value}{n:Nat}{cs:List Y.Call}{M:Nat→Prop}{w:World}{S:ai}{b0 b1 b2 b3 b4:Nat}{rest:List (Nat×Obj)}{v:Value}
def Av (Y:aN)(p:Post)(n:Nat)(cs:List Y.Call)(l:List (Nat×Obj))(S:ai)(M:Nat→Prop)(w:World):Prop :=
 if cs.isEmpty then S=nQ Try.prog p∧Mm Try.prog M w ((p.pb,aR p false false) :: l) [] else S=nR Try.prog Y p n (none,cs)∧Mm Try.prog M w l [(p.pb,aR p false false)]
theorem child (bF:p.ob=aR p false false)(gW:∀ wb,pE Y p wb k t vd rc f aD enc)(hq:p.q=2)(hv:sN enc v ((b0,vJ p) :: (b1,gM p) :: (b2,jS k) :: (b3,dV v) :: (b4,jT t vd) :: rest) cs)(hv1:v.cells=#[v])(hf:Av Y p n cs ((b0,vJ p) :: (b1,gM p) :: (b2,jS k) :: (b3,dV v) :: (b4,jT t vd) :: rest) S M w) :
  aj Try.prog false S M (ax (Frame.enter Try.prog 38 #[.pointer (some ⟨b0,0,none⟩),.pointer (some ⟨b1,0,none⟩),.pointer (some ⟨b2,0,none⟩),.pointer (some ⟨b3,0,none⟩),.pointer (some ⟨b4,0,none⟩)] .deferred) [floor Try.prog []]) w:=by
 obtain ⟨a,ha,hs,hd,he⟩:=entered Try.func38 #[.pointer (some ⟨b0,0,none⟩),.pointer (some ⟨b1,0,none⟩),.pointer (some ⟨b2,0,none⟩),.pointer (some ⟨b3,0,none⟩),.pointer (some ⟨b4,0,none⟩)] .deferred (N:=16) rfl (by show 5≤16;decide)
 have h0:a.eval (.tmp 0)=.pointer (some ⟨b0,0,none⟩):=he 0 _ rfl
 have h1:a.eval (.tmp 1)=.pointer (some ⟨b1,0,none⟩):=he 1 _ rfl
 have h2:a.eval (.tmp 2)=.pointer (some ⟨b2,0,none⟩):=he 2 _ rfl
 have h3:a.eval (.tmp 3)=.pointer (some ⟨b3,0,none⟩):=he 3 _ rfl
 have h4:a.eval (.tmp 4)=.pointer (some ⟨b4,0,none⟩):=he 4 _ rfl
 have e0:Frame.enter Try.prog 38 #[.pointer (some ⟨b0,0,none⟩),.pointer (some ⟨b1,0,none⟩),.pointer (some ⟨b2,0,none⟩),.pointer (some ⟨b3,0,none⟩),.pointer (some ⟨b4,0,none⟩)] .deferred=(Frame.enter Try.prog 38 #[.pointer (some ⟨b0,0,none⟩),.pointer (some ⟨b1,0,none⟩),.pointer (some ⟨b2,0,none⟩),.pointer (some ⟨b3,0,none⟩),.pointer (some ⟨b4,0,none⟩)] .deferred).at a [.code (.seq (.region 0 (opsOf 0 Try.f38.body) false) (.region 1 (opsOf 1 Try.f38.body) false))]:=by
  rw [ha]
  exact enter_at Try.func38 Pk _ _
 rw [e0]
 clear e0 ha he
 have walk:aM Try.prog false 38 .deferred (.seq (.region 0 (opsOf 0 Try.f38.body) false) (.region 1 (opsOf 1 Try.f38.body) false)) (fun e S' M' a' w'=>e=.normal∧S'=nQ Try.prog p∧a'.defers=[⟨.fn (.func 39) #[],#[.pointer (some ⟨p.R,2,none⟩)]⟩]) S M a w:=by
  obtain ⟨L,R,dO,hidx,hback⟩:∃ L R,Mm Try.prog M w L R∧(∃ i,∀ (j:Nat) x,((b0,vJ p) :: (b1,gM p) :: (b2,jS k) :: (b3,dV v) :: (b4,jT t vd) :: rest)[j]?=some x→(L ++ R)[i+j]?=some x)∧∀ M1 w1 wb,Mm Try.prog M1 w1 (L ++ [(wb,bY p k)]) R→jR Y p wb k ((b0,vJ p) :: (b1,gM p) :: (b2,jS k) :: (b3,dV v) :: (b4,jT t vd) :: rest) n cs S M1 w1:=by
   unfold Av at hf
   unfold jR
   split at hf
   ·rename_i hc
    simp only [hc,if_true]
    exact ⟨_,_,hf.2,⟨1,fun j x hx=>by rw [List.append_nil,Nat.add_comm];exact hx⟩,fun M1 w1 wb hm=>⟨hf.1,hm.perm (List.Perm.cons _ (List.perm_append_comm (l₂:=[_])))⟩⟩
   ·rename_i hc
    simp only [hc,if_false]
    refine ⟨_,_,hf.2,⟨0,fun j x hx=>?_⟩,fun M1 w1 wb hm=>⟨hf.1,hm.perm (List.perm_append_comm (l₂:=[_]))⟩⟩
    rw [Nat.zero_add,List.getElem?_append_left (List.getElem?_eq_some_iff.1 hx).1]
    exact hx
  obtain ⟨i,hidx⟩:=hidx
  have second:∀ (a1:Act) (w:World),a1.tmps.size=16→(∀ x:Nat,x < 5→a1.eval (.tmp x)=a.eval (.tmp x))→a1.defers=[⟨.fn (.func 39) #[],#[.pointer (some ⟨p.R,2,none⟩)]⟩]→Mm Try.prog M w L R→aM Try.prog false 38 .deferred (.region 1 (opsOf 1 Try.f38.body) false) (fun e S' M' a' w'=>e=.normal∧S'=nQ Try.prog p∧a'.defers=[⟨.fn (.func 39) #[],#[.pointer (some ⟨p.R,2,none⟩)]⟩]) S M a1 w:=by
   intro a1 w sz evs Pm hm
   replace h1:=(evs 1 ae).trans h1
   replace h2:=(evs 2 ae).trans h2
   replace h3:=(evs 3 ae).trans h3
   replace h4:=(evs 4 ae).trans h4
   refine kG [0,1,2,3,4,5,6,7] (kL (d:=some 8) (t:=111) (x:=.tmp 1) h1 hm (hidx 1 _ rfl) (v:=.pointer (some ⟨p.pb,0,none⟩)) rfl fun w hm=>?_)
   refine kL (d:=some 9) (t:=3) (x:=.tmp 2) eV hm (hidx 2 _ rfl) (v:=.int .i64 k) rfl fun w hm=>?_
   refine kL (d:=some 10) (t:=111) (x:=.tmp 1) (by rw [eP,eN,if_neg ae];exact h1) hm (hidx 1 _ rfl) (v:=.pointer (some ⟨p.pb,0,none⟩)) rfl fun w hm=>?_
   refine kR (d:=some 11) (p:=.build 122 #[(0,.tmp 9),(1,.tmp 10)]) (fun o ho=>ik ho (vs:=[(0,.int .i64 k),(1,.pointer (some ⟨p.pb,0,none⟩))]) (by simp [lT,size_put,sz]) (cells:=#[.int .i64 k,.pointer (some ⟨p.pb,0,none⟩)]) af) hm fun w hm=>?_
   refine je ae (d:=some 12) (t:=122) (x:=.tmp 11) eI (cells:=#[.int .i64 k,.pointer (some ⟨p.pb,0,none⟩)]) eV hm fun wb w hm=>?_
   have Gc:∀ (j:Nat) x,((b0,vJ p) :: (b1,gM p) :: (b2,jS k) :: (b3,dV v) :: (b4,jT t vd) :: rest)[j]?=some x→∃ j':Nat,((L ++ [(wb,bY p k)]) ++ R)[j']?=some x:=fun j x hx=>by
    have:=List.mem_of_getElem? (hidx j x hx)
    refine List.mem_iff_getElem?.1 ?_
    rcases List.mem_append.1 this with q | q <;> simp [q]
   obtain ⟨j3,Pn⟩:=Gc 3 _ rfl
   obtain ⟨j4,qI⟩:=Gc 4 _ rfl
   refine kL (d:=some 13) (t:=22) (x:=.tmp 3) (by rw [eP,eP,eP,eP,eN,if_neg ae,if_neg ae,if_neg ae,if_neg ae];exact h3) hm Pn (v:=v) rfl fun w hm=>?_
   refine kL (d:=some 14) (t:=86) (x:=.tmp 4) (by rw [eP,eP,eP,eP,eP,eN,if_neg ae,if_neg ae,if_neg ae,if_neg ae,if_neg ae];exact h4) hm qI (v:=.iface t vd) rfl fun w hm=>?_
   refine kC (d:=some 15) (args:=#[.tmp 8,.tmp 12,.tmp 13,.tmp 14]) (ats:=#[111,69,22,86]) Try.func40 (ys:=#[.pointer (some ⟨p.pb,0,none⟩),.pointer (some ⟨wb,0,none⟩),v,.iface t vd]) (by simp [lT,size_put,sz]) (bG (Pj bF (gW wb) hv hv1 (hback _ _ wb hm)) fun e S' M w hq=>?_)
   obtain ⟨rfl,rfl,l,hm⟩:=hq
   refine aA ⟨rfl,rfl,?_⟩
   simp only [bO]
   exact Pm
  refine ak (kG [0,1,2,3] (kL (d:=some 5) (t:=88) (x:=.tmp 0) h0 dO (hidx 0 _ rfl) (v:=.pointer (some ⟨p.R,0,none⟩)) rfl fun w hm=>?_))
  refine kN 6 5 hm fun w hm=>kP (fo:=2) (off:=0) 7 99 6 2 hm fun w hm=>FZ ae (d:=none) (x:=.func 39) (args:=#[.tmp 7]) (ats:=#[97]) eI (f:=.func 39) (vs:=#[]) (us:=#[]) (ys:=#[.pointer (some ⟨p.R,2,none⟩)]) rfl (by rw [Array.map_singleton,eP];rfl) ?_
  refine aA (second _ _ ?_ (fun x hx=>?_) ?_ hm)
  ·show ((((a.put (some 5) _).put (some 6) _).put (some 7) _)).tmps.size=16
   rw [size_put,size_put,size_put];exact hs
  ·show ((((a.put (some 5) _).put (some 6) _).put (some 7) _)).eval (.tmp x)=_
   rw [eP,eP,eP,if_neg ag,if_neg ag,if_neg ag]
  ·show _ :: a.defers=_
   rw [hd];rfl
 refine walk _ [] [floor Try.prog []] rfl rfl fun e S' M' a' w' q=>?_
 obtain ⟨rfl,rfl,hd'⟩:=q
 refine aj.idle (g':=ax { (Frame.enter Try.prog 38 #[.pointer (some ⟨b0,0,none⟩),.pointer (some ⟨b1,0,none⟩),.pointer (some ⟨b2,0,none⟩),.pointer (some ⟨b3,0,none⟩),.pointer (some ⟨b4,0,none⟩)] .deferred).at a' [] with mode:=.returning } [floor Try.prog []]) rfl (fun _=>rfl) (.stop fun w1 _=>⟨rfl,320,?_⟩)
 obtain ⟨tm,df⟩:=a'
 simp only at hd'
 subst hd'
 rw [hq]
 exact Mw Try.Au (MB _ _ _) Try.func38 rfl rfl rfl
end
end Go.Proofs.Ytanploaffndpjaa
namespace Go.Blind
open Go.Conc Go.ConcR Go.RowKit Go.Conc.Lib Go.ConcR.Gen
section
variable {P:Program}{main:Bool}{S:ai}{M:Nat→Prop}{g:Goroutine}{w:World}
theorem aj.grow (h:aj P main S M g w):aj P main (fun M' g w=>S M' g w∧∀ c,M c→M' c) M g w:=by
 induction h with
 | stop h=>exact .stop fun w1 hr=>⟨h w1 hr,fun _ hc=>hc⟩
 | step N g' w' es h1 h2 h3 _ ih=>exact .step N g' w' es h1 h2 h3 fun w1 hr=>(ih w1 hr).mono fun M' g w q=>⟨q.1,fun c hc=>q.2 c (((h3 w1 hr).iff c).2 (.inl hc))⟩
theorem vK {f:FuncId}{ys:Array Value}{R0:Ending→(Nat→Prop)→World→Prop}(h:∀ S,bn P main f ys (fun e S' M' w'=>S'=S∧R0 e M' w') S M w)(S:ai):bn P main f ys (fun e S' M' w'=>S'=S∧R0 e M' w'∧∀ c,M c→M' c) S M w:=by
 intro c cs k1 k2
 have:=h (fun M' g' w1=>(∃ y w',R0 (.returned y) M' w'∧ay P M' w' w1∧g'=ax (c.finish y) cs)∨∃ ch w',R0 (.panicked ch) M' w'∧ay P M' w' w1∧g'=ax (c.raise ch) cs) c cs (fun y S' M' w' hq=>by
  obtain ⟨rfl,hR⟩:=hq
  exact .stop fun w1 hr=>.inl ⟨y,w',hR,hr,rfl⟩) (fun ch S' M' w' hq=>by
  obtain ⟨rfl,hR⟩:=hq
  exact .stop fun w1 hr=>.inr ⟨ch,w',hR,hr,rfl⟩)
 refine this.grow.then fun M' g' w1 q=>?_
 obtain ⟨hq | hq,hup⟩:=q
 ·obtain ⟨y,w',hR,hr,rfl⟩:=hq
  exact (k1 y S M' w' ⟨rfl,hR,hup⟩).rely hr
 ·obtain ⟨ch,w',hR,hr,rfl⟩:=hq
  exact (k2 ch S M' w' ⟨rfl,hR,hup⟩).rely hr
end
structure Wk (Y:aN) where
 p:Post
 st:Option Y.bL
 n:Nat
structure Apart {Y:aN}(arr:Nat)(ws:List (Wk Y)):Prop where
 own:∀ (i:Nat) k,ws[i]?=some k→k.p.tn≠k.p.ov∧k.p.tn≠arr∧k.p.ov≠arr
 two:∀ (i l:Nat) k k',i≠l→ws[i]?=some k→ws[l]?=some k'→k.p.tn≠k'.p.tn∧k.p.tn≠k'.p.ov
structure dD (P:Program)(Y:aN)(arr:Nat)(s:Ring)(ws:List (Wk Y)):Prop where
 size:s.size=ws.length+1
 zero:s.O 0=none
 seat:∀ (i:Nat) k q,ws[i]?=some k→k.st=some q→s.O (i+1)=some (k.p.fA,.select)∧s.Home (i+1)=fQ P Y k.p k.n q
 gone:∀ (i:Nat) k,ws[i]?=some k→k.st=none→s.O (i+1)=none
 vL:∀ k∈ws,k.p.arr=arr
 mem:arr∈s.ch∧∀ k∈ws,k.p.tn∈s.ch∧k.p.ov∈s.ch
 apart:s.ch.Nodup→Apart arr ws
section
variable {P:Program}{Y:aN}{arr:Nat}{s:Ring}{ws:List (Wk Y)}
theorem qK {a b:Nat}(h:Value.chan (some a)=.chan (some b)):a=b:=by cases h;rfl
theorem nW {p:Post}{cc:CommCase}(h:cc∈p.fA):cc=rcase p.tn zS∨cc=rcase p.ov zS:=by
 simpa [Post.fA] using h
theorem dD.who (h:dD P Y arr s ws)(hout:∀ i,s.size≤i→s.O i=none){i:Nat}{cs:Array CommCase}{sh:CommShape}(e:s.O i=some (cs,sh)):∃ (j:Nat)(k:Wk Y),i=j+1∧ws[j]?=some k∧cs=k.p.fA∧sh=.select:=by
 cases i with
 | zero=>rw [h.zero] at e;cases e
 | succ j =>
  cases hj:ws[j]? with
  | none =>
   have:ws.length≤j:=List.getElem?_eq_none_iff.1 hj
   rw [hout (j+1) (by rw [h.size];omega)] at e;cases e
  | some k =>
   cases hs:k.st with
   | none=>rw [h.gone j k hj hs] at e;cases e
   | some q =>
    rw [(h.seat j k q hj hs).1] at e
    cases e
    exact ⟨j,k,rfl,hj,rfl,rfl⟩
theorem dD.plain (h:dD P Y arr s ws){j:Nat}{k:Wk Y}(hj:ws[j]?=some k):Plain s.C k.p.fA:=.inr fun cc hcc=>by
 have:=h.mem.2 k (List.mem_of_getElem? hj)
 rcases nW hcc with rfl | rfl
 ·exact ⟨_,_,rfl,this.1⟩
 ·exact ⟨_,_,rfl,this.2⟩
theorem dD.Po (h:dD P Y arr s ws)(hout:∀ i,s.size≤i→s.O i=none)(hnd:s.ch.Nodup){j:Nat}{v z:Value}:dN s.C (bN s.O (j+1) (some (#[scase arr v z],.send))):=by
 have hA:=h.apart hnd
 have who:∀ i cs sh,bN s.O (j+1) (some (#[scase arr v z],CommShape.send)) i=some (cs,sh)→(i=j+1∧cs=#[scase arr v z])∨(i≠j+1∧∃ (l:Nat) (k:Wk Y),i=l+1∧ws[l]?=some k∧cs=k.p.fA):=fun i cs sh e=>by
  by_cases ei:i=j+1
  ·rw [ei,eu] at e;cases e;exact .inl ⟨ei,rfl⟩
  ·rw [dz _ _ ei] at e
   obtain ⟨l,k,h1,h2,h3,_⟩:=h.who hout e
   exact .inr ⟨ei,l,k,h1,h2,h3⟩
 refine ⟨fun i cs sh e=>?_,fun i l iU jM jq shl a b hil hi hl ha hb hs hr hc=>?_⟩
 ·rcases who i cs sh e with ⟨_,rfl⟩ | ⟨_,l,k,_,hk,rfl⟩
  ·exact .inl ⟨arr,v,z,rfl,h.mem.1⟩
  ·exact h.plain hk
 ·rcases who i iU jM hi with ⟨e1,rfl⟩ | ⟨_,_,k,_,hk,rfl⟩
  ·rcases who l jq shl hl with ⟨e2,_⟩ | ⟨_,l',k',_,hk',rfl⟩
   ·exact hil (e1.trans e2.symm)
   ·have ea:a=scase arr v z:=by simpa using ha
    rw [ea] at hc
    have hx:=hA.own l' k' hk'
    rcases nW hb with rfl | rfl
    ·exact hx.2.1 (qK (show Value.chan (some arr)=.chan (some k'.p.tn) from hc)).symm
    ·exact hx.2.2 (qK (show Value.chan (some arr)=.chan (some k'.p.ov) from hc)).symm
  ·rcases nW ha with rfl | rfl <;> cases hs
theorem dD.Pp (h:dD P Y arr s ws)(hout:∀ i,s.size≤i→s.O i=none){j:Nat}{k:Wk Y}(hj:ws[j]?=some k){o:Option (Array CommCase×CommShape)}(ho:o=none∨o=some (k.p.fA,.select)):dN s.C (bN s.O (j+1) o):=by
 have who:∀ i cs sh,bN s.O (j+1) o i=some (cs,sh)→∃ (l:Nat) (k:Wk Y),ws[l]?=some k∧cs=k.p.fA:=fun i cs sh e=>by
  by_cases ei:i=j+1
  ·rw [ei,eu] at e
   rcases ho with q | q
   ·rw [q] at e;cases e
   ·rw [q] at e;cases e;exact ⟨j,k,hj,rfl⟩
  ·rw [dz _ _ ei] at e
   obtain ⟨l,k,h1,h2,h3,_⟩:=h.who hout e
   exact ⟨l,k,h2,h3⟩
 refine ⟨fun i cs sh e=>?_,fun i l iU jM jq shl a b hil hi hl ha hb hs hr hc=>?_⟩
 ·obtain ⟨l,k,hk,rfl⟩:=who i cs sh e
  exact h.plain hk
 ·obtain ⟨_,k,hk,rfl⟩:=who i iU jM hi
  rcases nW ha with rfl | rfl <;> cases hs
theorem dD.Pq (h:dD P Y arr s ws)(hout:∀ i,s.size≤i→s.O i=none)(hnd:s.ch.Nodup){j:Nat}{k:Wk Y}{q:Y.bL}(hj:ws[j]?=some k)(hq:k.st=some q){z:Value}:Fits s.C (bN s.O 0 (some (#[scase k.p.tn zS z],.send))) 0 (j+1) k.p.tn 0 zS z zS .send .select k.p.fA:=by
 have hA:=h.apart hnd
 have who:∀ i cs sh,bN s.O 0 (some (#[scase k.p.tn zS z],CommShape.send)) i=some (cs,sh)→(i=0∧cs=#[scase k.p.tn zS z])∨(∃ (l:Nat) (k:Wk Y),i=l+1∧ws[l]?=some k∧cs=k.p.fA):=fun i cs sh e=>by
  by_cases ei:i=0
  ·rw [ei,eu] at e;cases e;exact .inl ⟨ei,rfl⟩
  ·rw [dz _ _ ei] at e
   obtain ⟨l,k,h1,h2,h3,_⟩:=h.who hout e
   exact .inr ⟨l,k,h1,h2,h3⟩
 refine ⟨fun i cs sh e=>?_,eu _ _ _,(dz _ _ ag).trans (h.seat j k q hj hq).1,rfl,fun m cc hm hcc e=>?_,ag,fun i l iU jM jq shl a b hil hi hl ha hb hs hr hc=>?_⟩
 ·rcases who i cs sh e with ⟨_,rfl⟩ | ⟨l,k',_,hk,rfl⟩
  ·exact .inl ⟨_,_,_,rfl,(h.mem.2 k (List.mem_of_getElem? hj)).1⟩
  ·exact h.plain hk
 ·have hx:=hA.own j k hj
  match m,hm with
  | 0,hm=>exact hm rfl
  | 1,_ =>
   have:cc=rcase k.p.ov zS:=by simpa [Post.fA] using hcc.symm
   rw [this] at e
   exact hx.1 (qK (show Value.chan (some k.p.tn)=.chan (some k.p.ov) from e.symm))
  | m+2,_=>simp [Post.fA] at hcc
 ·rcases who i iU jM hi with ⟨e1,rfl⟩ | ⟨_,k',_,hk,rfl⟩
  ·refine ⟨e1,?_⟩
   rcases who l jq shl hl with ⟨e2,_⟩ | ⟨l',k',e2,hk',rfl⟩
   ·exact absurd (e1.trans e2.symm) hil
   ·have ea:a=scase k.p.tn zS z:=by simpa using ha
    rw [ea] at hc
    apply Classical.byContradiction
    intro hne
    have hx:=hA.two j l' k k' (fun z=>hne ag) hj hk'
    rcases nW hb with rfl | rfl
    ·exact hx.1 (qK (show Value.chan (some k.p.tn)=.chan (some k'.p.tn) from hc))
    ·exact hx.2 (qK (show Value.chan (some k.p.tn)=.chan (some k'.p.ov) from hc))
  ·rcases nW ha with rfl | rfl <;> cases hs
theorem dD.Pt (h:dD P Y arr s ws)(hout:∀ i,s.size≤i→s.O i=none)(hnd:s.ch.Nodup){j:Nat}{v z z0:Value}{sh:CommShape}:Fits s.C (bN (bN s.O (j+1) (some (#[scase arr v z],.send))) 0 (some (#[rcase arr z0],sh))) (j+1) 0 arr 0 v z z0 .send sh #[rcase arr z0]:=by
 have hA:=h.apart hnd
 have who:∀ i cs sh',bN (bN s.O (j+1) (some (#[scase arr v z],CommShape.send))) 0 (some (#[rcase arr z0],sh)) i=some (cs,sh')→(i=0∧cs=#[rcase arr z0])∨(i=j+1∧cs=#[scase arr v z])∨(∃ (l:Nat) (k:Wk Y),i=l+1∧ws[l]?=some k∧cs=k.p.fA):=fun i cs sh' e=>by
  by_cases ei:i=0
  ·rw [ei,eu] at e;cases e;exact .inl ⟨ei,rfl⟩
  ·rw [dz _ _ ei] at e
   by_cases ej:i=j+1
   ·rw [ej,eu] at e;cases e;exact .inr (.inl ⟨ej,rfl⟩)
   ·rw [dz _ _ ej] at e
    obtain ⟨l,k,h1,h2,h3,_⟩:=h.who hout e
    exact .inr (.inr ⟨l,k,h1,h2,h3⟩)
 refine ⟨fun i cs sh e=>?_,(dz _ _ ag).trans (eu _ _ _),eu _ _ _,rfl,fun m cc hm hcc e=>?_,ag,fun i l iU jM jq shl a b hil hi hl ha hb hs hr hc=>?_⟩
 ·rcases who i cs sh e with ⟨_,rfl⟩ | ⟨_,rfl⟩ | ⟨l,k',_,hk,rfl⟩
  ·exact .inr fun cc hcc=>⟨arr,z0,by simpa using hcc,h.mem.1⟩
  ·exact .inl ⟨_,_,_,rfl,h.mem.1⟩
  ·exact h.plain hk
 ·match m,hm with
  | 0,hm=>exact hm rfl
  | m+1,_=>simp at hcc
 ·rcases who i iU jM hi with ⟨_,rfl⟩ | ⟨e1,rfl⟩ | ⟨_,k',_,hk,rfl⟩
  ·have:a=rcase arr z0:=by simpa using ha
   rw [this] at hs;cases hs
  ·refine ⟨e1,?_⟩
   have ea:a=scase arr v z:=by simpa using ha
   rcases who l jq shl hl with ⟨e2,_⟩ | ⟨e2,_⟩ | ⟨l',k',_,hk',rfl⟩
   ·exact e2
   ·exact absurd (e1.trans e2.symm) hil
   ·rw [ea] at hc
    have hx:=hA.own l' k' hk'
    rcases nW hb with rfl | rfl
    ·exact absurd (qK (show Value.chan (some arr)=.chan (some k'.p.tn) from hc)).symm hx.2.1
    ·exact absurd (qK (show Value.chan (some arr)=.chan (some k'.p.ov) from hc)).symm hx.2.2
  ·rcases nW ha with rfl | rfl <;> cases hs
theorem Pv {j:Nat}{a c:Option (Array CommCase×CommShape)}{b d:ai}:(s.seat j a b).seat j c d=s.seat j c d:=by
 have:∀ {α:Type} (O:Nat→α) (x y:α),bN (bN O j x) j y=bN O j y:=fun O x y=>by
  funext i
  by_cases e:i=j
  ·rw [e,eu,eu]
  ·rw [dz _ _ e,dz _ _ e,dz _ _ e]
 unfold Ring.seat
 simp only [this]
def iq (p:Post){α:Type}:Option α→Option (Array CommCase×CommShape)
 | some _=>some (p.fA,.select)
 | none=>none
def kU (P:Program)(Y:aN)(p:Post)(n:Nat):Option Y.bL→ai
 | some q=>fQ P Y p n q
 | none=>EV
theorem dD.next (h:dD P Y arr s ws){j:Nat}{k:Wk Y}(hj:ws[j]?=some k)(n:Nat)(x:Option Y.bL):dD P Y arr (s.seat (j+1) (iq k.p x) (kU P Y k.p n x)) (ws.set j ⟨k.p,x,n⟩):=by
 have hjl:=(List.getElem?_eq_some_iff.1 hj).1
 have at_:∀ (i:Nat) k',(ws.set j ⟨k.p,x,n⟩)[i]?=some k'→(i=j∧k'=⟨k.p,x,n⟩)∨(i≠j∧ws[i]?=some k'):=fun i k' e=>by
  by_cases ei:i=j
  ·subst ei
   rw [List.getElem?_set_self hjl] at e
   cases e
   exact .inl ⟨rfl,rfl⟩
  ·rw [List.getElem?_set_ne (fun z=>ei z.symm)] at e
   exact .inr ⟨ei,e⟩
 have post:∀ (i:Nat) k',(ws.set j ⟨k.p,x,n⟩)[i]?=some k'→∃ k0,ws[i]?=some k0∧k'.p=k0.p:=fun i k' e=>by
  rcases at_ i k' e with ⟨rfl,rfl⟩ | ⟨_,q⟩
  ·exact ⟨k,hj,rfl⟩
  ·exact ⟨k',q,rfl⟩
 have Gf:∀ k'∈ws.set j ⟨k.p,x,n⟩,∃ k0∈ws,k'.p=k0.p:=fun k' hk=>by
  obtain ⟨i,hi⟩:=List.mem_iff_getElem?.1 hk
  obtain ⟨k0,h1,h2⟩:=post i k' hi
  exact ⟨k0,List.mem_of_getElem? h1,h2⟩
 refine ⟨by rw [List.length_set];exact h.size,(show bN s.O (j+1) (iq k.p x) 0=none from (dz _ _ ag).trans h.zero),fun i k' q hi hq=>?_,fun i k' hi hq=>?_,fun k' hk=>?_,⟨h.mem.1,fun k' hk=>?_⟩,fun hnd=>⟨fun i k' hi=>?_,fun i l k1 k2 hil h1 h2=>?_⟩⟩
 ·rcases at_ i k' hi with ⟨rfl,rfl⟩ | ⟨ne,hi⟩
  ·simp only at hq
   subst hq
   exact ⟨eu _ _ _,eu _ _ _⟩
  ·obtain ⟨z1,z2⟩:=h.seat i k' q hi hq
   exact ⟨(dz _ _ ag).trans z1,(dz _ _ ag).trans z2⟩
 ·rcases at_ i k' hi with ⟨rfl,rfl⟩ | ⟨ne,hi⟩
  ·simp only at hq
   subst hq
   exact eu _ _ _
  ·exact (dz _ _ ag).trans (h.gone i k' hi hq)
 ·obtain ⟨k0,h1,h2⟩:=Gf k' hk
  rw [h2];exact h.vL k0 h1
 ·obtain ⟨k0,h1,h2⟩:=Gf k' hk
  rw [h2];exact h.mem.2 k0 h1
 ·obtain ⟨k0,h1,h2⟩:=post i k' hi
  rw [h2];exact (h.apart hnd).own i k0 h1
 ·obtain ⟨k3,h3,h4⟩:=post i k1 h1
  obtain ⟨k5,h5,h6⟩:=post l k2 h2
  rw [h4,h6];exact (h.apart hnd).two i l k3 k5 hil h3 h5
end
section
variable {P:Program}{Y:aN}{p:Post}{M:Nat→Prop}{w w1:World}{l r:List (Nat×Obj)}{o:Obj}{σ:Y.σ}
theorem Mm.Pw (h:Mm P M w (l ++ Y.sh σ) ((p.pb,o) :: r))(hh:M (2 * p.pb+1)):(∀ c,fw Y.B p.pb c→M c)∧(∀ b∈Y.sh σ,w.heap[b.1]?=some b.2)∧Mm P (less M (fw Y.B p.pb)) w l r∧(∀ x∈r,x.1≠p.pb)∧p.pb∉Y.B:=by
 have hn:=h.nodup
 simp only [List.map_append,List.map_cons,Y.fst σ,List.append_assoc] at hn
 obtain ⟨n1,n2,n3⟩:=List.nodup_append.1 hn
 obtain ⟨m1,m2,m3⟩:=List.nodup_append.1 n2
 obtain ⟨q1,q2⟩:=List.nodup_cons.1 m2
 have hsh:∀ b∈Y.sh σ,full M b.1∧w.heap[b.1]?=some b.2:=fun b hb=>h.own b (bR (hb))
 have kl:∀ x∈l,∀ c,c / 2=x.1→¬ fw Y.B p.pb c:=fun x hx c e q=>by
  have hx1:=List.mem_map_of_mem (f:=Prod.fst) hx
  rcases q with q | q
  ·exact n3 _ hx1 _ (aO ((e ▸ q))) rfl
  ·exact n3 _ hx1 _ (bR ((List.mem_cons.2 (.inl (by omega:x.1=p.pb))))) rfl
 have kr:∀ x∈r,∀ c,c / 2=x.1→¬ fw Y.B p.pb c:=fun x hx c e q=>by
  have hx1:=List.mem_map_of_mem (f:=Prod.fst) hx
  rcases q with q | q
  ·exact m3 _ (e ▸ q) _ (List.mem_cons.2 (.inr hx1)) rfl
  ·exact q1 ((by omega:p.pb=x.1) ▸ hx1)
 refine ⟨fun c hc=>?_,fun b hb=>(hsh b hb).2,⟨fun x hx=>?_,fun x hx=>?_,fun c hc=>h.low c hc.1,h.aX,h.base,?_⟩,fun x hx e=>q1 (e ▸ List.mem_map_of_mem (f:=Prod.fst) hx),fun z=>m3 _ z _ (List.mem_cons.2 (.inl rfl)) rfl⟩
 ·rcases hc with q | q
  ·obtain ⟨o',ho⟩:=(o8 (s:=σ)).1 q
   exact oI (hsh _ ho).1 rfl
  ·rw [q];exact hh
 ·have hx':=h.own x (aO (hx))
  exact ⟨⟨⟨hx'.1.1,kl x hx _ ag⟩,⟨hx'.1.2,kl x hx _ ag⟩⟩,hx'.2⟩
 ·have hx':=h.rd x (List.mem_cons.2 (.inr hx))
  exact ⟨hx'.1.elim (fun q=>.inl ⟨q,kr x hx _ ag⟩) fun q=>.inr ⟨q,kr x hx _ ag⟩,hx'.2⟩
 ·rw [List.map_append]
  exact List.nodup_append.2 ⟨n1,q2,fun x hx y hy e=>n3 x hx y (bR ((List.mem_cons.2 (.inr hy)))) e⟩
theorem xZ {b:Nat}{α:Type}(x:Option α)(hb:b∈Y.B):full (back Y.B p.pb x) b:=by
 cases x with
 | none=>exact ⟨by show 2 * b / 2∈Y.B;rw [show 2 * b / 2=b by omega];exact hb,by show (2 * b+1) / 2∈Y.B;rw [show (2 * b+1) / 2=b by omega];exact hb⟩
 | some _=>exact ⟨.inl (by rw [show 2 * b / 2=b by omega];exact hb),.inl (by rw [show (2 * b+1) / 2=b by omega];exact hb)⟩
theorem Mm.Px (h:Mm P M w l r){α:Type}(x:Option α)(hd:∀ c,back Y.B p.pb x c→¬ M c)(hs:∀ b∈Y.sh σ,w.heap[b.1]?=some b.2)(hl:∀ c,back Y.B p.pb x c→c / 2 < w.heap.size):Mm P (both M (back Y.B p.pb x)) w (l ++ Y.sh σ) r:=by
 have hlB:∀ y∈l,y.1∉Y.B:=fun y hy q=>hd _ (xZ x q).1 (h.own y hy).1.1
 have Py:∀ y∈r,y.1∉Y.B:=fun y hy q=>(h.rd y hy).1.elim (hd _ (xZ x q).1) (hd _ (xZ x q).2)
 refine ⟨fun y hy=>?_,fun y hy=>⟨(h.rd y hy).1.imp .inl .inl,(h.rd y hy).2⟩,fun c hc=>hc.elim (h.low c) (hl c),h.aX,h.base,?_⟩
 ·rcases List.mem_append.1 hy with q | q
  ·exact ⟨sD (h.own y q).1,(h.own y q).2⟩
  ·exact ⟨Ad (xZ x ((o8 (s:=σ)).2 ⟨y.2,q⟩)),hs y q⟩
 ·have hn:=h.nodup
  rw [List.map_append] at hn
  obtain ⟨n1,n2,n3⟩:=List.nodup_append.1 hn
  simp only [List.map_append,Y.fst σ,List.append_assoc]
  refine List.nodup_append.2 ⟨n1,List.nodup_append.2 ⟨Y.nodup,n2,fun a ha b hb e=>?_⟩,fun a ha b hb e=>?_⟩
  ·obtain ⟨z,hz,rfl⟩:=List.mem_map.1 hb
   exact Py z hz (e ▸ ha)
  ·obtain ⟨y,hy,rfl⟩:=List.mem_map.1 ha
   rcases List.mem_append.1 hb with q | q
   ·exact hlB y hy (e ▸ q)
   ·exact n3 _ (List.mem_map_of_mem hy) _ q e
theorem Mm.half (h:Mm P M w l r)(hp:M (2 * p.pb+1))(ho:w.heap[p.pb]?=some o)(hl:∀ x∈l ++ r,x.1≠p.pb):Mm P M w l ((p.pb,o) :: r):=by
 refine ⟨h.own,fun x hx=>?_,h.low,h.aX,h.base,?_⟩
 ·rcases List.mem_cons.1 hx with q | q
  ·rw [q];exact ⟨.inr hp,ho⟩
  ·exact h.rd x q
 ·have:(l ++ (p.pb,o) :: r).Perm ((p.pb,o) :: (l ++ r)):=List.perm_middle
  refine (this.map Prod.fst).nodup_iff.2 (List.nodup_cons.2 ⟨fun q=>?_,h.nodup⟩)
  obtain ⟨z,hz,e⟩:=List.mem_map.1 q
  exact hl z hz e
end
section
variable {P:Program}{Fin:bH}{Y:aN}{arr:Nat}{s:Ring}{ws:List (Wk Y)}{fn:FuncId}{kd:CallKind}{Q:aZ}{M:Nat→Prop}{a:Act}{w:World}{ops:Array Oper}{i:Nat}{rest:List Nat}{o:Oper}{l r:List (Nat×Obj)}{ob:Obj}{σ:Y.σ}{G:aJ}{j n:Nat}{k:Wk Y}{q:Y.bL}
theorem Gg (hc:dD P Y arr s ws)(hj:ws[j]?=some k){O':Option (Array CommCase×CommShape)}{H':ai}(hok:(s.seat (j+1) O' H').Ok P):∀ i,s.size≤i→s.O i=none:=fun i hi=>by
 have hjl:=(List.getElem?_eq_some_iff.1 hj).1
 have:=hok.out i hi
 exact (dz s.O O' (by have:=hc.size;omega)).symm.trans this
theorem Pz (hkd:kd≠.early)(ho:ops[i]?=some o)(hw:Region.wanted o (yielded ops a.tmps)=true){x y:Operand}(hop:o.op=.send x y)(hx:a.eval x=.chan (some k.p.tn))(hy:a.eval y=zS)(hc:dD P Y arr s ws)(hj:ws[j]?=some k)(hq:k.st=some q)(hn:k.n=n+1)(hE:s.E=G.env P)(hd0:G.d0=0)
  (hm:Mm P M w (l ++ Y.sh σ) ((k.p.pb,ob) :: r))(hh:M (2 * k.p.pb+1))
  (h:∀ M' w',(∀ c,M c→¬ fw Y.B k.p.pb c→M' c)→Mm P M' w' l r→(∀ x∈r,x.1≠k.p.pb)→k.p.pb∉Y.B→aG P true fn kd ops rest Q (aK P Fin (s.seat (j+1) (some (#[scase arr (.agg (Y.dM q σ).2.1) undef],.send)) (lQ P Y k.p (fQ P Y k.p n) (Y.dM q σ)))) M' (a.put o.dst undef) w'):aG P true fn kd ops (i :: rest) Q (aK P Fin s) M a w:=by
 have hjl:=(List.getElem?_eq_some_iff.1 hj).1
 have harr:=hc.vL k (List.mem_of_getElem? hj)
 obtain ⟨hO,hH⟩:=hc.seat j k q hj hq
 refine NL (O':=some (#[scase arr (.agg (Y.dM q σ).2.1) undef],.send)) (H':=lQ P Y k.p (fQ P Y k.p n) (Y.dM q σ)) hkd ho hw (FE hop hx hy) (j:=j+1) (k:=0) (zj:=zS) ag (by rw [hc.size];omega) hE hd0 (hc.mem.2 k (List.mem_of_getElem? hj)).1 hO (fun hok=>⟨hc.Pq hok.out hok.nodup hj hq,hc.Po hok.out hok.nodup⟩) fun w1 Mj gj k0 hok hrel hch iY vM vN hhome=>?_
 obtain ⟨m1,m2,m3,m4,m5⟩:=(hm.rely hrel).Pw hh
 rw [hH,hn] at hhome
 have hnl:¬ has (less M (fw Y.B k.p.pb)) k.p.tn:=fun z=>vM (z.elim (fun z=>.inl z.1) fun z=>.inr z.1)
 refine ⟨less M (fw Y.B k.p.pb),both Mj (fw Y.B k.p.pb),fun b hb=>.inl hb.1,fun b hb=>hb.elim .inr fun z=>.inl (m1 b z),fun b h1 h2=>h2.elim (fun z=>iY b h1.1 z) h1.2,h _ _ (fun c h1 h2=>⟨h1,h2⟩) (m3.rely (rD hch hnl _)) m4 m5,?_⟩
 have:=hhome σ (w1.setChan k.p.tn 0 #[] false (k0+1) (k0+1) false) (rD hch vN _) (fun b hb=>?_) (fun c h1 h2=>iY c (m1 c h1) h2)
 ·refine this.mono fun M' g' w' hs=>?_
  obtain ⟨g2,hcm,hs⟩:=hs
  rw [harr] at hcm
  exact .inl ⟨_,_,g2,eu _ _ _,hcm,by rw [eu];exact hs⟩
 ·have hne:k.p.tn≠b.1:=fun e=>vM (by
   have:=(hm.own b (bR (hb))).1.has
   rw [e];exact this)
  have:=m2 b hb
  simp only [World.setChan,Array.getElem?_setIfInBounds_ne hne]
  exact this
theorem PD (hkd:kd≠.early)(ho:ops[i]?=some o)(hw:Region.wanted o (yielded ops a.tmps)=true){z0:Value}{sh:CommShape}(hrun:∀ w1,(execOp a.eval o).runT P w1 #[]=(.ok (.comm #[rcase arr z0] true sh) w1,#[]))(hc:dD P Y arr s ws)(hj:ws[j]?=some k)(hE:s.E=G.env P)(hd0:G.d0=0)(hR:k.p.R=G.R)(hpq:k.p.q=G.q)(hjn:j+1≤G.n)
  {x:Y.σ×Array Value×Option Y.bL}(hm:Mm P M w l r)(hp:∀ x∈r,x.1≠k.p.pb)(qF:k.p.pb∉Y.B)
  (h:∀ M' w',(∀ c,M c→M' c)→(match x.2.2 with | some _=>Mm P M' w' (l ++ Y.sh x.1) ((k.p.pb,k.p.ob) :: r)∧M' (2 * k.p.pb+1) | none=>Mm P M' w' (l ++ Y.sh x.1) r)→aG P true fn kd ops rest Q (aK P Fin (s.seat (j+1) (iq k.p x.2.2) (kU P Y k.p n x.2.2))) M' (a.put o.dst (commResult #[rcase arr z0] sh 0 (.agg x.2.1) true)) w') :
  aG P true fn kd ops (i :: rest) Q (aK P Fin (s.seat (j+1) (some (#[scase arr (.agg x.2.1) undef],.send)) (lQ P Y k.p (fQ P Y k.p n) x))) M a w:=by
 have hjl:=(List.getElem?_eq_some_iff.1 hj).1
 have harr:=hc.vL k (List.mem_of_getElem? hj)
 refine NM (O':=iq k.p x.2.2) (H':=kU P Y k.p n x.2.2) hkd ho hw hrun (j:=j+1) ag (show j+1 < s.size by rw [hc.size];omega) (G:=G) hE hd0 hc.mem.1 (eu _ _ _) (fun hok=>⟨hc.Pt (Gg hc hj hok) hok.nodup,?_⟩) fun w1 Mj gj k0 hok hrel hch iY vN vM hhome=>?_
 ·have:=hc.Pp (Gg hc hj hok) hj (o:=iq k.p x.2.2) (by cases x.2.2 <;> simp [iq])
  have e:bN (s.seat (j+1) (some (#[scase arr (.agg x.2.1) undef],.send)) (lQ P Y k.p (fQ P Y k.p n) x)).O (j+1) (iq k.p x.2.2)=bN s.O (j+1) (iq k.p x.2.2):=by
   funext i
   by_cases e:i=j+1
   ·rw [e,eu,eu]
   ·rw [dz _ _ e,dz _ _ e]
    exact dz _ _ e
  rw [e];exact this
 ·have hH:(s.seat (j+1) (some (#[scase arr (.agg x.2.1) undef],.send)) (lQ P Y k.p (fQ P Y k.p n) x)).Home (j+1)=lQ P Y k.p (fQ P Y k.p n) x:=eu _ _ _
  rw [hH] at hhome
  obtain ⟨M0,rfl,hM0,hsh,bF,PE⟩:=hhome
  have hm1:=hm.rely hrel
  have Gh:∀ c,back Y.B k.p.pb x.2.2 c→¬ M c:=fun c h1 h2=>iY c (.inr h1) h2
  have hlow:∀ c,back Y.B k.p.pb x.2.2 c→c / 2 < w1.heap.size:=fun c hc'=>by
   have hB:c / 2∈Y.B→c / 2 < w1.heap.size:=fun q=>by
    obtain ⟨o',ho'⟩:=(o8 (s:=x.1)).1 q
    exact (Array.getElem?_eq_some_iff.1 (hsh _ ho')).1
   cases hx:x.2.2 with
   | none=>rw [hx] at hc';exact hB hc'
   | some _ =>
    rw [hx] at hc' bF
    rcases hc' with q | q
    ·exact hB q
    ·have:=(Array.getElem?_eq_some_iff.1 (bF rfl)).1
     omega
  have hrep:=hm1.Px x.2.2 Gh hsh hlow
  have hno:¬ has (both M (back Y.B k.p.pb x.2.2)) arr:=fun z=>by
   rcases z with (z | z) | (z | z)
   ·exact vM (.inl z)
   ·exact vN (.inl (.inr z))
   ·exact vM (.inr z)
   ·exact vN (.inr (.inr z))
  have Gi:=rD (P:=P) hch hno (.chan 0 #[] false (k0+1) (k0+1) false)
  refine ⟨M0,both M (back Y.B k.p.pb x.2.2),fun b hb=>.inl (.inl hb),fun b hb=>hb.elim .inr fun z=>.inl (.inr z),fun b h1 h2=>h2.elim (fun z=>iY b (.inl h1) z) fun z=>hM0 b z h1,?_,?_⟩
  ·have hr0:=PE (w1.setChan arr 0 #[] false (k0+1) (k0+1) false) (rD hch (fun z=>vN (z.imp .inl .inl)) _)
   rw [harr] at hr0
   refine hr0.mono fun M' g' w' hs=>?_
   cases hx:x.2.2 with
   | some q' =>
    rw [hx] at hs
    obtain ⟨g2,hcm,hs⟩:=hs
    exact .inl ⟨_,_,g2,eu _ _ _,hcm,by rw [eu];exact hs⟩
   | none =>
    rw [hx] at hs
    obtain ⟨h1,nn,h2⟩:=hs
    have hE':(s.seat (j+1) (some (#[scase arr (.agg x.2.1) undef],.send)) (lQ P Y k.p (fQ P Y k.p n) x)).E=G.env P:=hE
    refine .inr ⟨eu _ _ _,?_,h1,nn,?_⟩
    ·rw [hE'];exact ⟨ag,hjn⟩
    ·rw [hE']
     rw [hR,hpq] at h2
     exact h2
  ·rw [Pv]
   refine h _ _ (fun c hc'=>.inl hc') ?_
   have hmm:=hrep.rely Gi
   cases hx:x.2.2 with
   | none =>
    rw [hx] at hmm
    exact hmm
   | some q' =>
    rw [hx] at hmm bF
    have hright:both M (back Y.B k.p.pb (some q')) (2 * k.p.pb+1):=.inr (.inr rfl)
    refine ⟨hmm.half hright ((Gi.mine k.p.pb (by rw [hx];exact .inr hright)).trans (bF rfl)) fun y hy e=>?_,hright⟩
    rcases List.mem_append.1 hy with z | z
    ·rcases List.mem_append.1 z with z | z
     ·have hf:=(hm1.own y z).1
      exact Gh _ (by rw [hx];exact .inr rfl) (e ▸ hf.2)
     ·have hb:k.p.pb∈Y.B:=(o8 (s:=x.1)).2 ⟨y.2,by rw [← e];exact z⟩
      exact qF hb
    ·exact hp y z e
end
section
variable {P:Program}{Fin:bH}{s:Ring}{fn:FuncId}{kd:CallKind}{Q:aZ}{M:Nat→Prop}{a:Act}{w:World}{ops:Array Oper}{i:Nat}{rest:List Nat}{o:Oper}{d:Option Tmp}{l r:List (Nat×Obj)}
theorem yc {aD:Func}(hfn:P.funcs[fn]?=some aD)(hnr:aD.norace=false){t:TypeId}{x:Operand}{b k:Nat}{v:Value}(hop:o.op=.load t x)(hx:a.eval x=.pointer (some ⟨b,k,none⟩))(hud:(P.underlying t).map TypeDesc.isRow=some false)(w1:World)(hc:w1.cell? ⟨b,k,none⟩=some v):(execOp a.eval o).run P w1=.ok (.value v) w1∧listed P fn a o w1=#[⟨.cell ⟨b,k,none⟩,false,false⟩]:=by
 obtain ⟨dd,hu,hd⟩:=Option.map_eq_some_iff.1 hud
 have e1:execOp a.eval o=(do pure (Next.value (← Instr.loadAt t (.pointer (some ⟨b,k,none⟩))))):=by
  unfold execOp
  rw [hop,← hx]
 have hagg:(isAgg t).run P w1=.ok false w1:=by
  unfold isAgg
  rw [Sem.run_bind,run_underlying hu w1]
  cases dd <;> simp_all
 have hr:(Instr.loadAt t (.pointer (some ⟨b,k,none⟩))).run P w1=.ok v w1:=by
  simp [Instr.loadAt,Instr.sureAddr,loadVar,hagg,hc]
 have e2:(Instr.loadAt t (.pointer (some ⟨b,k,none⟩))).events P w1 #[]=#[⟨.cell ⟨b,k,none⟩,false,false⟩]:=by
  simp [Instr.loadAt,Instr.sureAddr,loadVar,Sem.events_bind,hagg,events_load,hc]
 refine ⟨by rw [e1,Sem.run_bind,hr];rfl,?_⟩
 unfold listed
 rw [e1,Sem.events_bind,hr,e2]
 exact iX hfn hnr _ _
theorem Gj {aD:Func}(hfn:P.funcs[fn]?=some aD)(hnr:aD.norace=false){t:TypeId}{x y:Operand}{b k:Nat}{v:Value}(hop:o.op=.store t x y)(hx:a.eval x=.pointer (some ⟨b,k,none⟩))(hy:a.eval y=v)(hi:(P.info? t).map (·.size)=some 1)(hv1:v.oneCell'=true)(w1:World)(u:Value)(hc:w1.cell? ⟨b,k,none⟩=some u)(hz:w1.frozen? ⟨b,k,none⟩=false):(execOp a.eval o).run P w1=.ok .skip (w1.setCell ⟨b,k,none⟩ v)∧listed P fn a o w1=#[⟨.cell ⟨b,k,none⟩,true,false⟩]:=by
 have e1:execOp a.eval o=(do Instr.storeAt t (.pointer (some ⟨b,k,none⟩)) v;pure Next.skip):=by
  unfold execOp
  rw [hop,← hx,← hy]
 have hcells:v.cells=#[v]:=by cases v <;> first | rfl | (simp [Value.oneCell'] at hv1)
 have hsz:(sizeOf t).run P w1=.ok 1 w1:=by
  cases hq:P.info? t with
  | none=>simp [hq] at hi
  | some inf=>simp [hq] at hi;simp [sizeOf,typeInfo,hq,hi]
 have hst:(store ⟨b,k,none⟩ v .plain).run P w1=.ok () (w1.setCell ⟨b,k,none⟩ v):=by
  rw [run_store P w1 _ v .plain hv1,hc]
  simp [hz]
 have hadd:(⟨b,k,none⟩:Addr).add 0=⟨b,k,none⟩:=Addr.add_mid b k 0
 have hev:(store ⟨b,k,none⟩ v .plain).events P w1 #[]=#[⟨.cell ⟨b,k,none⟩,true,false⟩]:=by
  rw [events_store P w1 #[] _ v .plain hv1]
  simp [hc,hz]
 have hrun:(Instr.storeAt t (.pointer (some ⟨b,k,none⟩)) v).run P w1=.ok () (w1.setCell ⟨b,k,none⟩ v):=by
  simp [Instr.storeAt,Instr.sureAddr,storeVar,hsz,hcells,storeCells,hadd,hst]
 have Aq:(Instr.storeAt t (.pointer (some ⟨b,k,none⟩)) v).events P w1 #[]=#[⟨.cell ⟨b,k,none⟩,true,false⟩]:=by
  simp [Instr.storeAt,Instr.sureAddr,storeVar,hsz,hcells,storeCells,hadd,hev,Sem.events_bind]
 refine ⟨by rw [e1,Sem.run_bind,hrun];rfl,?_⟩
 unfold listed
 rw [e1,Sem.events_bind,hrun,Aq]
 exact iX hfn hnr _ _
theorem lV {aD:Func}(hfn:P.funcs[fn]?=some aD)(hnr:aD.norace=false)(hkd:kd≠.early){t:TypeId}{x:Operand}(hi:aV ops i d (.load t x)){G:aJ}(hE:s.E=G.env P)(hf:G.dL){k:Nat}{v:Value}(hx:a.eval x=.pointer (some ⟨G.R,k,none⟩))(h1:k≠G.q)(h2:k≠G.q+1)(hv:G.c[k]?=some v)(hud:(P.underlying t).map TypeDesc.isRow=some false)
  (h:aG P true fn kd ops rest Q (aK P Fin s) M (a.put d v) w):aG P true fn kd ops (i :: rest) Q (aK P Fin s) M a w:=by
 obtain ⟨o,ho,rfl,hop,hw⟩:=hi.at a
 exact EY (Nr hkd ho hw (ad:=⟨G.R,k,none⟩) (v:=v) (fun w1 hc=>yc hfn hnr hop hx hud w1 hc) h) (xP hE hf h1 h2 hv)
theorem PG {aD:Func}(hfn:P.funcs[fn]?=some aD)(hnr:aD.norace=false)(hkd:kd≠.early){t:TypeId}{x y:Operand}(hi:aV ops i d (.store t x y)){b:aJ}(hE:s.E=(G0 b 0).env P)(hf:b.dL){k:Nat}{v:Value}(hx:a.eval x=.pointer (some ⟨b.R,k,none⟩))(hy:a.eval y=v)(h1:k≠b.q)(h2:k≠b.q+1)(hk:k < b.c.size)(hsz:(P.info? t).map (·.size)=some 1)(hv1:v.oneCell'=true)
  (h:aG P true fn kd ops rest Q (aK P Fin { s with E:=(G0 (b.set k v) 0).env P }) M (a.put d undef) w):aG P true fn kd ops (i :: rest) Q (aK P Fin s) M a w:=by
 obtain ⟨o,ho,rfl,hop,hw⟩:=hi.at a
 have hf0:(G0 b 0).dL:=⟨hf.shut,hf.room⟩
 refine EY (Ns hkd ho hw (ad:=⟨b.R,k,none⟩) (v:=v) (fun w1 u hc hz=>Gj hfn hnr hop hx hy hsz hv1 w1 u hc hz) h) (E7 (G:=G0 b 0) hE hf0 h1 h2 hk fun _=>?_)
 refine kQ (G:=G0 (b.set k v) 0) (xE b.n) ?_ hf.shut
 show b.q+1 < (b.c.setIfInBounds k v).size
 rw [Array.size_setIfInBounds]
 exact hf.room
theorem vO {b:aJ}(hf:b.dL)(k:Nat)(v:Value):(b.set k v).dL:=⟨hf.shut,by show b.q+1 < (b.c.setIfInBounds k v).size;rw [Array.size_setIfInBounds];exact hf.room⟩
theorem dD.env {Y:aN}{arr:Nat}{ws:List (Wk Y)}(h:dD P Y arr s ws)(E:Env):dD P Y arr { s with E:=E } ws:=⟨h.size,h.zero,h.seat,h.gone,h.vL,h.mem,h.apart⟩
theorem mM {t t':TypeId}{x:Operand}{k:Nat}(hk:k < 4611686018427387904)(hx:a.eval x=.int .i64 k):∀ o:Oper,o.op=.binOp .add t x (.const (.int .i64 1)) t'→dn P a o (.int .i64 ((k+1:Nat):Int)):=fun o hop w1=>by
 have e:execOp a.eval o=(do pure (Next.value (← (do eqGuard .add t x (.const (.int .i64 1)) (.int .i64 k) (.int .i64 1);binOp .add t (.int .i64 k) (.int .i64 1))))):=by
  unfold execOp
  rw [hop,← hx]
  rfl
 have e2:execOp a.eval o=Pure.pure (Next.value (.int .i64 ((k+1:Nat):Int))):=by
  rw [e,binOp_add]
  have:IntKind.i64.wrap ((k:Int)+1)=((k+1:Nat):Int):=by rw [wrap_small _ ag ag];rfl
  simp [eqGuard,Op.intArith,this]
 rw [e2]
 exact ⟨rfl,rfl⟩
theorem PH {t t':TypeId}{x:Operand}{k:Nat}(hx:a.eval x=.int .i64 k):∀ o:Oper,o.op=.binOp .eql t x (.const (.int .i64 0)) t'→dn P a o (.bool (decide (k=0))):=fun o hop w1=>by
 have e:execOp a.eval o=(do pure (Next.value (← (do eqGuard .eql t x (.const (.int .i64 0)) (.int .i64 k) (.int .i64 0);binOp .eql t (.int .i64 k) (.int .i64 0))))):=by
  unfold execOp
  rw [hop,← hx]
  rfl
 have hg:eqGuard .eql t x (.const (.int .i64 0)) (.int .i64 k) (.int .i64 0)=Pure.pure ():=rfl
 have e2:execOp a.eval o=Pure.pure (Next.value (.bool (decide (k=0)))):=by
  have hb:binOp .eql t (.int .i64 (k:Int)) (.int .i64 0)=Pure.pure (.bool ((k:Int) == 0)):=by simp [binOp,Op.intCmp]
  rw [e,hb,hg]
  have:((k:Int) == 0)=decide (k=0):=by
   by_cases h:k=0
   ·subst h;rfl
   ·have:¬ (k:Int)=0:=by omega
    simp [h]
  rw [this]
  rfl
 rw [e2]
 exact ⟨rfl,rfl⟩
theorem PI {t:TypeId}{x:Operand}{c:Nat}{z:Value}(hop:o.op=.recv t x false)(hx:a.eval x=.chan (some c))(hz:((P.underlying t).bind fun d=>match d with | .chan _ e=>(P.info? e).bind (·.zero) | _=>none)=some z):∀ w1,(execOp a.eval o).runT P w1 #[]=(.ok (.comm #[rcase c z] true (.recv false)) w1,#[]):=fun w1=>by
 obtain ⟨dd,hu,hd⟩:=Option.bind_eq_some_iff.1 hz
 cases dd with
 | chan dir e =>
  have lS:(zeroValue e).run P w1=.ok z w1:=by
   obtain ⟨inf,h1,h2⟩:=Option.bind_eq_some_iff.1 hd
   simp [zeroValue,typeInfo,h1,h2]
  refine Prod.ext ((Sem.runT_fst _ _ _ _).trans ?_) ?_
  ·unfold execOp
   simp [hop,hx,run_underlying hu,lS,rcase]
  ·unfold execOp
   simp [hop,hx,run_underlying hu,lS,Sem.events_bind]
 | _=>simp at hd
end
end Go.Blind
namespace Go.Proofs.Ytanploaffndpjaa
open Go Go.Blind Go.Conc
def bD (pb:Nat)(left halt:Int)(steps begin own:Nat)(fell:Bool)(ans:Value):Obj:=.cells #[.pointer (some ⟨pb,0,none⟩),.int .i64 left,.int .i64 halt,.int .i64 steps,.int .i64 begin,.int .i64 own,.bool fell,ans] 118 (0,0)
section
variable {Y:aN}{Fin:bH}{s:Ring}{b:aJ}{M:Nat→Prop}{a:Act}{w:World}{Q:aZ}{l r:List (Nat×Obj)}{bb pb:Nat}{left halt:Int}{steps begin own:Nat}{fell:Bool}{ans:Value}{S:ai}
theorem step0 (hs:a.tmps.size=73)(h0:a.eval (.tmp 0)=.pointer (some ⟨b.R,0,none⟩))(hE:s.E=(G0 b 0).env Try.prog)(hf:b.dL)(hq:b.q=2)(hz:b.c.size=5){k:Nat}(hv:b.c[4]?=some (.int .i64 (k:Nat)))(hk:k < 4611686018427387904)(hm:Mm Try.prog M w l r)(hQ:∀ a' w',a'.tmps.size=73→a'.defers=a.defers→(∀ x:Nat,x < 5→a'.eval (.tmp x)=a.eval (.tmp x))→Mm Try.prog M w' l r→Q .normal (aK Try.prog Fin { s with E:=(G0 (b.set 4 (.int .i64 ((k+1:Nat):Int))) 0).env Try.prog }) M a' w') :
  aM Try.prog true 45 .normal (.region 0 (opsOf 0 Try.f45.body) false) Q (aK Try.prog Fin s) M a w:=by
 refine kG [0,1,2,3,4,5,6,7] (kM (v:=.pointer (some ⟨b.R,0,none⟩)) 5 0 hm fun w hm=>?_)
 refine kN 6 5 hm fun w hm=>kP (fo:=4) (off:=0) 7 99 6 3 hm fun w hm=>lV Try.func45 rfl ae (d:=some 8) (t:=3) (x:=.tmp 7) eI (G:=G0 b 0) hE ⟨hf.shut,hf.room⟩ (k:=4) (v:=.int .i64 (k:Nat)) eV (by show 4≠b.q;omega) (by show 4≠b.q+1;omega) hv af ?_
 refine kR (d:=some 9) (mM (t:=3) (t':=3) (x:=.tmp 8) (k:=k) hk eV) hm fun w hm=>?_
 refine kN 10 5 hm fun w hm=>kP (fo:=4) (off:=0) 11 99 10 3 hm fun w hm=>PG Try.func45 rfl ae (d:=none) (t:=3) (x:=.tmp 11) (y:=.tmp 9) eI (b:=b) hE hf (k:=4) (v:=.int .i64 ((k+1:Nat):Int)) eV eV ag ag ag af rfl ?_
 refine aA (hQ _ _ bJ (by simp only [bO,bV]) (fun x hx=>?_) hm)
 rw [bV,eP,eP,eP,eP,eP,eP,eP,if_neg ag,if_neg ag,if_neg ag,if_neg ag,if_neg ag,if_neg ag,if_neg ag]
theorem step1 (hs:a.tmps.size=73)(h1:a.eval (.tmp 1)=.pointer (some ⟨bb,0,none⟩))(hk:steps < 4611686018427387904)(hm:Mm Try.prog M w ((bb,bD pb left halt steps begin own fell ans) :: l) r)(hQ:∀ a' w',a'.tmps.size=73→a'.defers=a.defers→(∀ x:Nat,x < 5→a'.eval (.tmp x)=a.eval (.tmp x))→Mm Try.prog M w' ((bb,bD pb left halt (steps+1) begin own fell ans) :: l) r→Q .normal S M a' w') :
  aM Try.prog true 45 .normal (.region 1 (opsOf 1 Try.f45.body) false) Q S M a w:=by
 refine kG [0,1,2,3,4,5,6,7] (kM (v:=.pointer (some ⟨bb,0,none⟩)) 12 1 hm fun w hm=>?_)
 refine kN 13 12 hm fun w hm=>kP (fo:=3) (off:=0) 14 118 13 3 hm fun w hm=>kL (d:=some 15) (t:=3) (x:=.tmp 14) (n:=0) (b:=bb) (k:=3) eV hm rfl (v:=.int .i64 (steps:Nat)) rfl fun w hm=>?_
 refine kR (d:=some 16) (mM (t:=3) (t':=3) (x:=.tmp 15) (k:=steps) hk eV) hm fun w hm=>?_
 refine kN 17 12 hm fun w hm=>kP (fo:=3) (off:=0) 18 118 17 3 hm fun w hm=>lU ae Try.func45 rfl (d:=none) (t:=3) (x:=.tmp 18) (y:=.tmp 16) eI (n:=0) (b:=bb) (k:=3) (v:=.int .i64 ((steps+1:Nat):Int)) eV eV hm rfl (by show 3 < 8;decide) af rfl fun w hm=>?_
 refine aA (hQ _ _ bJ (by simp only [bO,bV]) (fun x hx=>?_) hm)
 rw [bV,eP,eP,eP,eP,eP,eP,eP,if_neg ag,if_neg ag,if_neg ag,if_neg ag,if_neg ag,if_neg ag,if_neg ag]
theorem step2 (hs:a.tmps.size=73)(h1:a.eval (.tmp 1)=.pointer (some ⟨bb,0,none⟩))(hm:Mm Try.prog M w ((bb,bD pb left halt steps begin own fell ans) :: l) r)(hQ:∀ a' w',a'.tmps.size=73→a'.defers=a.defers→(∀ x:Nat,x < 5→a'.eval (.tmp x)=a.eval (.tmp x))→a'.eval (.tmp 23)=.bool (decide (own=0))→Mm Try.prog M w' ((bb,bD pb left halt steps begin own fell ans) :: l) r→Q .normal S M a' w') :
  aM Try.prog true 45 .normal (.region 2 (opsOf 2 Try.f45.body) false) Q S M a w:=by
 refine kG [0,1,2,3,4] (kM (v:=.pointer (some ⟨bb,0,none⟩)) 19 1 hm fun w hm=>?_)
 refine kN 20 19 hm fun w hm=>kP (fo:=5) (off:=0) 21 118 20 5 hm fun w hm=>kL (d:=some 22) (t:=3) (x:=.tmp 21) (n:=0) (b:=bb) (k:=5) eV hm rfl (v:=.int .i64 (own:Nat)) rfl fun w hm=>?_
 refine kR (d:=some 23) (PH (t:=3) (t':=3) (x:=.tmp 22) (k:=own) eV) hm fun w hm=>?_
 refine aA (hQ _ _ bJ (by simp only [bO]) (fun x hx=>?_) eV hm)
 rw [eP,eP,eP,eP,eP,if_neg ag,if_neg ag,if_neg ag,if_neg ag,if_neg ag]
theorem PK (hs:a.tmps.size=73)(h0:a.eval (.tmp 0)=.pointer (some ⟨b.R,0,none⟩))(h1:a.eval (.tmp 1)=.pointer (some ⟨bb,0,none⟩))(hE:s.E=(G0 b 0).env Try.prog)(hf:b.dL)(hq:b.q=2){k:Nat}(hv:b.c[4]?=some (.int .i64 (k:Nat)))(hm:Mm Try.prog M w ((bb,bD pb left halt steps begin own fell ans) :: l) r)(hQ:∀ a' w',a'.tmps.size=73→a'.defers=a.defers→(∀ x:Nat,x < 5→a'.eval (.tmp x)=a.eval (.tmp x))→Mm Try.prog M w' ((bb,bD pb left halt steps k own fell ans) :: l) r→Q .normal (aK Try.prog Fin s) M a' w') :
  aM Try.prog true 45 .normal (.region 3 (opsOf 3 Try.f45.body) false) Q (aK Try.prog Fin s) M a w:=by
 refine kG [0,1,2,3,4,5,6,7] (kM (v:=.pointer (some ⟨bb,0,none⟩)) 24 1 hm fun w hm=>?_)
 refine kM (v:=.pointer (some ⟨b.R,0,none⟩)) 25 0 hm fun w hm=>kN 26 25 hm fun w hm=>kP (fo:=4) (off:=0) 27 99 26 3 hm fun w hm=>lV Try.func45 rfl ae (d:=some 28) (t:=3) (x:=.tmp 27) eI (G:=G0 b 0) hE ⟨hf.shut,hf.room⟩ (k:=4) (v:=.int .i64 (k:Nat)) eV (by show 4≠b.q;omega) (by show 4≠b.q+1;omega) hv af ?_
 refine kN 29 24 hm fun w hm=>kP (fo:=4) (off:=0) 30 118 29 4 hm fun w hm=>lU ae Try.func45 rfl (d:=none) (t:=3) (x:=.tmp 30) (y:=.tmp 28) eI (n:=0) (b:=bb) (k:=4) (v:=.int .i64 (k:Nat)) eV eV hm rfl (by show 4 < 8;decide) af rfl fun w hm=>?_
 refine aA (hQ _ _ bJ (by simp only [bO,bV]) (fun x hx=>?_) hm)
 rw [bV,eP,eP,eP,eP,eP,eP,eP,if_neg ag,if_neg ag,if_neg ag,if_neg ag,if_neg ag,if_neg ag,if_neg ag]
theorem PL (hs:a.tmps.size=73)(h1:a.eval (.tmp 1)=.pointer (some ⟨bb,0,none⟩))(hk:own < 4611686018427387904)(hm:Mm Try.prog M w ((bb,bD pb left halt steps begin own fell ans) :: l) r)(hQ:∀ a' w',a'.tmps.size=73→a'.defers=a.defers→(∀ x:Nat,x < 5→a'.eval (.tmp x)=a.eval (.tmp x))→Mm Try.prog M w' ((bb,bD pb left halt steps begin (own+1) fell ans) :: l) r→Q .normal S M a' w') :
  aM Try.prog true 45 .normal (.region 4 (opsOf 4 Try.f45.body) false) Q S M a w:=by
 refine kG [0,1,2,3,4,5,6,7] (kM (v:=.pointer (some ⟨bb,0,none⟩)) 31 1 hm fun w hm=>?_)
 refine kN 32 31 hm fun w hm=>kP (fo:=5) (off:=0) 33 118 32 5 hm fun w hm=>kL (d:=some 34) (t:=3) (x:=.tmp 33) (n:=0) (b:=bb) (k:=5) eV hm rfl (v:=.int .i64 (own:Nat)) rfl fun w hm=>?_
 refine kR (d:=some 35) (mM (t:=3) (t':=3) (x:=.tmp 34) (k:=own) hk eV) hm fun w hm=>?_
 refine kN 36 31 hm fun w hm=>kP (fo:=5) (off:=0) 37 118 36 5 hm fun w hm=>lU ae Try.func45 rfl (d:=none) (t:=3) (x:=.tmp 37) (y:=.tmp 35) eI (n:=0) (b:=bb) (k:=5) (v:=.int .i64 ((own+1:Nat):Int)) eV eV hm rfl (by show 5 < 8;decide) af rfl fun w hm=>?_
 refine aA (hQ _ _ bJ (by simp only [bO,bV]) (fun x hx=>?_) hm)
 rw [bV,eP,eP,eP,eP,eP,eP,eP,if_neg ag,if_neg ag,if_neg ag,if_neg ag,if_neg ag,if_neg ag,if_neg ag]
theorem PM (hs:a.tmps.size=73)(h1:a.eval (.tmp 1)=.pointer (some ⟨bb,0,none⟩)){arr j n:Nat}{ws:List (Wk Y)}{k:Wk Y}{q:Y.bL}{σ:Y.σ}(hE:s.E=(G0 b 0).env Try.prog)(hc:dD Try.prog Y arr s ws)(hj:ws[j]?=some k)(hq:k.st=some q)(hn:k.n=n+1)(hm:Mm Try.prog M w (((bb,bD k.p.pb left halt steps begin own fell ans) :: l) ++ Y.sh σ) ((k.p.pb,aR k.p false false) :: r))(hh:M (2 * k.p.pb+1))
  (hQ:∀ a' w' M',a'.tmps.size=73→a'.defers=a.defers→(∀ x:Nat,x < 5→a'.eval (.tmp x)=a.eval (.tmp x))→(∀ c,M c→¬ fw Y.B k.p.pb c→M' c)→Mm Try.prog M' w' ((bb,bD k.p.pb left halt steps begin own fell ans) :: l) r→(∀ x∈r,x.1≠k.p.pb)→k.p.pb∉Y.B→Q .normal (aK Try.prog Fin (s.seat (j+1) (some (#[scase arr (.agg (Y.dM q σ).2.1) undef],.send)) (lQ Try.prog Y k.p (fQ Try.prog Y k.p n) (Y.dM q σ)))) M' a' w') :
  aM Try.prog true 45 .normal (.region 5 (opsOf 5 Try.f45.body) false) Q (aK Try.prog Fin s) M a w:=by
 obtain ⟨np,hnp⟩:∃ np:Nat,((((bb,bD k.p.pb left halt steps begin own fell ans) :: l) ++ Y.sh σ) ++ ((k.p.pb,aR k.p false false) :: r))[np]?=some (k.p.pb,aR k.p false false):=List.mem_iff_getElem?.1 ah
 refine kG [0,1,2,3,4,5,6,7,8] (kM (v:=.pointer (some ⟨bb,0,none⟩)) 38 1 hm fun w hm=>?_)
 refine kN 39 38 hm fun w hm=>kP (fo:=0) (off:=0) 40 118 39 0 hm fun w hm=>kL (d:=some 41) (t:=111) (x:=.tmp 40) (n:=0) (b:=bb) (k:=0) eV hm rfl (v:=.pointer (some ⟨k.p.pb,0,none⟩)) rfl fun w hm=>?_
 refine kN 42 41 hm fun w hm=>kP (fo:=0) (off:=0) 43 115 42 0 hm fun w hm=>kL (d:=some 44) (t:=112) (x:=.tmp 43) (n:=np) (b:=k.p.pb) (k:=0) eV hm hnp (v:=.chan (some k.p.tn)) rfl fun w hm=>?_
 refine kR (d:=some 45) (p:=.build 58 #[]) (fun o ho=>ik ho (vs:=[]) rfl (cells:=#[]) af) hm fun w hm=>?_
 obtain ⟨o,ho,hd,hop,hw⟩:=aV.at (ops:=(opsOf 5 Try.f45.body)) (i:=8) (d:=none) (p:=.send (.tmp 44) (.tmp 45)) eI _
 refine Pz ae ho hw hop eV eV hc hj hq hn hE rfl hm hh fun M' w' k1 hm' k2 k3=>?_
 rw [hd]
 refine aA (hQ _ _ _ bJ (by simp only [bO,bV]) (fun x hx=>?_) k1 hm' k2 k3)
 rw [bV,eP,eP,eP,eP,eP,eP,eP,eP,if_neg ag,if_neg ag,if_neg ag,if_neg ag,if_neg ag,if_neg ag,if_neg ag,if_neg ag]
def iJ (v:Array Value):Obj:=.cells v 133 (0,0)
def Rx {α:Type}(p:Post)(r:List (Nat×Obj)):Option α→List (Nat×Obj)
 | some _=>(p.pb,p.ob) :: r
 | none=>r
theorem PN (hs:a.tmps.size=73)(h0:a.eval (.tmp 0)=.pointer (some ⟨b.R,0,none⟩)){arr j n:Nat}{ws:List (Wk Y)}{k:Wk Y}{x:Y.σ×Array Value×Option Y.bL}(hE:s.E=(G0 b 0).env Try.prog)(hf:b.dL)(hq:b.q=2)(hv:b.c[1]?=some (.chan (some arr)))(hc:dD Try.prog Y arr s ws)(hj:ws[j]?=some k)(hR:k.p.R=b.R)(hpq:k.p.q=b.q)(hjn:j+1≤b.n)(h11:x.2.1.size=11)(hcell:∀ v∈x.2.1,v.oneCell'=true)(hm:Mm Try.prog M w l r)(hp:∀ x∈r,x.1≠k.p.pb)(qF:k.p.pb∉Y.B)
  (hQ:∀ a' w' M' b4,a'.tmps.size=73→a'.defers=a.defers→(∀ x:Nat,x < 4→a'.eval (.tmp x)=a.eval (.tmp x))→a'.eval (.tmp 4)=.pointer (some ⟨b4,0,none⟩)→(∀ c,M c→M' c)→(x.2.2.isSome=true→M' (2 * k.p.pb+1))→Mm Try.prog M' w' ((l ++ [(b4,iJ x.2.1)]) ++ Y.sh x.1) (Rx k.p r x.2.2)→Q .normal (aK Try.prog Fin (s.seat (j+1) (iq k.p x.2.2) (kU Try.prog Y k.p n x.2.2))) M' a' w') :
  aM Try.prog true 45 .normal (.region 6 (opsOf 6 Try.f45.body) false) Q (aK Try.prog Fin (s.seat (j+1) (some (#[scase arr (.agg x.2.1) undef],.send)) (lQ Try.prog Y k.p (fQ Try.prog Y k.p n) x))) M a w:=by
 have hE':(s.seat (j+1) (some (#[scase arr (.agg x.2.1) undef],.send)) (lQ Try.prog Y k.p (fQ Try.prog Y k.p n) x)).E=(G0 b 0).env Try.prog:=hE
 refine kG [0,1,2,3,4,5,6] (kM (v:=.pointer (some ⟨b.R,0,none⟩)) 46 0 hm fun w hm=>?_)
 refine kN 47 46 hm fun w hm=>kP (fo:=1) (off:=0) 48 99 47 1 hm fun w hm=>lV Try.func45 rfl ae (d:=some 49) (t:=89) (x:=.tmp 48) eI (G:=G0 b 0) hE' ⟨hf.shut,hf.room⟩ (k:=1) (v:=.chan (some arr)) eV (by show 1≠b.q;omega) (by show 1≠b.q+1;omega) hv af ?_
 obtain ⟨o,ho,hd,hop,hw⟩:=aV.at (ops:=(opsOf 6 Try.f45.body)) (i:=4) (d:=some 50) (p:=.recv 89 (.tmp 49) false) eI _
 refine PD (n:=n) (G:=G0 b 0) (z0:=zA) (sh:=.recv false) ae ho hw (PI hop eV af) hc hj hE rfl hR hpq hjn hm hp qF fun M1 w1 k1 hmx=>?_
 rw [hd,show commResult #[rcase arr zA] (.recv false) 0 (.agg x.2.1) true=.agg x.2.1 by simp [commResult]]
 obtain ⟨hmx,hhx⟩:Mm Try.prog M1 w1 (l ++ Y.sh x.1) (Rx k.p r x.2.2)∧(x.2.2.isSome=true→M1 (2 * k.p.pb+1)):=by
  cases hx:x.2.2 with
  | none=>rw [hx] at hmx;exact ⟨hmx,fun z=>by cases z⟩
  | some q2=>rw [hx] at hmx;exact ⟨hmx.1,fun _=>hmx.2⟩
 obtain ⟨o5,PO,hd5,PQ,PS⟩:=aV.at (ops:=(opsOf 6 Try.f45.body)) (i:=5) (d:=some 4) (p:=.alloc 133) eI _
 refine dx (qH ae PO PS PQ (z:=zA) af hmx fun b4 w2 hm2=>?_)
 rw [hd5]
 obtain ⟨o6,PT,hd6,PU,PV⟩:=aV.at (ops:=(opsOf 6 Try.f45.body)) (i:=6) (d:=none) (p:=.store 133 (.tmp 4) (.tmp 50)) eI _
 refine dx (qG ae PT PV PU (n:=(l ++ Y.sh x.1).length) (b:=b4) eV (vs:=x.2.1.toList) (by rw [eN,eP];simp) (c:=gL) (e:=133) hm2 (by rw [List.getElem?_append_right (Nat.le_refl _)];simp [zA];rfl) (by rw [Array.length_toList,h11];rfl) (by rw [Array.length_toList,h11];kernel_rfl) (fun v hv=>hcell v (by simpa using hv)) fun w3 mO=>?_)
 rw [hd6]
 refine aA (hQ _ _ _ b4 bJ (by simp only [bO,bV]) (fun x hx=>?_) (by rw [bV,eP];rfl) (fun c h=>.inl (k1 c h)) (fun h=>.inl (hhx h)) ?_)
 ·rw [bV,eP,eP,eP,eP,eP,eP,if_neg ag,if_neg ag,if_neg ag,if_neg ag,if_neg ag,if_neg ag]
 ·have e:((l ++ Y.sh x.1) ++ [(b4,Obj.cells zA.cells 133 (0,0))]).set (l ++ Y.sh x.1).length (b4,Obj.cells x.2.1.toList.toArray 133 (0,0))=(l ++ Y.sh x.1) ++ [(b4,iJ x.2.1)]:=by
   rw [List.set_append_right _ _ (Nat.le_refl _)]
   simp [iJ]
  rw [e] at mO
  exact mO.perm (Ak l (Y.sh x.1) _)
theorem Gl (hs:a.tmps.size=73){b4 i:Nat}{v:Array Value}{e:Bool}(h4:a.eval (.tmp 4)=.pointer (some ⟨b4,0,none⟩))(hm:Mm Try.prog M w l r)(hb:(l ++ r)[i]?=some (b4,iJ v))(hv:v[1]?=some (.bool e))(hQ:∀ a' w',a'.tmps.size=73→a'.defers=a.defers→(∀ x:Nat,x < 5→a'.eval (.tmp x)=a.eval (.tmp x))→a'.eval (.tmp 52)=.bool e→Mm Try.prog M w' l r→Q .normal S M a' w') :
  aM Try.prog true 45 .normal (.region 7 (opsOf 7 Try.f45.body) false) Q S M a w:=by
 refine kG [0,1] (kP (fo:=1) (off:=0) 51 133 4 1 hm fun w hm=>?_)
 refine kL (d:=some 52) (t:=4) (x:=.tmp 51) (n:=i) (b:=b4) (k:=1) eV hm hb (v:=.bool e) hv fun w hm=>?_
 refine aA (hQ _ _ bJ (by simp only [bO]) (fun x hx=>?_) eV hm)
 rw [eP,eP,if_neg ag,if_neg ag]
theorem Gm (hs:a.tmps.size=73){b4 i:Nat}{v:Array Value}{e:Bool}(h4:a.eval (.tmp 4)=.pointer (some ⟨b4,0,none⟩))(hm:Mm Try.prog M w l r)(hb:(l ++ r)[i]?=some (b4,iJ v))(hv:v[0]?=some (.bool e))(hQ:∀ a' w',a'.tmps.size=73→a'.defers=a.defers→(∀ x:Nat,x < 5→a'.eval (.tmp x)=a.eval (.tmp x))→a'.eval (.tmp 64)=.bool e→Mm Try.prog M w' l r→Q .normal S M a' w') :
  aM Try.prog true 45 .normal (.region 10 (opsOf 10 Try.f45.body) false) Q S M a w:=by
 refine kG [0,1] (kP (fo:=0) (off:=0) 63 133 4 0 hm fun w hm=>?_)
 refine kL (d:=some 64) (t:=4) (x:=.tmp 63) (n:=i) (b:=b4) (k:=0) eV hm hb (v:=.bool e) hv fun w hm=>?_
 refine aA (hQ _ _ bJ (by simp only [bO]) (fun x hx=>?_) eV hm)
 rw [eP,eP,if_neg ag,if_neg ag]
end
theorem Gu:Try.f45.body=some (.seq (.region 0 (opsOf 0 Try.f45.body) false) (.seq (.region 1 (opsOf 1 Try.f45.body) false) (.seq (.seq (.region 2 (opsOf 2 Try.f45.body) false) (.cond (.tmp 23) (.region 3 (opsOf 3 Try.f45.body) false) .skip)) (.seq (.region 4 (opsOf 4 Try.f45.body) false) (.seq (.region 5 (opsOf 5 Try.f45.body) false) (.seq (.region 6 (opsOf 6 Try.f45.body) false) (.seq (.region 7 (opsOf 7 Try.f45.body) false) (.cond (.tmp 52) (.seq (.region 8 (opsOf 8 Try.f45.body) false) (.region 9 (opsOf 9 Try.f45.body) false)) (.seq (.region 10 (opsOf 10 Try.f45.body) false) (.cond (.tmp 64) (.region 11 (opsOf 11 Try.f45.body) true) .skip)))))))))):=by kernel_rfl
section
variable {Y:aN}{Fin:bH}{s:Ring}{b:aJ}{M:Nat→Prop}{a:Act}{w:World}{l r:List (Nat×Obj)}{bb:Nat}{left halt:Int}{steps begin own:Nat}{fell:Bool}{ans:Value}{arr j n k:Nat}{ws:List (Wk Y)}{kw:Wk Y}{q:Y.bL}{σ:Y.σ}{x:Y.σ×Array Value×Option Y.bL}
theorem Gv {Q:aZ}(hs:a.tmps.size=73)(h0:a.eval (.tmp 0)=.pointer (some ⟨b.R,0,none⟩))(h1:a.eval (.tmp 1)=.pointer (some ⟨bb,0,none⟩))(hE:s.E=(G0 b 0).env Try.prog)(hf:b.dL)(hq2:b.q=2)(hz:b.c.size=5)(hv1:b.c[1]?=some (.chan (some arr)))(hv4:b.c[4]?=some (.int .i64 (k:Nat)))(hk:k < 4611686018427387904)(hks:steps < 4611686018427387904)(hko:own < 4611686018427387904)(hc:dD Try.prog Y arr s ws)(hj:ws[j]?=some kw)(hst:kw.st=some q)(hn:kw.n=n+1)(hR:kw.p.R=b.R)(hpq:kw.p.q=b.q)(hjn:j+1≤b.n)(bF:kw.p.ob=aR kw.p false false)(hl:Y.dM q σ=x)(h11:x.2.1.size=11)(hcell:∀ v∈x.2.1,v.oneCell'=true)
  (hm:Mm Try.prog M w (((bb,bD kw.p.pb left halt steps begin own fell ans) :: l) ++ Y.sh σ) ((kw.p.pb,kw.p.ob) :: r))(hh:M (2 * kw.p.pb+1))
  (hQ:∀ a' w' M' b4,a'.tmps.size=73→a'.defers=a.defers→a'.eval (.tmp 0)=.pointer (some ⟨b.R,0,none⟩)→a'.eval (.tmp 1)=.pointer (some ⟨bb,0,none⟩)→a'.eval (.tmp 4)=.pointer (some ⟨b4,0,none⟩)→(∀ c,M c→¬ fw Y.B kw.p.pb c→M' c)→(x.2.2.isSome=true→M' (2 * kw.p.pb+1))→Mm Try.prog M' w' ((((bb,bD kw.p.pb left halt (steps+1) (if own=0 then k+1 else begin) (own+1) fell ans) :: l) ++ [(b4,iJ x.2.1)]) ++ Y.sh x.1) (Rx kw.p r x.2.2)→aM Try.prog true 45 .normal (.seq (.region 7 (opsOf 7 Try.f45.body) false) (.cond (.tmp 52) (.seq (.region 8 (opsOf 8 Try.f45.body) false) (.region 9 (opsOf 9 Try.f45.body) false)) (.seq (.region 10 (opsOf 10 Try.f45.body) false) (.cond (.tmp 64) (.region 11 (opsOf 11 Try.f45.body) true) .skip)))) Q (aK Try.prog Fin (({ s with E:=(G0 (b.set 4 (.int .i64 ((k+1:Nat):Int))) 0).env Try.prog }:Ring).seat (j+1) (iq kw.p x.2.2) (kU Try.prog Y kw.p n x.2.2))) M' a' w') :
  aM Try.prog true 45 .normal (.seq (.region 0 (opsOf 0 Try.f45.body) false) (.seq (.region 1 (opsOf 1 Try.f45.body) false) (.seq (.seq (.region 2 (opsOf 2 Try.f45.body) false) (.cond (.tmp 23) (.region 3 (opsOf 3 Try.f45.body) false) .skip)) (.seq (.region 4 (opsOf 4 Try.f45.body) false) (.seq (.region 5 (opsOf 5 Try.f45.body) false) (.seq (.region 6 (opsOf 6 Try.f45.body) false) (.seq (.region 7 (opsOf 7 Try.f45.body) false) (.cond (.tmp 52) (.seq (.region 8 (opsOf 8 Try.f45.body) false) (.region 9 (opsOf 9 Try.f45.body) false)) (.seq (.region 10 (opsOf 10 Try.f45.body) false) (.cond (.tmp 64) (.region 11 (opsOf 11 Try.f45.body) true) .skip)))))))))) Q (aK Try.prog Fin s) M a w:=by
 refine ak (step0 hs h0 hE hf hq2 hz hv4 hk hm fun a w p1 p2 p3 hm=>?_)
 replace h0:=(p3 0 ae).trans h0
 replace h1:=(p3 1 ae).trans h1
 obtain ⟨b',hb'⟩:∃ b':aJ,b'=b.set 4 (.int .i64 ((k+1:Nat):Int)):=⟨_,rfl⟩
 have hE':({ s with E:=(G0 (b.set 4 (.int .i64 ((k+1:Nat):Int))) 0).env Try.prog }:Ring).E=(G0 b' 0).env Try.prog:=by rw [hb']
 have hc':=hc.env ((G0 (b.set 4 (.int .i64 ((k+1:Nat):Int))) 0).env Try.prog)
 have hf':b'.dL:=by rw [hb'];exact vO hf _ _
 have hR':b'.R=b.R:=by rw [hb'];rfl
 have hq':b'.q=2:=by rw [hb'];exact hq2
 have hn':b'.n=b.n:=by rw [hb'];rfl
 have Qk:b'.c[4]?=some (.int .i64 ((k+1:Nat):Int)):=by
  rw [hb']
  show (b.c.setIfInBounds 4 _)[4]?=_
  rw [Array.getElem?_setIfInBounds_self_of_lt ag]
 have Ql:b'.c[1]?=some (.chan (some arr)):=by
  rw [hb']
  show (b.c.setIfInBounds 4 _)[1]?=_
  rw [Array.getElem?_setIfInBounds_ne ae]
  exact hv1
 rw [← hR'] at h0 hR
 have Qm:kw.p.q=b'.q:=hpq.trans (hq2.trans hq'.symm)
 clear hb' p3
 refine ak (step1 p1 h1 hks hm fun a w p1 q2 p3 hm=>?_)
 replace h0:=(p3 0 ae).trans h0
 replace h1:=(p3 1 ae).trans h1
 replace p2:=q2.trans p2
 clear p3 q2
 have rest:∀ (a':Act) (w:World) (bg:Nat),bg=(if own=0 then k+1 else begin)→a'.tmps.size=73→a'.defers=a.defers→(∀ x:Nat,x < 5→a'.eval (.tmp x)=a.eval (.tmp x))→Mm Try.prog M w ((bb,bD kw.p.pb left halt (steps+1) bg own fell ans) :: (l ++ Y.sh σ)) ((kw.p.pb,kw.p.ob) :: r)→aM Try.prog true 45 .normal (.seq (.region 4 (opsOf 4 Try.f45.body) false) (.seq (.region 5 (opsOf 5 Try.f45.body) false) (.seq (.region 6 (opsOf 6 Try.f45.body) false) (.seq (.region 7 (opsOf 7 Try.f45.body) false) (.cond (.tmp 52) (.seq (.region 8 (opsOf 8 Try.f45.body) false) (.region 9 (opsOf 9 Try.f45.body) false)) (.seq (.region 10 (opsOf 10 Try.f45.body) false) (.cond (.tmp 64) (.region 11 (opsOf 11 Try.f45.body) true) .skip))))))) Q (aK Try.prog Fin { s with E:=(G0 (b.set 4 (.int .i64 ((k+1:Nat):Int))) 0).env Try.prog }) M a' w:=by
  intro a' w bg hbg p1 q2 p3 hm
  replace h0:=(p3 0 ae).trans h0
  replace h1:=(p3 1 ae).trans h1
  replace p2:=q2.trans p2
  clear p3 q2
  refine ak (PL p1 h1 hko hm fun a w p1 q2 p3 hm=>?_)
  replace h0:=(p3 0 ae).trans h0
  replace h1:=(p3 1 ae).trans h1
  replace p2:=q2.trans p2
  clear p3 q2
  rw [bF] at hm
  refine ak (PM p1 h1 hE' hc' hj hst hn hm hh fun a w M1 p1 q2 p3 g1 hm g2 g3=>?_)
  replace h0:=(p3 0 ae).trans h0
  replace h1:=(p3 1 ae).trans h1
  replace p2:=q2.trans p2
  clear p3 q2
  rw [hl]
  refine ak (PN (l:=(bb,bD kw.p.pb left halt (steps+1) bg (own+1) fell ans) :: l) p1 h0 hE' hf' hq' Ql hc' hj hR Qm (by rw [hn'];exact hjn) h11 hcell hm g2 g3 fun a w M2 b4 p1 q2 p3 p4 g4 g5 hm=>?_)
  refine hQ a w M2 b4 p1 (q2.trans p2) ?_ ((p3 1 ae).trans h1) p4 (fun c c1 c2=>g4 c (g1 c c1 c2)) g5 ?_
  ·rw [← hR'];exact (p3 0 ae).trans h0
  ·rw [← hbg];exact hm
 refine ak (ak (step2 p1 h1 hm fun a' w p1 q2 p3 p4 hm=>?_))
 by_cases ho:own=0
 ·refine kY (p4.trans (by simp [ho])) ?_
  refine PK p1 ((p3 0 ae).trans h0) ((p3 1 ae).trans h1) hE' hf' hq' Qk hm fun a'' w p1 r2 r3 hm=>?_
  exact rest a'' w (k+1) (by rw [if_pos ho]) p1 (r2.trans q2) (fun x hx=>(r3 x hx).trans (p3 x hx)) hm
 ·refine kF (p4.trans (by simp [ho])) ?_
  refine bS ?_
  exact rest a' w begin (by rw [if_neg ho]) p1 q2 p3 hm
theorem Qn (hE:s.E=(G0 b 0).env Try.prog)(hf:b.dL)(hq2:b.q=2)(hz:b.c.size=5)(hv1:b.c[1]?=some (.chan (some arr)))(hv4:b.c[4]?=some (.int .i64 (k:Nat)))(hk:k < 4611686018427387904)(hks:steps < 4611686018427387904)(hko:own < 4611686018427387904)(hc:dD Try.prog Y arr s ws)(hj:ws[j]?=some kw)(hst:kw.st=some q)(hn:kw.n=n+1)(hR:kw.p.R=b.R)(hpq:kw.p.q=b.q)(hjn:j+1≤b.n)(bF:kw.p.ob=aR kw.p false false){σ':Y.σ}{q':Y.bL}(hl:Y.dM q σ=(σ',gL,some q'))
  (hm:Mm Try.prog M w (((bb,bD kw.p.pb left halt steps begin own fell ans) :: l) ++ Y.sh σ) ((kw.p.pb,kw.p.ob) :: r))(hh:M (2 * kw.p.pb+1)) :
  bn Try.prog true 45 #[.pointer (some ⟨b.R,0,none⟩),.pointer (some ⟨bb,0,none⟩)] (fun e S' M' w'=>e=.returned (.tuple #[])∧S'=aK Try.prog Fin (({ s with E:=(G0 (b.set 4 (.int .i64 ((k+1:Nat):Int))) 0).env Try.prog }:Ring).seat (j+1) (iq kw.p (some q')) (kU Try.prog Y kw.p n (some q')))∧(∀ c,M c→¬ fw Y.B kw.p.pb c→M' c)∧M' (2 * kw.p.pb+1)∧∃ b4,Mm Try.prog M' w' ((((bb,bD kw.p.pb left halt (steps+1) (if own=0 then k+1 else begin) (own+1) fell ans) :: l) ++ [(b4,iJ gL)]) ++ Y.sh σ') ((kw.p.pb,kw.p.ob) :: r)) (aK Try.prog Fin s) M w:=by
 refine eQ Try.func45 Gu ?_
 obtain ⟨a,ha,hs,hd,he⟩:=entered Try.func45 #[.pointer (some ⟨b.R,0,none⟩),.pointer (some ⟨bb,0,none⟩)] .normal (N:=73) rfl (by show 2≤73;decide)
 rw [← ha]
 refine Gv (x:=(σ',gL,some q')) hs (he 0 _ rfl) (he 1 _ rfl) hE hf hq2 hz hv1 hv4 hk hks hko hc hj hst hn hR hpq hjn bF hl rfl (fun v hv=>?_) hm hh fun a w M' b4 p1 p2 p3 p4 p5 g1 g2 hm=>?_
 ·have:v∈gL.toList:=by simpa using hv
  simp only [gL,List.mem_cons,List.not_mem_nil,or_false] at this
  rcases this with rfl | rfl | rfl | rfl | rfl | rfl | rfl | rfl | rfl | rfl | rfl <;> rfl
 obtain ⟨i4,hi4⟩:∃ i4:Nat,(((((bb,bD kw.p.pb left halt (steps+1) (if own=0 then k+1 else begin) (own+1) fell ans) :: l) ++ [(b4,iJ gL)]) ++ Y.sh σ') ++ Rx kw.p r (some q'))[i4]?=some (b4,iJ gL):=List.mem_iff_getElem?.1 ah
 refine ak (Gl p1 p5 hm hi4 (e:=false) rfl fun a w p1 q2 p3 q4 hm=>?_)
 refine kF q4 ?_
 refine ak (Gm p1 ((p3 4 ae).trans p5) hm hi4 (e:=false) rfl fun a w p1 r2 p3 q4 hm=>?_)
 refine kF q4 ?_
 refine bS ?_
 exact mI (iZ rfl (r2.trans (q2.trans (p2.trans hd))) fun w1 hr=>⟨rfl,rfl,g1,g2 rfl,b4,hm.rely hr⟩)
end
end Go.Proofs.Ytanploaffndpjaa
namespace Go.Proofs.Ytanploaffndpjaa
open Go.RowKit
def nX (left halt:Int)(steps:Nat)(fell:Bool):Bool:=decide (0 < left) && (!(decide (0 < halt) && decide (halt≤steps)) && !fell)
theorem PW {w:World}{bb pb:Nat}{left halt:Int}{steps begin own:Nat}{fell:Bool}{ans:Value}(h:w.heap[bb]?=some (bD pb left halt steps begin own fell ans)):Calls Try.prog 43 #[.pointer (some ⟨bb,0,none⟩)] w fun e w'=>e=.returned (.bool (nX left halt steps fell))∧w'.heap=w.heap:=by
 have c1:w.cell? ⟨bb,1,none⟩=some (.int .i64 left):=Blind.cell_of h rfl
 have c2:w.cell? ⟨bb,2,none⟩=some (.int .i64 halt):=Blind.cell_of h rfl
 have c3:w.cell? ⟨bb,3,none⟩=some (.int .i64 steps):=Blind.cell_of h rfl
 have c6:w.cell? ⟨bb,6,none⟩=some (.bool fell):=Blind.cell_of h rfl
 unfold nX
 clear h
 by_cases h1:0 < halt
 ·by_cases h2:halt≤(steps:Int)
  ·by_cases h3:0 < left
   ·go_enter Try.func43,Try.ntmps43
    go_wp2
    go_quiet (fail)
    go_wp2
    go_ret
    (first | (simp [h1,h2,h3];done) | (simp [h1,h2,h3];intros;omega))
   ·go_enter Try.func43,Try.ntmps43
    go_wp2
    go_quiet (fail)
    go_wp2
    go_ret
    (first | (simp [h1,h2,h3];done) | (simp [h1,h2,h3];intros;omega))
  ·by_cases h3:0 < left
   ·go_enter Try.func43,Try.ntmps43
    go_wp2
    go_quiet (fail)
    go_wp2
    go_ret
    (first | (simp [h1,h2,h3];done) | (simp [h1,h2,h3];intros;omega))
   ·go_enter Try.func43,Try.ntmps43
    go_wp2
    go_quiet (fail)
    go_wp2
    go_ret
    (first | (simp [h1,h2,h3];done) | (simp [h1,h2,h3];intros;omega))
 ·have hg:decide (0 < halt)=false:=by simp [h1]
  by_cases h3:0 < left
  ·go_enter Try.func43,Try.ntmps43
   go_wp2
   go_quiet (fail)
   go_wp2
   go_ret
   (first | (simp [h1,h3];done) | (simp [h1,h3];intros;omega))
  ·go_enter Try.func43,Try.ntmps43
   go_wp2
   go_quiet (fail)
   go_wp2
   go_ret
   (first | (simp [h1,h3];done) | (simp [h1,h3];intros;omega))
end Go.Proofs.Ytanploaffndpjaa
namespace Go.Proofs.Ytanploaffndpjaa
open Go Go.Blind Go.Conc
section
variable {M:Nat→Prop}{w:World}{l r:List (Nat×Obj)}{bb pb:Nat}{left halt:Int}{steps begin own:Nat}{fell:Bool}{ans:Value}{main:Bool}
theorem Gn {N:Nat}(hpb:pb < N)(ha:Old N GL ans):∀ v∈(#[.pointer (some ⟨pb,0,none⟩),.int .i64 left,.int .i64 halt,.int .i64 steps,.int .i64 begin,.int .i64 own,.bool fell,ans]:Array Value),Old N GL v:=by
 intro v hv
 simp only [List.mem_toArray,List.mem_cons,List.not_mem_nil,or_false] at hv
 rcases hv with rfl | rfl | rfl | rfl | rfl | rfl | rfl | rfl
 ·exact Old.ptr hpb
 ·exact Old.int _ _
 ·exact Old.int _ _
 ·exact Old.int _ _
 ·exact Old.int _ _
 ·exact Old.int _ _
 ·exact Old.bool _
 ·exact ha
theorem PX (hm:Mm Try.prog M w ((bb,bD pb left halt steps begin own fell ans) :: l) r)(hpb:pb < w.heap.size)(ha:Old w.heap.size GL ans)(S:ai):bn Try.prog main 43 #[.pointer (some ⟨bb,0,none⟩)] (fun e S' M' w'=>S'=S∧(e=.returned (.bool (nX left halt steps fell))∧Mm Try.prog M' w' ((bb,bD pb left halt steps begin own fell ans) :: l) r)∧∀ c,M c→M' c) S M w:=by
 have hbb:=hm.own _ (List.mem_cons_self ..)
 have hlt:bb < w.heap.size:=(Array.getElem?_eq_some_iff.1 hbb.2).1
 have hn:=hm.nodup
 simp only [List.cons_append,List.map_cons,List.map_append] at hn
 obtain ⟨n1,n2⟩:=List.nodup_cons.1 hn
 refine vK (R0:=fun e M' w'=>e=.returned (.bool (nX left halt steps fell))∧Mm Try.prog M' w' ((bb,bD pb left halt steps begin own fell ans) :: l) r) (fun S=>?_) S
 refine bG (sF sJ (f:=43) af ⟨_,Try.func43⟩ (fun y hy=>by rw [Array.mem_singleton.1 hy];exact Old.ptr hlt) hm [bb] (fun b hb=>by rw [List.mem_singleton.1 hb];exact ⟨_,_,_,List.mem_cons_self ..,Gn hpb ha⟩) (R:=fun e v=>e=.returned (.bool (nX left halt steps fell))∧v.heap[bb]?=some (bD pb left halt steps begin own fell ans)) (fun v _ hv=>?_) (fun u h=>by cases h.1)) fun e S' M' w' h=>?_
 ·have hvb:v.heap[bb]?=some (bD pb left halt steps begin own fell ans):=(hv bb (List.mem_singleton.2 rfl)).trans hbb.2
  refine (PW hvb).mono ?_
  rintro e w' ⟨he,hh⟩
  exact ⟨he,by rw [hh];exact hvb⟩
 ·obtain ⟨rfl,L,v,ha',h⟩:=h
  have hk:=ha'.kept l (fun p hp=>⟨List.mem_cons_of_mem _ hp,fun z=>n1 (aO ((List.mem_singleton.1 z ▸ List.mem_map_of_mem hp)))⟩) (List.nodup_append.1 n2).1
  cases e with
  | returned y =>
   obtain ⟨x,⟨hx,hvb⟩,hr⟩:=h
   cases hx
   obtain ⟨k1,k2⟩:=ha'.same hlt hvb (Gn hpb ha)
   have hy:=hr.old ha'.old (Old.bool (n:=w.heap.size) (G:=GL) (nX left halt steps fell))
   subst hy
   refine ⟨rfl,rfl,?_⟩
   exact (hk.add k2 k1 fun p hp e=>n1 (by rw [← List.map_append,e];exact List.mem_map_of_mem hp)).perm (List.perm_append_comm (l₂:=[_]))
  | panicked qs =>
   obtain ⟨ps,hx,_⟩:=h
   cases hx.1
  | outgrown=>exact h.elim
end
theorem sP {M:Nat→Prop}{w:World}{L r:List (Nat×Obj)}{main:Bool}{f:FuncId}(hf:GL f=true)(gI:∃ fn,Try.prog.funcs[f]?=some fn){ys:Array Value}(hys:∀ y∈ys,Old w.heap.size GL y)(hm:Mm Try.prog M w L r)(B:List Nat)(hB:∀ b∈B,∃ c e fz,(b,.cells c e fz)∈L∧∀ v∈c,Old w.heap.size GL v){y:Value}(hy:Old w.heap.size GL y)
  (hR:∀ v:World,v.heap.size=w.heap.size→(∀ b∈B,v.heap[b]?=w.heap[b]?)→Calls Try.prog f ys v fun e v'=>e=.returned y∧∀ b∈B,v'.heap[b]?=v.heap[b]?)(S:ai) :
  bn Try.prog main f ys (fun e S' M' w'=>S'=S∧(e=.returned y∧Mm Try.prog M' w' L r)∧∀ c,M c→M' c) S M w:=by
 classical
 have hn:=hm.nodup
 have hnl:(L.map Prod.fst).Nodup:=by rw [List.map_append] at hn;exact (List.nodup_append.1 hn).1
 have uniq:∀ p∈L,∀ q∈L,p.1=q.1→p=q:=fun p hp q hq e=>by
  obtain ⟨i,hi⟩:=List.getElem?_of_mem hp
  obtain ⟨j,hj⟩:=List.getElem?_of_mem hq
  have hi':(L.map Prod.fst)[i]?=some p.1:=by rw [List.getElem?_map,hi];rfl
  have hj':(L.map Prod.fst)[j]?=some p.1:=by rw [List.getElem?_map,hj,e];rfl
  have:i=j:=(List.getElem?_inj (List.getElem?_eq_some_iff.1 hi').1 hnl).1 (hi'.trans hj'.symm)
  subst this
  exact Option.some.inj (hi.symm.trans hj)
 have hw:∀ b∈B,∀ p∈L,p.1=b→∃ c e fz,p.2=.cells c e fz∧(∀ v∈c,Old w.heap.size GL v)∧w.heap[b]?=some (.cells c e fz):=fun b hb p hp e=>by
  obtain ⟨c,e',fz,h1,h2⟩:=hB b hb
  have:=uniq p hp _ h1 e
  exact ⟨c,e',fz,by rw [this],h2,(hm.own _ h1).2⟩
 refine vK (R0:=fun e M' w'=>e=.returned y∧Mm Try.prog M' w' L r) (fun S=>?_) S
 refine bG (sF sJ (f:=f) hf gI hys hm B hB (R:=fun e v=>e=.returned y∧∀ b∈B,v.heap[b]?=w.heap[b]?) (fun v hs hv=>(hR v hs hv).mono fun e v' h=>⟨h.1,fun b hb=>(h.2 b hb).trans (hv b hb)⟩) (fun u h=>by cases h.1)) fun e S' M' w' h=>?_
 obtain ⟨rfl,K,v,ha',h⟩:=h
 have hk:=ha'.kept (L.filter fun p=>decide (p.1∉B)) (fun p hp=>⟨(List.mem_filter.1 hp).1,by simpa using (List.mem_filter.1 hp).2⟩) (hnl.sublist (List.filter_sublist.map _))
 cases e with
 | returned y' =>
  obtain ⟨x,⟨hx,hb⟩,hr⟩:=h
  cases hx
  have Aw:=hr.old ha'.old hy
  subst Aw
  refine ⟨rfl,rfl,⟨fun p hp=>?_,hk.rd,hk.low,hk.aX,hk.base,hn⟩⟩
  by_cases q:p.1∈B
  ·obtain ⟨c,e',fz,h1,h2,h3⟩:=hw p.1 q p hp rfl
   have hlt:p.1 < w.heap.size:=(Array.getElem?_eq_some_iff.1 h3).1
   obtain ⟨k1,k2⟩:=ha'.same hlt ((hb p.1 q).trans h3) h2
   exact ⟨k2,by rw [h1];exact k1⟩
  ·exact hk.own p (List.mem_filter.2 ⟨hp,by simpa using q⟩)
 | panicked qs =>
  obtain ⟨ps,hx,_⟩:=h
  cases hx.1
 | outgrown=>exact h.elim
open Go.RowKit in
theorem PY (w:World)(k:Nat):Calls Try.prog 28 #[.slice none 0 0,.int .i64 (k:Nat)] w fun e w'=>e=.returned (.int .i64 0)∧w'=w:=by
 have hd:decide (((k:Nat):Int) < 0)=false:=by simp
 go_enter Try.func28,Try.ntmps28
 go_wp2
 go_ret
 exact ⟨rfl,rfl⟩
open Go.RowKit in
theorem PZ (w:World):Calls Try.prog 31 #[.int .i64 0] w fun e w'=>e=.returned (.int .i64 20000)∧w'=w:=by
 go_enter Try.func31,Try.ntmps31
 go_wp2
 go_ret
 exact ⟨rfl,rfl⟩
open Go.RowKit in
set_option maxHeartbeats 1000000 in
theorem P4 (w:World)(wb n wc:Nat)(tv hv:Value)(ht:∃ a l c,tv=.slice a l c)(hh:∃ a l c,hv=.slice a l c)(h1:1≤n)(h8:n≤8)(hc:∀ j,j < n→∃ a l c,w.cell? ⟨wb,j,none⟩=some (.slice a l c)∧l≤64):Calls Try.prog 25 #[.agg #[.slice (some ⟨wb,0,none⟩) n wc,tv,hv,.int .i64 0]] w fun e w'=>e=.returned (.int .i64 0)∧∀ b,b < w.heap.size→w'.heap[b]?=w.heap[b]?:=by
 obtain ⟨ta,tl,tc,rfl⟩:=ht
 obtain ⟨ha,hl,hc2,rfl⟩:=hh
 have hd1:decide (((n:Nat):Int) < 1)=false:=by simp;omega
 have hd2:decide ((8:Int) < ((n:Nat):Int))=false:=by simp;omega
 have hwb:wb < w.heap.size:=by
  obtain ⟨a,l,c,h,_⟩:=hc 0 ag
  exact World.block_lt_of_cell? w _ h
 go_enter Try.func25,Try.ntmps25
 go_wp2
 go_loop [18] (fun i=>∃ k:Nat,k≤n∧i=.int .i64 k) (fun i=>n - (intOf i).toNat)
 case atStart=>exact ⟨0,Nat.zero_le _,rfl⟩
 case round =>
  obtain ⟨k,hk,rfl⟩:=hrel
  by_cases hlt:k < n
  ·obtain ⟨a,l,c,hcell,YW⟩:=hc k hlt
   have hd3:decide ((64:Int) < ((l:Nat):Int))=false:=by simp;omega
   go_wp2
   go_round
   case rel=>exact ⟨k+1,ag,by go_num⟩
   case measure=>simp [intOf];omega
  ·obtain rfl:k=n:=by omega
   go_wp2
   go_ret
   exact ⟨rfl,fun b hb=>Below.heap_alloc _ _ _ hb⟩
theorem yh {M:Nat→Prop}{w:World}{l r:List (Nat×Obj)}{main:Bool}{f:FuncId}(hf:GL f=true)(gI:∃ fn,Try.prog.funcs[f]?=some fn){ys:Array Value}(hys:∀ y∈ys,Old w.heap.size GL y){ab:Nat}{c c':Array Value}{e:TypeId}{fz:Nat×Nat}(hm:Mm Try.prog M w ((ab,.cells c e fz) :: l) r)(hc:∀ v∈c,Old w.heap.size GL v)(hc':∀ v∈c',Old w.heap.size GL v){y:Value}(hy:Old w.heap.size GL y)
  (hR:∀ v:World,v.heap.size=w.heap.size→v.heap[ab]?=some (.cells c e fz)→Calls Try.prog f ys v fun en v'=>en=.returned y∧v'.heap[ab]?=some (.cells c' e fz))(S:ai) :
  bn Try.prog main f ys (fun en S' M' w'=>S'=S∧(en=.returned y∧Mm Try.prog M' w' ((ab,.cells c' e fz) :: l) r)∧∀ c,M c→M' c) S M w:=by
 have hab:=hm.own _ (List.mem_cons_self ..)
 have hlt:ab < w.heap.size:=(Array.getElem?_eq_some_iff.1 hab.2).1
 have hn:=hm.nodup
 simp only [List.cons_append,List.map_cons,List.map_append] at hn
 obtain ⟨n1,n2⟩:=List.nodup_cons.1 hn
 refine vK (R0:=fun en M' w'=>en=.returned y∧Mm Try.prog M' w' ((ab,.cells c' e fz) :: l) r) (fun S=>?_) S
 refine bG (sF sJ (f:=f) hf gI hys hm [ab] (fun b hb=>by rw [List.mem_singleton.1 hb];exact ⟨_,_,_,List.mem_cons_self ..,hc⟩) (R:=fun en v=>en=.returned y∧v.heap[ab]?=some (.cells c' e fz)) (fun v hs hv=>hR v hs ((hv ab (List.mem_singleton.2 rfl)).trans hab.2)) (fun u h=>by cases h.1)) fun en S' M' w' h=>?_
 obtain ⟨rfl,K,v,ha',h⟩:=h
 have hk:=ha'.kept l (fun p hp=>⟨List.mem_cons_of_mem _ hp,fun z=>n1 (aO ((List.mem_singleton.1 z ▸ List.mem_map_of_mem hp)))⟩) (List.nodup_append.1 n2).1
 cases en with
 | returned y' =>
  obtain ⟨x,⟨hx,hvb⟩,hr⟩:=h
  cases hx
  obtain ⟨k1,k2⟩:=ha'.same hlt hvb hc'
  have Aw:=hr.old ha'.old hy
  subst Aw
  refine ⟨rfl,rfl,?_⟩
  exact (hk.add k2 k1 fun p hp e=>n1 (by rw [← List.map_append,e];exact List.mem_map_of_mem hp)).perm (List.perm_append_comm (l₂:=[_]))
 | panicked qs =>
  obtain ⟨ps,hx,_⟩:=h
  cases hx.1
 | outgrown=>exact h.elim
section
variable {M:Nat→Prop}{w:World}{l r:List (Nat×Obj)}{main:Bool}{ab:Nat}{x y o:Int}{e:TypeId}
theorem sV {N:Nat}{x:Int}:∀ v∈(#[.int .i64 x]:Array Value),Old N GL v:=fun v hv=>by rw [Array.mem_singleton.1 hv];exact Old.int _ _
theorem Qh (hm:Mm Try.prog M w ((ab,.cells #[.int .i64 x] e (0,0)) :: l) r)(S:ai):bn Try.prog main 18 #[.pointer (some ⟨ab,0,none⟩)] (fun en S' M' w'=>S'=S∧(en=.returned (.int .i64 x)∧Mm Try.prog M' w' ((ab,.cells #[.int .i64 x] e (0,0)) :: l) r)∧∀ c,M c→M' c) S M w :=
 yh af ⟨_,Try.func18⟩ (fun y hy=>by rw [Array.mem_singleton.1 hy];exact Old.ptr (Array.getElem?_eq_some_iff.1 (hm.own _ (List.mem_cons_self ..)).2).1) hm sV sV (Old.int _ _) (fun v _ hv=>(sQ (cell_of hv rfl)).mono fun en v' q=>⟨q.1,by rw [q.2];exact hv⟩) S
theorem Qi (hm:Mm Try.prog M w ((ab,.cells #[.int .i64 x] e (0,0)) :: l) r)(S:ai):bn Try.prog main 108 #[.pointer (some ⟨ab,0,none⟩),.int .i64 x,.int .i64 y] (fun en S' M' w'=>S'=S∧(en=.returned (.bool true)∧Mm Try.prog M' w' ((ab,.cells #[.int .i64 y] e (0,0)) :: l) r)∧∀ c,M c→M' c) S M w :=
 yh af ⟨_,Try.func108⟩ (fun z hz=>by
  simp only [List.mem_toArray,List.mem_cons,List.not_mem_nil,or_false] at hz
  rcases hz with rfl | rfl | rfl
  ·exact Old.ptr (Array.getElem?_eq_some_iff.1 (hm.own _ (List.mem_cons_self ..)).2).1
  ·exact Old.int _ _
  ·exact Old.int _ _) hm sV sV (Old.bool _) (fun v _ hv=>(yg (y:=y) (cell_of hv rfl) (Ab hv)).mono fun en v' q=>⟨q.1,by rw [q.2];exact Fa hv⟩) S
theorem Qj (hne:¬ x=o)(hm:Mm Try.prog M w ((ab,.cells #[.int .i64 x] e (0,0)) :: l) r)(S:ai):bn Try.prog main 108 #[.pointer (some ⟨ab,0,none⟩),.int .i64 o,.int .i64 y] (fun en S' M' w'=>S'=S∧(en=.returned (.bool false)∧Mm Try.prog M' w' ((ab,.cells #[.int .i64 x] e (0,0)) :: l) r)∧∀ c,M c→M' c) S M w :=
 yh af ⟨_,Try.func108⟩ (fun z hz=>by
  simp only [List.mem_toArray,List.mem_cons,List.not_mem_nil,or_false] at hz
  rcases hz with rfl | rfl | rfl
  ·exact Old.ptr (Array.getElem?_eq_some_iff.1 (hm.own _ (List.mem_cons_self ..)).2).1
  ·exact Old.int _ _
  ·exact Old.int _ _) hm sV sV (Old.bool _) (fun v _ hv=>(Gp (y:=y) (cell_of hv rfl) (Ab hv) hne).mono fun en v' q=>⟨q.1,by rw [q.2];exact hv⟩) S
end
end Go.Proofs.Ytanploaffndpjaa

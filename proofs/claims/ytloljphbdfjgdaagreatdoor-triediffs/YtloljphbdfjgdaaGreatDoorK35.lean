/- Package trie's visit: the iterator gives the spots in the order of reading. -/
import Derived.Test.YtloljphbdfjgdaaGreatDoorK34
import Derived.Deep.LoopGhost
import Derived.Test.YtloljphbdfjgdaaGreatDoorK22
import Derived.Test.YtloljphbdfjgdaaGreatDoorK05
import Derived.Test.YtloljphbdfjgdaaGreatDoorK27
import Derived.Test.YtloljphbdfjgdaaGreatDoorK03
import Derived.Test.YtloljphbdfjgdaaGreatDoorK21
import Derived.Test.YtloljphbdfjgdaaGreatDoorK24
import Derived.Test.YtloljphbdfjgdaaGreatDoorK28
namespace Go.Proofs.YtloljphbdfjgdaaGreatDoor
open Go.RowKit
section
variable {bt b0 b1 b3 tb p:Nat} {F:List Nat} {s:PSt} {y0:Spot} {lo hi:Int}
structure VF (l' bt b0 b1 b3 tb p:Nat) (F:List Nat) (s:PSt) (y0:Spot) (lo hi:Int) (J:Nat→List Nat→World→Prop) (G:List Nat) (W:World) (k:Nat) (a:Act) (x:World):Prop where
 hs:a.tmps.size=50
 hd:a.defers=[]
 x0:a.eval (.tmp 0)=.func (.yield l') #[] #[]
 x1:a.eval (.tmp 1)=.pointer (some ⟨bt,0,none⟩)
 x2:a.eval (.tmp 2)=.pointer (some ⟨b0,0,none⟩)
 x3:a.eval (.tmp 3)=.pointer (some ⟨b1,0,none⟩)
 x4:a.eval (.tmp 4)=.pointer (some ⟨b3,0,none⟩)
 ex:∃ S v j G',a.eval (.tmp 6)=v∧SpQ W.heap.size x v S∧(y0.vis lo hi).drop j=restV lo hi S∧j+k=(y0.vis lo hi).length∧DeepR S∧(∀ z∈S,SpotOk s z)∧J j G' x∧Wider G G' W∧Turned G W x∧PreV bt b0 b1 b3 tb p F s y0 lo hi x∧(∀ g,v.ownBlock=some g→g∉G')
set_option maxRecDepth 100000 in
set_option maxHeartbeats 800000 in
theorem visit_round {l':Nat} {J:Nat→List Nat→World→Prop} {Jx:Nat→World→Prop} {G:List Nat} {W x:World} {k:Nat} {a:Act} {Q:Exit→Act→World→Prop} (hO:s.Ok) (hT:TakerY Tryz.prog l' (y0.vis lo hi).length (xsV (y0.vis lo hi)) J Jx) (hG:∀ z,z∈G→z∉RV bt b0 b1 b3 tb F) (hR:∀ z,z∈RV bt b0 b1 b3 tb F→z < W.heap.size)
  (h:VF l' bt b0 b1 b3 tb p F s y0 lo hi J G W k a x)
  (hQ:∀ a' z G',a'.defers=[]→J (y0.vis lo hi).length G' z→Wider G G' W→Turned G W z→PreV bt b0 b1 b3 tb p F s y0 lo hi z→Q (.exit 0) a' z)
  (hQ2:∀ a' z j,a'.defers=[]→j < (y0.vis lo hi).length→Jx j z→Turned G W z→PreV bt b0 b1 b3 tb p F s y0 lo hi z→Q .ret a' z) :
  (atc Tryz.f92.body [1,0,0]).wp Tryz.prog (Exit.then (fun a' y=>∃ k',k' < k∧VF l' bt b0 b1 b3 tb p F s y0 lo hi J G W k' a' y) Q) a x:=by
 obtain ⟨hs,hd,x0,x1,x2,x3,x4,⟨S,v,j,G',x6,hsp,hdrop,hjk,hdeep,hok,hJ,hW,hTu,hP,hvG⟩⟩:=h
 have hsz:=hTu.size
 have nG:∀ z,z∈G'→z∉RV bt b0 b1 b3 tb F:=fun z hz hm=>by
  rcases hW z hz with h | h
  ·exact hG z h hm
  ·have:=hR z hm; omega
 cases S with
 | nil =>
  obtain ⟨va,vc,rfl⟩:=hsp.nil
  have hj:j=(y0.vis lo hi).length:=by
   have:=congrArg List.length hdrop
   simp [restV] at this
   omega
  subst hj
  exact visit_end hs hd x0 x1 x2 x3 x4 x6 (fun a' h=>hQ a' x G' h hJ hW hTu hP)
 | cons y S =>
  obtain ⟨g,c,nz,rfl,hc,hin,k0,k1,k2,k3,hnz,hgW,hglt⟩:=hsp.cons
  have hy:=hok y (by simp)
  have hl:=hdeep.1
  have hjl:j < (y0.vis lo hi).length:=by
   have:=congrArg List.length hdrop
   rw [rest_cons] at this
   simp at this
   omega
  have hget:(y0.vis lo hi).getD j ⟨.leaf 0 0 0,0,0⟩=y:=by
   have:=congrArg List.head? hdrop
   rw [rest_cons,List.head?_drop,List.getElem?_eq_getElem hjl] at this
   rw [List.getD_eq_getElem?_getD,List.getElem?_eq_getElem hjl]
   simpa using this
  have hdrop2:(y0.vis lo hi).drop (j+1)=restV lo hi (kids lo hi y ++ S):=by
   rw [← List.tail_drop,hdrop,rest_cons]; rfl
  have hdeep2:=hdeep.step hy lo hi
  have hok2:∀ z∈kids lo hi y ++ S,SpotOk s z:=fun z hz=>by
   rcases List.mem_append.1 hz with h | h
   ·exact (kids_ok hy lo hi z h).1
   ·exact hok z (by simp [h])
  have hgG:g∉G':=hvG g rfl
  have hGlt:=hT.lt hJ
  have hJy:∀ y',Turned [] x y'→J j G' y':=fun y' hy'=>hT.keep hJ hy' (by simp)
  have hrl:S.reverse.length=S.length:=List.length_reverse
  have hY:∀ y',Turned [] x y'→YieldAt Fence.wide 0 Tryz.prog l' #[spotA y,.int .i64 0] y' fun e w3=>Turned G' y' w3∧((e=.returned (.bool true)∧∃ G2,J (j+1) G2 w3∧Wider G' G2 y')∨(e=.returned (.bool false)∧Jx j w3)):=fun y' hy'=>by
   have:=hT.takes j hjl G' y' (hJy y' hy')
   unfold xsV at this
   rw [hget] at this
   exact this
  have hRd:∀ y',Turned [] x y'→Calls Tryz.prog 53 #[.pointer (some ⟨tb,0,none⟩),.pointer none,.agg #[.int .i64 y.t.hd,.int .i64 y.a,.int .i64 y.b,nz]] y' fun e w'=>e=.returned (.tuple #[spotA y,.int .i64 0])∧Turned [] y' w':=fun y' hy'=>by
   rcases hnz with rfl | rfl
   ·exact cReadT (hP.trie.still hy') (hP.pool.still hy') hO hy.rep hy.wf hy.lo hy.hi
   ·obtain ⟨T,nvv,hnv⟩:=nv_form y.t
    unfold spotA
    rw [hnv]
    exact cReadD y'
  have tW:∀ {y' z},Turned [] x y'→Turned G' y' z→Turned G W z:=fun h1 h2=>(hTu.trans (h1.mono (by simp))).inner h2 (fun z hz=>hW z hz)
  have pre:∀ {y' z},Turned [] x y'→Turned G' y' z→PreV bt b0 b1 b3 tb p F s y0 lo hi z:=fun h1 h2=>(hP.keep h1 (by simp)).keep h2 nG
  have wid:∀ {G2 y'},Turned [] x y'→Wider G' G2 y'→Wider G G2 W:=fun h1 h2 z hz=>by
   rcases h2 z hz with h | h
   ·exact hW z h
   ·exact .inr (by have:=h1.size; omega)
  obtain ⟨t,ya,yb⟩:=y
  cases t with
  | leaf hh kk vv =>
   refine visit_L (kk:=kk) (vv:=vv) (Ry:=fun y' e w3=>Turned G' y' w3∧((e=.returned (.bool true)∧∃ G2,J (j+1) G2 w3∧Wider G' G2 y')∨(e=.returned (.bool false)∧Jx j w3))) hs hd x0 x1 x2 x3 x4 x6 (by omega) hc hP.tr hP.wk k0 k1 k2 k3 hRd hY ?_
   rintro y' z e nb hy' hnb hnl ⟨ht,⟨rfl,G2,hJ2,hW2⟩ | ⟨rfl,hx⟩⟩
   ·right
    refine ⟨rfl,ht.heap hnb (fun hm=>by have:=hGlt nb hm; omega),fun a' e1 e2 e3 e4 e5 e6 e7 e8=>⟨k - 1,by omega,e1,e2,e3,e4,e5,e6,e7,⟨S,_,j+1,G2,e8,?_,hdrop2,by omega,hdeep2,hok2,hJ2,wid hy' hW2,tW hy' ht,pre hy' ht,?_⟩⟩⟩
    ·exact .of ((hin.keep hy' (by simp)).keep ht (fun g' hg'=>by cases hg'; exact hgG))
    ·intro g' hg' hm
     cases hg'
     rcases hW2 g hm with h | h
     ·exact hgG h
     ·have:=hy'.size; omega
   ·left
    exact ⟨rfl,fun a' hd'=>hQ2 a' z j hd' hjl hx (tW hy' ht) (pre hy' ht)⟩
  | node hh q cc tl tr =>
   obtain ⟨q1,q2,q3,q4,q5,q6,q7,q8,q9,q10⟩:=id hy.wf
   refine visit_I (f:=cc) (q:=q) (lh:=tl.hd) (rh:=tr.hd) (cn:=((tl.cnt+tr.cnt:Nat):Int)) (lo:=lo) (hi:=hi) (Ry:=fun y' e w3=>Turned G' y' w3∧((e=.returned (.bool true)∧∃ G2,J (j+1) G2 w3∧Wider G' G2 y')∨(e=.returned (.bool false)∧Jx j w3))) hs hd x0 x1 x2 x3 x4 x6 (by omega) hc hP.tr hP.wk k0 k1 k2 k3 hRd hY ?_
   rintro y' z e nb hy' hnb hnl ⟨ht,⟨rfl,G2,hJ2,hW2⟩ | ⟨rfl,hx⟩⟩
   ·right
    have hPz:=pre hy' ht
    have hinz:=(hin.keep hy' (by simp)).keep ht (fun g' hg'=>by cases hg'; exact hgG)
    have hWz:W.heap.size≤z.heap.size:=(tW hy' ht).size
    refine ⟨rfl,ht.heap hnb (fun hm=>by have:=hGlt nb hm; omega),hPz.sp,fun z' v' w'=>SpR W.heap.size w' v' ((S.reverse ++ if decide (max (cc+2 ^ q) lo≤min (cc+2 * 2 ^ q - 1) hi) then [⟨tr,cc+2 ^ q,cc+2 * 2 ^ q - 1⟩] else []) ++ if decide (max cc lo≤min (cc+2 ^ q - 1) hi) then [⟨tl,cc,cc+2 ^ q - 1⟩] else [])∧Turned [g] z' w'∧(∀ g',v'.ownBlock=some g'→g'=g∨z'.heap.size≤g'),fun z' hz'=>?_,?_⟩
    ·have hm:=cMeeting (B:=W.heap.size) (q:=q) (f:=cc) (cn:=((tl.cnt+tr.cnt:Nat):Int)) (alo:=lo) (ahi:=hi) (l:=tl) (r:=tr) (hinz.keep hz' (by simp)) q2 q3 q1 rfl rfl (by omega) (by have:=hz'.size; omega)
     refine hm.mono ?_
     rintro e w' ⟨v',rfl,h1,h2,h3⟩
     exact ⟨v',rfl,h1,h2,fun g' hg'=>by
      rcases h3 g' hg' with h | h
      ·cases h; exact .inl rfl
      ·exact .inr h⟩
    ·rintro a' z' v' u hz' ⟨h1,h2,h3⟩ e1 e2 e3 e4 e5 e6 e7 e8
     have hJz:J (j+1) G2 z':=hT.keep hJ2 hz' (by simp)
     have hg2:g∉G2:=fun hm=>by
      rcases hW2 g hm with h | h
      ·exact hgG h
      ·have:=hy'.size; omega
     have hgR:∀ m,m∈([g]:List Nat)→m∉RV bt b0 b1 b3 tb F:=fun m hm hr=>by
      simp at hm; subst hm; have:=hR _ hr; omega
     refine ⟨k - 1,by omega,e1,e2,e3,e4,e5,e6,e7,⟨kids lo hi ⟨.node hh q cc tl tr,ya,yb⟩ ++ S,v',j+1,G2,e8,?_,hdrop2,by omega,hdeep2,hok2,hT.keep hJz h2 (by simp; exact hg2),wid hy' hW2,((tW hy' ht).trans (hz'.mono (by simp))).inner h2 (by simp; exact .inr hgW),(hPz.keep hz' (by simp)).keep h2 hgR,?_⟩⟩
     ·have e:(kids lo hi ⟨.node hh q cc tl tr,ya,yb⟩ ++ S).reverse=((S.reverse ++ if decide (max (cc+2 ^ q) lo≤min (cc+2 * 2 ^ q - 1) hi) then [⟨tr,cc+2 ^ q,cc+2 * 2 ^ q - 1⟩] else []) ++ if decide (max cc lo≤min (cc+2 ^ q - 1) hi) then [⟨tl,cc,cc+2 ^ q - 1⟩] else []):=by
       simp only [kids,List.reverse_append,decide_eq_true_eq]
       split <;> split <;> simp
      refine .of ?_
      rw [e]
      exact h1
     ·intro g' hg' hm
      rcases h3 g' hg' with h | h
      ·exact hg2 (h ▸ hm)
      ·have:=hT.lt hJz g' hm; omega
   ·left
    exact ⟨rfl,fun a' hd'=>hQ2 a' z j hd' hjl hx (tW hy' ht) (pre hy' ht)⟩
set_option maxRecDepth 100000 in
set_option maxHeartbeats 800000 in
theorem iterV (hO:s.Ok) (hy:SpotOk s y0):IterY Tryz.prog 92 #[.pointer (some ⟨bt,0,none⟩),.pointer (some ⟨b0,0,none⟩),.pointer (some ⟨b1,0,none⟩),.pointer (some ⟨b3,0,none⟩)] (y0.vis lo hi).length (xsV (y0.vis lo hi)) [] (RV bt b0 b1 b3 tb F) (PreV bt b0 b1 b3 tb p F s y0 lo hi):=by
 intro l' J Jx G W hT hJ hP hG
 refine callsIn_wide.2 ?_
 have HP:Hid (PreV bt b0 b1 b3 tb p F s y0 lo hi W):=hP
 have HJ:Hid (J 0 G W):=hJ
 have HT:Hid (TakerY Tryz.prog l' (y0.vis lo hi).length (xsV (y0.vis lo hi)) J Jx):=hT
 have HG:Hid (∀ z,z∈G→z∉RV bt b0 b1 b3 tb F):=fun z hz=>(hG z hz).2
 have HY:Hid (SpotOk s y0):=hy
 have HO:Hid s.Ok:=hO
 obtain ⟨nz,hnz,htop⟩:=hP.top
 obtain ⟨⟨c0,c1,c2,c3⟩,-⟩:=cells4 htop
 have HZ:Hid (NzOk y0 nz):=hnz
 obtain ⟨uh,hu⟩:∃ uh,uh=y0.t.hd:=⟨_,rfl⟩
 obtain ⟨ya,hya⟩:∃ uh,uh=y0.a:=⟨_,rfl⟩
 obtain ⟨yb,hyb⟩:∃ uh,uh=y0.b:=⟨_,rfl⟩
 have HU:Hid (uh=y0.t.hd∧ya=y0.a∧yb=y0.b):=⟨hu,hya,hyb⟩
 rw [← hu] at c0
 rw [← hya] at c1
 rw [← hyb] at c2
 show Calls _ _ #[.func (.yield l') #[] #[],.pointer (some ⟨bt,0,none⟩),.pointer (some ⟨b0,0,none⟩),.pointer (some ⟨b1,0,none⟩),.pointer (some ⟨b3,0,none⟩)] _ _
 clear hP hJ hT hG hy hu hya hyb hO hnz htop
 go_enter Tryz.func92,Tryz.ntmps92
 go_wp2
 have ha:Turned [] W (W.alloc (.cells #[.int .i64 uh,.int .i64 ya,.int .i64 yb,nz] 120 (0,0))):=(Turned.refl _ _).alloc _
 have h1:=SpQ.one (w:=W) HZ.out
 rw [← HU.out.1,← HU.out.2.1,← HU.out.2.2] at h1
 have hlt:=HT.out.lt HJ.out
 refine wp_loop_ghost (fun k a x=>VF l' bt b0 b1 b3 tb p F s y0 lo hi J G W k a x) (y0.vis lo hi).length ⟨rfl,rfl,rfl,rfl,rfl,rfl,rfl,⟨[y0],_,0,G,rfl,h1,by simp [restV],by omega,⟨by have:=HY.out.wf.deep32; simpa using this,trivial⟩,by simpa using HY.out,HT.out.keep HJ.out ha (by simp),fun z hz=>.inl hz,ha.mono (by simp),HP.out.keep ha (by simp),fun g hg hm=>?_⟩⟩ ?_
 ·cases hg
  exact absurd (hlt _ hm) (Nat.lt_irrefl _)
 ·intro k a x hx
  refine visit_round HO.out HT.out HG.out HP.out.lt hx ?_ ?_
  ·intro a' z G' hd hj hw ht hp
   exact ⟨hd,.tuple #[],by simp [results,Tryz.results92],⟨_,rfl⟩,ht.mono (by simp),hp,.inl ⟨G',hj,hw⟩⟩
  ·intro a' z j hd hj hx ht hp
   exact ⟨hd,.tuple #[],by simp [results,Tryz.results92],⟨_,rfl⟩,ht.mono (by simp),hp,.inr ⟨j,hj,hx⟩⟩
end
end Go.Proofs.YtloljphbdfjgdaaGreatDoor
/- The statement 'for .. := range f' whose body never leaves it, by the contract of f's iterator. -/
namespace Go.Proofs.YtloljphbdfjgdaaGreatDoor
open Go.RowKit
theorem TakerY.sure {P:Program} {l N:Nat} {xs:Nat→Array Value} {J:Nat→List Nat→World→Prop} {Jx:Nat→World→Prop} (h:TakerY P l N xs J Jx) (hx:∀ j W,¬ Jx j W):TakerY P l N xs J (fun _ _=>False) where
 keep:=h.keep
 lt:=h.lt
 takes:=fun j hj G w2 hJ=>YieldAt.mono (h.takes j hj G w2 hJ) (fun _ w3 hr=>⟨hr.1,hr.2.imp id (fun k=>absurd k.2 (hx j w3))⟩)
def IterT (P:Program) (gf:FuncId) (lb:Array Value) (N:Nat) (xs:Nat→Array Value) (F R:List Nat) (Pre:World→Prop):Prop :=
 ∀ (l:Nat) (J:Nat→List Nat→World→Prop) (G:List Nat) (W:World),TakerY P l N xs J (fun _ _=>False)→J 0 G W→Pre W→(∀ x,x∈G→x∉F∧x∉R) →
  CallsIn Fence.wide 0 P gf (#[.func (.yield l) #[] #[]] ++ lb) W fun e W'=>(∃ v,e=.returned v)∧Turned (F ++ G) W W'∧Pre W'∧(∃ G',J N G' W'∧Wider G G' W)
theorem IterY.toT {P:Program} {gf:FuncId} {lb:Array Value} {N:Nat} {xs:Nat→Array Value} {F R:List Nat} {Pre:World→Prop} (h:IterY P gf lb N xs F R Pre):IterT P gf lb N xs F R Pre:=fun l J G W hT hJ hP hG =>
 (h l J (fun _ _=>False) G W hT hJ hP hG).mono fun _ _ k=>⟨k.1,k.2.1,k.2.2.1,k.2.2.2.resolve_right (fun ⟨_,_,f⟩=>f)⟩
section
variable {P:Program} {g:Operand} {ps:Array Tmp} {assign body:Code} {Q:Exit→Act→World→Prop} {a:Act} {w:World} {gf:FuncId} {lb:Array Value} {N:Nat} {xs:Nat→Array Value} {F R:List Nat} {Pre:World→Prop} {I:Nat→List Nat→World→Prop} {G:List Nat}
theorem wp_rangeT (hg:a.eval g=.func (.func gf) #[] lb) (eg:∀ args w,(callFunc gf args).run P w=.ok (.enter gf args) w) (hit:IterT P gf lb N xs F R Pre) (hps:∀ j,(xs j).size=ps.size)
  (keep:∀ {j G w2 L w3},I j G w2→Turned L w2 w3→(∀ x,x∈L→x∉G)→I j G w3) (lt:∀ {j G w2},I j G w2→∀ x,x∈G→x < w2.heap.size)
  (keepP:∀ {w2 w3 L},Pre w2→Turned L w2 w3→(∀ x,x∈L→w.heap.size≤x)→Pre w3)
  (h0:I 0 G w) (hP:Pre w) (hG:∀ x,x∈G→x∉F∧x∉R) (hF:∀ x,x∈F→x < w.heap.size) (hR:∀ x,x∈R→x < w.heap.size)
  (hround:∀ j,j < N→∀ G W,I j G W→w.heap.size+1 < W.heap.size→w.heap.size+1∉G→assign.wpIn (Fence.wide.inRound (w.heap.size+1)) 0 P (Exit.then (fun a₁ W1=>Turned [] W W1∧∀ W2,Turned [w.heap.size+1] W1 W2→body.wpIn (Fence.wide.inRound (w.heap.size+1)) 0 P (rangeEnd I (fun _ _ _=>False) j G W2) a₁ W2) (fun _ _ _=>False)) { tmps:=(ps.zip (xs j)).foldl (fun t (p,v)=>t.setIfInBounds p v) a.tmps,defers:=[] } W)
  (hdone:∀ W G',I N G' W→Wider G G' w→w.heap.size∉G'→Pre W→Turned (F ++ G) w W→W.heap[w.heap.size]?=some (.deferred (some []))→Q .normal { a with defers:=markD w.heap.size :: a.defers } W) :
  (Code.rangeFunc g ps assign body).wp P Q a w:=by
 rw [← wpIn_wide (n:=0)]
 refine wpIn_rangeFunc ?_
 intro fn hfn
 obtain ⟨rec,hrec⟩:∃ rec:LoopState→Option Code→Loop,∀ st pe,rec st pe={ state:=st,pending:=pe,fn:=fn,tmps:=a.tmps,params:=ps,assign:=assign,body:=body,defers:=w.heap.size }:=⟨fun st pe=>_,fun _ _=>rfl⟩
 obtain ⟨W1,hW1⟩:∃ W1,(w.alloc (.deferred (some []))).alloc (.loop (rec .ready none))=W1:=⟨_,rfl⟩
 have hs1:W1.heap.size=w.heap.size+2:=by rw [← hW1]; simp
 have hL1:W1.heap[w.heap.size+1]?=some (.loop (rec .ready none)):=by
  rw [← hW1]; have:=World.alloc_heap_new (w.alloc (.deferred (some []))) (.loop (rec .ready none)); rwa [World.size_alloc] at this
 have hK1:W1.heap[w.heap.size]?=some (.deferred (some [])):=by
  rw [← hW1]; exact (Below.heap_alloc _ _ _ (by simp)).trans (World.alloc_heap_new w _)
 have ht1:Turned [] w W1:=by rw [← hW1]; exact ((Turned.refl _ _).alloc _).alloc _
 have hGlt:=lt h0
 refine ⟨w.heap.size+1,[markD w.heap.size],W1,{ target:=.fn (.func gf) lb,args:=#[.func (.yield (w.heap.size+1)) #[] #[]] },W1,gf,#[.func (.yield (w.heap.size+1)) #[] #[]] ++ lb,W1,?_,?_,?_,?_,fun h=>by simp [Fence.wide] at h,?_⟩
 ·rw [← hW1,hrec]; exact run_enterLoop_outer _ _ _ _ _
 ·simp only [resolve,hg]
  simp [go_sem]
 ·intro f' _; exact trivial
 ·simp [invoke,go_sem,eg]
 ·have hT:=(takerY_of (P:=P) (xs:=xs) (N:=N) (I:=I) (Ix:=fun _ _ _=>False) hfn rec hrec hps (fun h1 h2 h3=>keep h1 h2 h3) (fun h1=>lt h1) (fun h1 _=>h1) hround).sure (fun j W h=>by obtain ⟨c,h,_⟩:=h; exact h)
  refine (hit (w.heap.size+1) _ ((w.heap.size+1) :: G) W1 hT ⟨G,rfl,keep h0 ht1 (by simp),fun hm=>by have:=hGlt _ hm; omega,hL1⟩ (keepP hP ht1 (by simp)) (fun x hx=>?_)).mono ?_
  ·rcases List.mem_cons.1 hx with rfl | hx
   ·exact ⟨fun hm=>by have:=hF _ hm; omega,fun hm=>by have:=hR _ hm; omega⟩
   ·exact hG x hx
  ·rintro e W2 ⟨⟨v,rfl⟩,ht2,hP2,hJ⟩
   have hK2:W2.heap[w.heap.size]?=some (.deferred (some [])):=ht2.heap hK1 (fun hm=>by
    rcases List.mem_append.1 hm with hm | hm
    ·have:=hF _ hm; omega
    ·rcases List.mem_cons.1 hm with hm | hm
     ·omega
     ·have:=hGlt _ hm; omega)
   have ht:∀ (o:Obj),Turned (F ++ G) w (W2.putObj (w.heap.size+1) o):=fun o =>
    (((ht1.mono (by simp)).inner (l:=F ++ G) ht2 (fun x hx=>by
     rcases List.mem_append.1 hx with hx | hx
     ·exact .inl (by simp [hx])
     ·rcases List.mem_cons.1 hx with rfl | hx
      ·exact .inr (by omega)
      ·exact .inl (by simp [hx])))).inner (turned_put (l:=w.heap.size+1) o) (fun x hx=>by simp at hx; subst hx; exact .inr (by omega))
   have hPp:∀ (o:Obj),Pre (W2.putObj (w.heap.size+1) o):=fun o=>keepP hP2 (turned_put _) (by simp)
   have hKp:∀ (o:Obj),(W2.putObj (w.heap.size+1) o).heap[w.heap.size]?=some (.deferred (some [])):=fun o=>(World.putObj_heap_other (by omega)).trans hK2
   obtain ⟨G',⟨G0,rfl,hi,hl,hr⟩,hw⟩:=hJ
   ·refine ⟨none,_,by have:=run_endLoop (P:=P) hr (by rw [hrec]; simp); rw [hrec] at this; exact this,?_⟩
    refine hdone _ G0 (keep hi (turned_put _) (by simp; exact hl)) (fun x hx=>?_) (fun hx=>?_) (hPp _) (ht _) (hKp _)
    ·rcases hw x (by simp [hx]) with z | z
     ·rcases List.mem_cons.1 z with rfl | z
      ·exact absurd hx hl
      ·exact .inl z
     ·exact .inr (by omega)
    ·rcases hw w.heap.size (by simp [hx]) with z | z
     ·rcases List.mem_cons.1 z with z | z
      ·omega
      ·have:=hGlt _ z; omega
     ·omega
end
end Go.Proofs.YtloljphbdfjgdaaGreatDoor
/- A region that goes in its order, within a round of a range over a function: by the plain walk. -/
namespace Go.Proofs.YtloljphbdfjgdaaGreatDoor
open Go.RowKit
section
variable {P:Program} {ops:Array Oper}
theorem list_in {K:Act→World→Prop} {Q':Exit→Act→World→Prop} {l:Nat}:∀ (rest:List Oper),rest.all noDefer=true→∀ (a:Act) (w:World),wpList P ops (Exit.then K (fun _ _ _=>False)) rest a w→wpListIn (Fence.wide.inRound l) 0 P ops (Exit.then K Q') rest a w:=by
 intro rest
 induction rest with
 | nil=>intro _ a w h; exact h
 | cons o rest ih =>
  intro hd a w h
  simp only [List.all_cons,Bool.and_eq_true] at hd
  unfold wpList at h
  unfold wpListIn
  split at h
  ·rename_i hw
   rw [if_pos hw]
   rcases h with hs | ⟨_,hs⟩
   ·refine oper_in hd.1 ?_
    refine Oper.wp_mono (fun a w=>ih hd.2 a w) ?_
    exact oper_post hs
   ·exact (lets_false hs).elim
  ·rename_i hw
   rw [if_neg hw]
   exact ⟨fun f _=>trivial,ih hd.2 _ _ h⟩
theorem region_list_in {K:Act→World→Prop} {Q':Exit→Act→World→Prop} {l id:Nat} {a:Act} {w:World} {os:List Oper} (hd:os.all noDefer=true) (h:wpList P os.toArray (Exit.then K (fun _ _ _=>False)) os a w):(Code.region id os.toArray false).wpIn (Fence.wide.inRound l) 0 P (Exit.then K Q') a w :=
 wpIn_region_lit (list_in os hd a w h)
end
end Go.Proofs.YtloljphbdfjgdaaGreatDoor
/- What package trie's leaves gives: pairs; what stands between two rounds. -/
namespace Go.Proofs.YtloljphbdfjgdaaGreatDoor
open Go.RowKit
def xsL (M:List (Int × Int)) (j:Nat):Array Value:=#[.agg #[.int .i64 (M.getD j (0,0)).1,.int .i64 (M.getD j (0,0)).2],.int .i64 0]
def cntP (lo hi:Int) (V:List Spot) (j:Nat):Nat:=((V.take j).flatMap (Spot.pair lo hi)).length
theorem cntP_zero (lo hi:Int) (V:List Spot):cntP lo hi V 0=0:=by simp [cntP]
theorem cntP_all (lo hi:Int) (V:List Spot):cntP lo hi V V.length=(V.flatMap (Spot.pair lo hi)).length:=by simp [cntP]
theorem cntP_step {lo hi:Int} {V:List Spot} {j:Nat} (hj:j < V.length):cntP lo hi V (j+1)=cntP lo hi V j+(Spot.pair lo hi V[j]).length:=by
 unfold cntP
 rw [List.take_add_one,List.getElem?_eq_getElem hj,List.flatMap_append,List.length_append]
 simp
theorem cntP_get {lo hi:Int} {V:List Spot} {j:Nat} (hj:j < V.length) {z:Int × Int} (hz:Spot.pair lo hi V[j]=[z]):cntP lo hi V j < (V.flatMap (Spot.pair lo hi)).length∧(V.flatMap (Spot.pair lo hi)).getD (cntP lo hi V j) (0,0)=z:=by
 have h:V.flatMap (Spot.pair lo hi)=(V.take j).flatMap (Spot.pair lo hi) ++ z :: (V.drop (j+1)).flatMap (Spot.pair lo hi):=by
  conv=>lhs; rw [← List.take_append_drop j V,List.drop_eq_getElem_cons hj,List.flatMap_append,List.flatMap_cons,hz]
  simp
 unfold cntP
 rw [h]
 refine ⟨by simp,?_⟩
 rw [List.getD_eq_getElem?_getD,List.getElem?_append_right (Nat.le_refl _)]
 simp
structure LJ (yb b3 l0:Nat) (lo hi:Int) (V:List Spot) (J:Nat→List Nat→World→Prop) (j:Nat) (G:List Nat) (w:World):Prop where
 ex:∃ G0,G=yb :: b3 :: G0∧J (cntP lo hi V j) G0 w∧yb∉G0∧b3∉G0
 hy:w.heap[yb]?=some (.cells #[.func (.yield l0) #[] #[]] 200 (0,0))
 h3:w.heap[b3]?=some (.cells #[.int .i64 lo,.int .i64 hi] 116 (0,0))
theorem LJ.keep {P:Program} {N:Nat} {xs:Nat→Array Value} {yb b3 l0:Nat} {lo hi:Int} {V:List Spot} {J:Nat→List Nat→World→Prop} {Jx:Nat→World→Prop} {j:Nat} {G L:List Nat} {w w':World} (hT:TakerY P l0 N xs J Jx) (h:LJ yb b3 l0 lo hi V J j G w) (ht:Turned L w w') (hL:∀ x,x∈L→x∉G):LJ yb b3 l0 lo hi V J j G w':=by
 obtain ⟨G0,rfl,h1,n1,n2⟩:=h.ex
 exact ⟨⟨G0,rfl,hT.keep h1 ht (fun x hx hm=>hL x hx (by simp [hm])),n1,n2⟩,ht.heap h.hy (fun hm=>hL _ hm (by simp)),ht.heap h.h3 (fun hm=>hL _ hm (by simp))⟩
theorem LJ.lt {P:Program} {N:Nat} {xs:Nat→Array Value} {yb b3 l0:Nat} {lo hi:Int} {V:List Spot} {J:Nat→List Nat→World→Prop} {Jx:Nat→World→Prop} {j:Nat} {G:List Nat} {w:World} (hT:TakerY P l0 N xs J Jx) (h:LJ yb b3 l0 lo hi V J j G w):∀ x,x∈G→x < w.heap.size:=by
 obtain ⟨G0,rfl,h1,n1,n2⟩:=h.ex
 intro x hx
 simp only [List.mem_cons] at hx
 rcases hx with rfl | rfl | hx
 ·exact lt_of_heap h.hy
 ·exact lt_of_heap h.h3
 ·exact hT.lt h1 x hx
end Go.Proofs.YtloljphbdfjgdaaGreatDoor
/- A frame, spelled out. -/
namespace Go.Proofs.YtloljphbdfjgdaaGreatDoor
open Go.RowKit
def lit37 (c:Nat→Value):Array Value:=#[c 0,c 1,c 2,c 3,c 4,c 5,c 6,c 7,c 8,c 9,c 10,c 11,c 12,c 13,c 14,c 15,c 16,c 17,c 18,c 19,c 20,c 21,c 22,c 23,c 24,c 25,c 26,c 27,c 28,c 29,c 30,c 31,c 32,c 33,c 34,c 35,c 36]
set_option maxRecDepth 100000 in
theorem lit37_eq (c:Nat→Value):lit37 c=((List.range 37).map c).toArray:=by rfl
theorem expand37 {a:Act} (hs:a.tmps.size=37) (hd:a.defers=[]):∃ c:Nat→Value,a=⟨lit37 c,[]⟩∧∀ s,c s=a.eval (.tmp s):=by
 refine ⟨fun s=>a.tmps.getD s undef,?_,fun s=>rfl⟩
 obtain ⟨t,d⟩:=a
 simp only at hs hd
 subst hd
 congr 1
 rw [lit37_eq]
 refine Array.ext (by simp [hs]) fun i h1 h2=>?_
 simp [Array.getD,h1]
end Go.Proofs.YtloljphbdfjgdaaGreatDoor
/- A round of package trie's leaves, the iterator. (Written by tools/gen/genleaves.py.) -/
namespace Go.Proofs.YtloljphbdfjgdaaGreatDoor
open Go.RowKit Go.Shelf
attribute [local go_sem] Oper.semAt_some
section
variable {x:World} {a:Act} {l l0 yb b3 sp:Nat} {uh sa sb lo hi kk vv:Int} {E:Exit→Act→World→Prop}
set_option maxRecDepth 100000 in
set_option maxHeartbeats 1600000 in
theorem leav_I {nn:Value} (hs:a.tmps.size=37) (hd:a.defers=[]) (x4:a.eval (.tmp 4)=.pointer (some ⟨b3,0,none⟩)) (x5:a.eval (.tmp 5)=.pointer (some ⟨yb,0,none⟩)) (x6:a.eval (.tmp 6)=.pointer (some ⟨sp,0,none⟩)) (x7:a.eval (.tmp 7)=.int .i64 0) (hS:x.heap[sp]?=some (.cells #[.int .i64 uh,.int .i64 sa,.int .i64 sb,.iface 151 nn] 120 (0,0))) (hE:∀ a' y,Turned [] x y→E .normal a' y):((match atc Tryz.f94.body [1,1,0] with | .rangeFunc _ _ _ c=>c | _=>.skip)).wpIn (Fence.wide.inRound l) 0 Tryz.prog E a x:=by
 obtain ⟨cc,hcc,hce⟩:=expand37 hs hd
 have g4:=(hce 4).trans x4
 have g5:=(hce 5).trans x5
 have g6:=(hce 6).trans x6
 have g7:=(hce 7).trans x7
 clear hce hs hd x4 x5 x6 x7
 subst hcc
 conv=>arg 4; whnf
 simp only [lit37,g4,g5,g6,g7]
 clear g4 g5 g6 g7
 have HE:Hid _:=hE
 have as1:=as_inner_leaf
 obtain ⟨⟨c0,c1,c2,c3⟩,-⟩:=cells4 hS
 clear hE hS
 gi_wp2
 exact HE.out _ _ (Turned.refl _ _)
set_option maxRecDepth 100000 in
set_option maxHeartbeats 1600000 in
theorem leav_N (hs:a.tmps.size=37) (hd:a.defers=[]) (x4:a.eval (.tmp 4)=.pointer (some ⟨b3,0,none⟩)) (x5:a.eval (.tmp 5)=.pointer (some ⟨yb,0,none⟩)) (x6:a.eval (.tmp 6)=.pointer (some ⟨sp,0,none⟩)) (x7:a.eval (.tmp 7)=.int .i64 0) (hS:x.heap[sp]?=some (.cells #[.int .i64 uh,.int .i64 sa,.int .i64 sb,.iface 128 (.agg #[.int .i64 kk,.int .i64 vv])] 120 (0,0))) (h3:x.heap[b3]?=some (.cells #[.int .i64 lo,.int .i64 hi] 116 (0,0))) (hn:decide (lo≤kk∧kk≤hi)=false) (hE:∀ a' y,Turned [] x y→E .normal a' y):((match atc Tryz.f94.body [1,1,0] with | .rangeFunc _ _ _ c=>c | _=>.skip)).wpIn (Fence.wide.inRound l) 0 Tryz.prog E a x:=by
 obtain ⟨cc,hcc,hce⟩:=expand37 hs hd
 have g4:=(hce 4).trans x4
 have g5:=(hce 5).trans x5
 have g6:=(hce 6).trans x6
 have g7:=(hce 7).trans x7
 clear hce hs hd x4 x5 x6 x7
 subst hcc
 conv=>arg 4; whnf
 simp only [lit37,g4,g5,g6,g7]
 clear g4 g5 g6 g7
 have HE:Hid _:=hE
 have as1:=as_leaf_leaf
 obtain ⟨⟨c0,c1,c2,c3⟩,-⟩:=cells4 hS
 obtain ⟨⟨d0,d1⟩,-⟩:=cells2 h3
 have l3:=lt_of_heap h3
 have HH:Hid (∀ w,Calls Tryz.prog 70 #[.agg #[.int .i64 lo,.int .i64 hi],.int .i64 kk] w fun e w'=>e=.returned (.bool false)∧Turned [] w w'):=fun w=>cSpHas lo hi kk hn w
 clear hE hS h3 hn
 gi_wp2
 refine ⟨trivial,rfl,((callsIn_wide.2 (HH.out _)).inRound _).mono ?_⟩
 rintro e w2 ⟨rfl,ht2⟩
 have HT:Hid (Turned [] x w2):=((Turned.refl _ _).alloc _).trans ht2
 clear ht2
 gi_wp2
 refine ⟨fun f h=>(by cases h),?_⟩
 gi_wp2
 exact HE.out _ _ HT.out
set_option maxRecDepth 100000 in
set_option maxHeartbeats 1600000 in
theorem leav_Y (hs:a.tmps.size=37) (hd:a.defers=[]) (x4:a.eval (.tmp 4)=.pointer (some ⟨b3,0,none⟩)) (x5:a.eval (.tmp 5)=.pointer (some ⟨yb,0,none⟩)) (x6:a.eval (.tmp 6)=.pointer (some ⟨sp,0,none⟩)) (x7:a.eval (.tmp 7)=.int .i64 0) (hS:x.heap[sp]?=some (.cells #[.int .i64 uh,.int .i64 sa,.int .i64 sb,.iface 128 (.agg #[.int .i64 kk,.int .i64 vv])] 120 (0,0))) (h3:x.heap[b3]?=some (.cells #[.int .i64 lo,.int .i64 hi] 116 (0,0))) (hyb:x.heap[yb]?=some (.cells #[.func (.yield l0) #[] #[]] 200 (0,0))) (hn:decide (lo≤kk∧kk≤hi)=true)
  {Ry:World→Ending→World→Prop} (hY:∀ y,Turned [] x y→YieldAt Fence.wide 0 Tryz.prog l0 #[.agg #[.int .i64 kk,.int .i64 vv],.int .i64 0] y (Ry y)) (hE:∀ a' y z e,Turned [] x y→Ry y e z→e=.returned (.bool true)∧E .normal a' z):((match atc Tryz.f94.body [1,1,0] with | .rangeFunc _ _ _ c=>c | _=>.skip)).wpIn (Fence.wide.inRound l) 0 Tryz.prog E a x:=by
 obtain ⟨cc,hcc,hce⟩:=expand37 hs hd
 have g4:=(hce 4).trans x4
 have g5:=(hce 5).trans x5
 have g6:=(hce 6).trans x6
 have g7:=(hce 7).trans x7
 clear hce hs hd x4 x5 x6 x7
 subst hcc
 conv=>arg 4; whnf
 simp only [lit37,g4,g5,g6,g7]
 clear g4 g5 g6 g7
 have HE:Hid _:=hE
 have HY:Hid _:=hY
 have as1:=as_leaf_leaf
 obtain ⟨⟨c0,c1,c2,c3⟩,-⟩:=cells4 hS
 obtain ⟨⟨d0,d1⟩,-⟩:=cells2 h3
 have l3:=lt_of_heap h3
 have ly:=lt_of_heap hyb
 have HB:Hid _:=hyb
 have HH:Hid (∀ w,Calls Tryz.prog 70 #[.agg #[.int .i64 lo,.int .i64 hi],.int .i64 kk] w fun e w'=>e=.returned (.bool true)∧Turned [] w w'):=fun w=>cSpHas lo hi kk hn w
 clear hE hS h3 hn hY hyb
 gi_wp2
 refine ⟨trivial,rfl,((callsIn_wide.2 (HH.out _)).inRound _).mono ?_⟩
 rintro e w2 ⟨rfl,ht2⟩
 have ht3:Turned [] x w2:=((Turned.refl _ _).alloc _).trans ht2
 obtain ⟨y0,-⟩:=cells1 (ht3.heap HB.out (by simp))
 obtain ⟨⟨q0,q1⟩,-⟩:=cells2 (ht2.heap (blk_new x _) (by simp))
 obtain ⟨fn,tmps,assign,body,hy,hR⟩:=HY.out _ ht3
 have HR:Hid _:=hR
 have HT:Hid (Turned [] x w2):=ht3
 clear ht2 ht3 hR
 gi_wp2
 refine ⟨rfl,RoundIn.mono HR.out ?_⟩
 intro e z hry
 obtain ⟨rfl,-⟩:=HE.out ⟨#[],[]⟩ _ _ _ HT.out hry
 have HZ:Hid (∀ a',E .normal a' z):=fun a'=>(HE.out a' _ _ _ HT.out hry).2
 clear HE hry HR hy
 gi_wp2
 exact HZ.out _
end
end Go.Proofs.YtloljphbdfjgdaaGreatDoor
/- Package trie's leaves: the iterator gives the pairs that are asked for. -/
namespace Go.Proofs.YtloljphbdfjgdaaGreatDoor
open Go.RowKit Go.Shelf
attribute [local go_sem] Oper.semAt_some
section
variable {x:World} {bt b0 b1 b3 tb p yb bz l0:Nat} {F:List Nat} {s:PSt} {y0:Spot} {lo hi:Int} {a:Act} {Q:Exit→Act→World→Prop} {J:Nat→List Nat→World→Prop} {G:List Nat}
set_option maxRecDepth 100000 in
set_option maxHeartbeats 1600000 in
theorem leaves_loop (hs:a.tmps.size=37) (hd:a.defers=[]) (x4:a.eval (.tmp 4)=.pointer (some ⟨bz,0,none⟩)) (x5:a.eval (.tmp 5)=.pointer (some ⟨yb,0,none⟩)) (x13:a.eval (.tmp 13)=.func (.func 92) #[] #[.pointer (some ⟨bt,0,none⟩),.pointer (some ⟨b0,0,none⟩),.pointer (some ⟨b1,0,none⟩),.pointer (some ⟨b3,0,none⟩)])
  (hO:s.Ok) (hy:SpotOk s y0) (hT:TakerY Tryz.prog l0 ((y0.vis lo hi).flatMap (Spot.pair lo hi)).length (xsL ((y0.vis lo hi).flatMap (Spot.pair lo hi))) J (fun _ _=>False)) (hP:PreV bt b0 b1 b3 tb p F s y0 lo hi x) (hG:∀ z,z∈yb :: bz :: G→z∉RV bt b0 b1 b3 tb F) (hJ:LJ yb bz l0 lo hi (y0.vis lo hi) J 0 (yb :: bz :: G) x)
  (hK:∀ a' y D G',a'.tmps.size=37→a'.defers=[markD D]→LJ yb bz l0 lo hi (y0.vis lo hi) J (y0.vis lo hi).length G' y→Wider (yb :: bz :: G) G' x→D∉G'→Turned (yb :: bz :: G) x y→y.heap[D]?=some (.deferred (some []))→x.heap.size≤D→Q .normal a' y):(atc Tryz.f94.body [1,1,0]).wp Tryz.prog Q a x:=by
 obtain ⟨cc,hcc,hce⟩:=expand37 hs hd
 have g4:=(hce 4).trans x4
 have g5:=(hce 5).trans x5
 have g13:=(hce 13).trans x13
 clear hce hs hd x4 x5 x13
 subst hcc
 conv=>arg 2; whnf
 simp only [lit37,g4,g5,g13]
 clear g4 g5 g13
 have HK:Hid _:=hK
 have HP:Hid (PreV bt b0 b1 b3 tb p F s y0 lo hi x):=hP
 have HG:Hid (∀ z,z∈yb :: bz :: G→z∉RV bt b0 b1 b3 tb F):=hG
 have HJ:Hid (LJ yb bz l0 lo hi (y0.vis lo hi) J 0 (yb :: bz :: G) x):=hJ
 have HT:Hid _:=hT
 clear hK hP hG hJ hT
 refine wp_rangeT (N:=(y0.vis lo hi).length) (xs:=xsV (y0.vis lo hi)) (F:=[]) (R:=RV bt b0 b1 b3 tb F) (Pre:=PreV bt b0 b1 b3 tb p F s y0 lo hi) (G:=yb :: bz :: G)
  (I:=LJ yb bz l0 lo hi (y0.vis lo hi) J) rfl (enters_of Tryz.func92 (by kernel_rfl) rfl) (iterV hO hy).toT (fun j=>rfl) (fun h1 h2 h3=>h1.keep HT.out h2 h3) (fun h=>h.lt HT.out) ?keepP HJ.out HP.out (fun z hz=>⟨by simp,HG.out z hz⟩) (by simp) HP.out.lt ?round ?done
 case keepP =>
  intro w2 w3 L h ht hL
  exact h.keep ht (fun z hz hm=>by have:=hL z hz; have:=HP.out.lt z hm; omega)
 case round =>
  rintro j hj G1 W hU hlW hlG
  obtain ⟨y,hyj⟩:∃ y,y=(y0.vis lo hi)[j]:=⟨_,rfl⟩
  have hxs:xsV (y0.vis lo hi) j=#[spotA y,.int .i64 0]:=by unfold xsV; rw [hyj,List.getD_eq_getElem?_getD,List.getElem?_eq_getElem hj]; rfl
  rw [hxs]
  obtain ⟨T,nn,hN⟩:=nv_form y.t
  obtain ⟨uh,hu⟩:∃ uh,uh=y.t.hd:=⟨_,rfl⟩
  obtain ⟨ya,hya⟩:∃ uh,uh=y.a:=⟨_,rfl⟩
  obtain ⟨yb',hyb⟩:∃ uh,uh=y.b:=⟨_,rfl⟩
  rw [show spotA y=.agg #[.int .i64 uh,.int .i64 ya,.int .i64 yb',.iface T nn] by unfold spotA; rw [hN,hu,hya,hyb]]
  have HU:Hid _:=hU
  have HLG:Hid (x.heap.size+1∉G1∧x.heap.size+1 < W.heap.size):=⟨hlG,hlW⟩
  have HN:Hid (nv y.t=.iface T nn∧y=(y0.vis lo hi)[j]):=⟨hN,hyj⟩
  clear hxs hU hlG hlW hu hya hyb hN hyj
  gi_wp2
  have h4:=blk_new W (.cells #[.int .i64 uh,.int .i64 ya,.int .i64 yb',.iface T nn] 120 (0,0))
  have tA:Turned [] W (W.alloc (.cells #[.int .i64 uh,.int .i64 ya,.int .i64 yb',.iface T nn] 120 (0,0))):=(Turned.refl _ _).alloc _
  refine ⟨tA,fun W2 h2=>?_⟩
  have hS:=h2.heap h4 (by simp; have:=HLG.out.2; omega)
  have hU2:=(HU.out.keep HT.out tA (by simp)).keep HT.out h2 (fun z hz hm=>by simp at hz; subst hz; exact HLG.out.1 hm)
  clear h2 h4 tA HU
  obtain ⟨G0,rfl,hJ0,n1,n2⟩:=hU2.ex
  obtain ⟨hN,hyj⟩:=HN.out
  have hst:=cntP_step (lo:=lo) (hi:=hi) hj
  rw [← hyj] at hst
  have nothing:Spot.pair lo hi y=[]→∀ y',Turned [] W2 y'→rangeEnd (LJ yb bz l0 lo hi (y0.vis lo hi) J) (fun _ _ _=>False) j (yb :: bz :: G0) W2 .normal ⟨#[],[]⟩ y':=fun h0 y' hy'=>by
   rw [h0] at hst
   simp at hst
   refine ⟨hy'.mono (by simp),yb :: bz :: G0,⟨⟨G0,rfl,by rw [hst]; exact HT.out.keep hJ0 hy' (by simp),n1,n2⟩,hy'.heap hU2.hy (by simp),hy'.heap hU2.h3 (by simp)⟩,fun z hz=>.inl hz⟩
  obtain ⟨t,ta,tz⟩:=y
  cases t with
  | leaf hh kk vv =>
   cases hN
   by_cases hin:lo≤kk∧kk≤hi
   ·have hp:Spot.pair lo hi ⟨.leaf hh kk vv,ta,tz⟩=[(kk,vv)]:=by unfold Spot.pair; simp only; rw [if_pos hin]
    obtain ⟨hlt,hget⟩:=cntP_get hj (z:=(kk,vv)) (by rw [← hyj]; exact hp)
    rw [hp] at hst
    simp only [List.length_cons,List.length_nil] at hst
    refine leav_Y (kk:=kk) (vv:=vv) (lo:=lo) (hi:=hi) (l0:=l0) (b3:=bz) (yb:=yb) (Ry:=fun y' e z=>Turned G0 y' z∧((e=.returned (.bool true)∧∃ G',J (cntP lo hi (y0.vis lo hi) j+1) G' z∧Wider G0 G' y')∨(e=.returned (.bool false)∧False))) rfl rfl rfl rfl rfl rfl hS hU2.h3 hU2.hy (decide_eq_true hin) (fun y' hy'=>?_) (fun a' y' z e hy' hr=>?_)
    ·have:=HT.out.takes _ hlt G0 y' (HT.out.keep hJ0 hy' (by simp))
     unfold xsL at this
     rw [hget] at this
     exact this
    ·obtain ⟨ht,⟨rfl,G2,hJ2,hW2⟩ | ⟨-,hf⟩⟩:=hr
     ·have l1:=lt_of_heap (hy'.heap hU2.hy (by simp))
      have l3:=lt_of_heap (hy'.heap hU2.h3 (by simp))
      refine ⟨rfl,(hy'.mono (by simp)).trans (ht.mono (fun z hz=>by simp [hz])),yb :: bz :: G2,⟨⟨G2,rfl,by rw [hst]; exact hJ2,fun hm=>?_,fun hm=>?_⟩,ht.heap (hy'.heap hU2.hy (by simp)) n1,ht.heap (hy'.heap hU2.h3 (by simp)) n2⟩,fun z hz=>?_⟩
      ·rcases hW2 _ hm with h | h
       ·exact n1 h
       ·omega
      ·rcases hW2 _ hm with h | h
       ·exact n2 h
       ·omega
      ·simp only [List.mem_cons] at hz ⊢
       rcases hz with h | h | h
       ·exact .inl (.inl h)
       ·exact .inl (.inr (.inl h))
       ·rcases hW2 z h with h | h
        ·exact .inl (.inr (.inr h))
        ·exact .inr (by have:=hy'.size; omega)
     ·exact hf.elim
   ·have hp:Spot.pair lo hi ⟨.leaf hh kk vv,ta,tz⟩=[]:=by unfold Spot.pair; simp only; rw [if_neg hin]
    exact leav_N (kk:=kk) (vv:=vv) (lo:=lo) (hi:=hi) (b3:=bz) (yb:=yb) rfl rfl rfl rfl rfl rfl hS hU2.h3 (decide_eq_false hin) (fun a' y' hy'=>nothing hp y' hy')
  | node hh q c tl tr =>
   cases hN
   exact leav_I (b3:=bz) (yb:=yb) rfl rfl rfl rfl rfl rfl hS (fun a' y' hy'=>nothing rfl y' hy')
 case done =>
  intro W G' hU hW hD hPW hTu hK
  exact HK.out _ _ _ G' rfl rfl hU hW hD (by simpa using hTu) hK (Nat.le_refl _)
end
section
variable {bt b0 b1 b3 tb p:Nat} {F:List Nat} {s:PSt} {y0:Spot} {lo hi:Int}
set_option maxRecDepth 100000 in
set_option maxHeartbeats 1600000 in
theorem iterL (hO:s.Ok) (hy:SpotOk s y0):IterT Tryz.prog 94 #[.pointer (some ⟨b0,0,none⟩),.pointer (some ⟨b1,0,none⟩),.pointer (some ⟨bt,0,none⟩),.pointer (some ⟨b3,0,none⟩)] (midL y0.t.pairs lo hi).length (xsL (midL y0.t.pairs lo hi)) [] (RV bt b0 b1 b3 tb F) (PreV bt b0 b1 b3 tb p F s y0 lo hi):=by
 rw [← Tr.vis_pairs hy.wf y0.a y0.b]
 show IterT _ _ _ ((y0.vis lo hi).flatMap (Spot.pair lo hi)).length (xsL ((y0.vis lo hi).flatMap (Spot.pair lo hi))) _ _ _
 intro l0 J G W hT hJ hP hG
 refine callsIn_wide.2 ?_
 have HP:Hid (PreV bt b0 b1 b3 tb p F s y0 lo hi W):=hP
 have HJ:Hid (J 0 G W):=hJ
 have HT:Hid (TakerY Tryz.prog l0 ((y0.vis lo hi).flatMap (Spot.pair lo hi)).length (xsL ((y0.vis lo hi).flatMap (Spot.pair lo hi))) J (fun _ _=>False)):=hT
 have HG:Hid (∀ z,z∈G→z∉RV bt b0 b1 b3 tb F):=fun z hz=>(hG z hz).2
 have HY:Hid (SpotOk s y0∧s.Ok):=⟨hy,hO⟩
 obtain ⟨nz,hnz,htop⟩:=hP.top
 obtain ⟨⟨c0,c1,c2,c3⟩,-⟩:=cells4 htop
 have HZ:Hid (NzOk y0 nz):=hnz
 obtain ⟨d0,-⟩:=cells1 hP.tr
 obtain ⟨e0,-⟩:=cells1 hP.wk
 obtain ⟨⟨f0,f1⟩,-⟩:=cells2 hP.sp
 have lt1:=lt_of_heap htop
 have lt2:=lt_of_heap hP.tr
 have lt3:=lt_of_heap hP.wk
 have lt4:=lt_of_heap hP.sp
 obtain ⟨uh,hu⟩:∃ uh,uh=y0.t.hd:=⟨_,rfl⟩
 obtain ⟨ya,hya⟩:∃ uh,uh=y0.a:=⟨_,rfl⟩
 obtain ⟨yb,hyb⟩:∃ uh,uh=y0.b:=⟨_,rfl⟩
 have HU:Hid (uh=y0.t.hd∧ya=y0.a∧yb=y0.b):=⟨hu,hya,hyb⟩
 rw [← hu] at c0
 rw [← hya] at c1
 rw [← hyb] at c2
 show Calls _ _ #[.func (.yield l0) #[] #[],.pointer (some ⟨b0,0,none⟩),.pointer (some ⟨b1,0,none⟩),.pointer (some ⟨bt,0,none⟩),.pointer (some ⟨b3,0,none⟩)] _ _
 clear hP hJ hT hG hy hu hya hyb hO hnz htop
 refine calls_marks Tryz.func94 rfl ?_
 simp only [Tryz.ntmps94,List.size_toArray,List.length_cons,List.length_nil,Nat.reduceAdd,Nat.reduceSub,Array.replicate_succ,Array.replicate_zero,List.push_toArray,List.append_toArray,List.nil_append,List.cons_append]
 go_wp2_with (go_at_call 60; refine (cVisitN nz _ _ _ _ _ _ _).mono ?_; rintro e w3 ⟨rfl,hw3⟩; have HW3:Hid _:=hw3; clear hw3)
 have ha:Turned [] W (W.alloc (.cells #[.func (.yield l0) #[] #[]] 200 (0,0))):=(Turned.refl _ _).alloc _
 have hya:=blk_new W (.cells #[.func (.yield l0) #[] #[]] 200 (0,0))
 have hsa:(W.alloc (.cells #[.func (.yield l0) #[] #[]] 200 (0,0))).heap.size=W.heap.size+1:=by simp
 have hw3:=HW3.out
 generalize W.alloc (.cells #[.func (.yield l0) #[] #[]] 200 (0,0))=w1 at *
 have t3:Turned [] w1 w3:=by rw [hw3]; exact ((((Turned.refl _ _).alloc _).alloc _).alloc _).alloc _
 have hP1:=HP.out.keep ha (by simp)
 have hP3:=hP1.keep t3 (by simp)
 have q0:w3.heap[w1.heap.size]?=some (.cells #[pt tb] 29 (0,0)):=by rw [hw3]; exact blk_old (blk_old (blk_old (blk_new _ _) _) _) _
 have q1:w3.heap[w1.heap.size+1]?=some (.cells #[.pointer none] 111 (0,0)):=by rw [hw3]; exact blk_old (blk_old (blk_new1' _ _ _) _) _
 have q2:w3.heap[w1.heap.size+1+1]?=some (.cells #[.int .i64 uh,.int .i64 ya,.int .i64 yb,nz] 120 (0,0)):=by
  rw [hw3]; refine blk_old ?_ _; have:=blk_new ((w1.alloc (.cells #[pt tb] 29 (0,0))).alloc (.cells #[.pointer none] 111 (0,0))) (.cells #[.int .i64 uh,.int .i64 ya,.int .i64 yb,nz] 120 (0,0)); simpa using this
 have q3:w3.heap[w1.heap.size+1+1+1]?=some (.cells #[.int .i64 lo,.int .i64 hi] 116 (0,0)):=by
  rw [hw3]; have:=blk_new (((w1.alloc (.cells #[pt tb] 29 (0,0))).alloc (.cells #[.pointer none] 111 (0,0))).alloc (.cells #[.int .i64 uh,.int .i64 ya,.int .i64 yb,nz] 120 (0,0))) (.cells #[.int .i64 lo,.int .i64 hi] 116 (0,0)); simpa using this
 rw [HU.out.1,HU.out.2.1,HU.out.2.2] at q2
 have hPv:PreV (w1.heap.size+1+1) w1.heap.size (w1.heap.size+1) (w1.heap.size+1+1+1) tb p F s y0 lo hi w3:=⟨⟨nz,HZ.out,q2⟩,q0,q1,q3,hP3.trie,hP3.pool⟩
 have hGlt:=HT.out.lt HJ.out
 have hRlt:=HP.out.lt
 have h3lt:=hRlt b3 (by simp [RV])
 have nG3:b3∉G:=fun hm=>HG.out b3 hm (by simp [RV])
 have nyG:W.heap.size∉G:=fun hm=>absurd (hGlt _ hm) (Nat.lt_irrefl _)
 have h1s:=ha.size
 have hrv:∀ z,z∈W.heap.size :: b3 :: G→z∉RV (w1.heap.size+1+1) w1.heap.size (w1.heap.size+1) (w1.heap.size+1+1+1) tb F:=fun z hz hm=>by
  simp only [RV,List.mem_cons] at hm hz
  have old:z≤W.heap.size:=by
   rcases hz with h | h | h
   ·omega
   ·omega
   ·have:=hGlt z h; omega
  have tF:z=tb∨z=0∨z∈F:=by
   rcases hm with h | h | h | h | h | h | h
   ·omega
   ·omega
   ·omega
   ·omega
   ·exact .inl h
   ·exact .inr (.inl h)
   ·exact .inr (.inr h)
  have hmem:z∈RV bt b0 b1 b3 tb F:=by
   simp only [RV,List.mem_cons]
   rcases tF with h | h | h
   ·exact .inr (.inr (.inr (.inr (.inl h))))
   ·exact .inr (.inr (.inr (.inr (.inr (.inl h)))))
   ·exact .inr (.inr (.inr (.inr (.inr (.inr h)))))
  rcases hz with h | h | h
  ·have:=hRlt z hmem; omega
  ·subst h
   rcases tF with h | h | h
   ·exact other_type HP.out.sp (h ▸ HP.out.trie.blk) (by decide) rfl
   ·exact HP.out.spz h
   ·exact poolAt_other HP.out.pool HP.out.sp (by decide) h
  ·exact HG.out z h hmem
 rw [hsa] at hPv hrv
 refine leaves_loop (bz:=b3) (yb:=W.heap.size) (l0:=l0) (G:=G) (J:=J) rfl rfl rfl rfl rfl HY.out.2 HY.out.1 HT.out hPv hrv ⟨⟨G,rfl,by rw [cntP_zero]; exact HT.out.keep (HT.out.keep HJ.out ha (by simp)) t3 (by simp),nyG,nG3⟩,t3.heap hya (by simp),hP3.sp⟩ ?_
 intro a' y D G' hs hd hLJ hWd hDG hTy hKD hDle
 obtain ⟨G0,rfl,hJN,m1,m2⟩:=hLJ.ex
 rw [cntP_all] at hJN
 have tWy:Turned G W y:=by
  have h1:Turned (W.heap.size :: b3 :: G) W y:=((ha.mono (by simp)).trans (t3.mono (by simp))).trans hTy
  have h2:Turned (b3 :: G) W y:=h1.inner (Turned.refl [] y) (by simp) |> fun q=>⟨q.os,q.tape,q.output,q.size,fun k hk hn=>q.block k hk (by simp only [List.mem_cons,not_or] at hn ⊢; exact ⟨by omega,hn.1,hn.2⟩)⟩
  exact h2.drop (hLJ.h3.trans HP.out.sp.symm)
 have tD:Turned [D] y (y.putObj D (.deferred none)):=turned_put _
 have nD:W.heap.size < D:=by have:=t3.size; omega
 refine marks_end hKD (v:=.tuple #[]) (by simp [results,Tryz.results94]) hd ⟨⟨_,rfl⟩,tWy.inner tD (fun z hz=>by simp at hz; subst hz; exact .inr (by omega)),?_,G0,?_,fun z hz=>?_⟩
 ·refine (HP.out.keep tWy HG.out).keep tD (fun z hz hm=>?_)
  simp at hz
  subst hz
  have:=hRlt _ hm
  omega
 ·exact HT.out.keep hJN tD (fun z hz hm=>by simp at hz; subst hz; exact hDG (by simp [hm]))
 ·rcases hWd z (by simp [hz]) with h | h
  ·simp only [List.mem_cons] at h
   rcases h with rfl | rfl | h
   ·exact absurd hz m1
   ·exact absurd hz m2
   ·exact .inl h
  ·exact .inr (by have:=t3.size; omega)
end
end Go.Proofs.YtloljphbdfjgdaaGreatDoor
/- Drawn regions of package trie's Walk, the iterator. (Written by tools/gen/genwalk.py.) -/
namespace Go.Proofs.YtloljphbdfjgdaaGreatDoor
open Go.RowKit
theorem l_callvE {P:Program} {o:Oper} {a:Act} {w:World} {K:Act→World→Prop} {Q:Exit→Act→World→Prop} {x:Operand} {f:FuncId} {caps:Array Value} {args:Array Operand} {tys:Array TypeId} {xs:Array Value} {R:Ending→World→Prop} (h:o.op=.call { callee:=.value x,args:=args,argTypes:=tys }) (hv:a.eval x=.func (.func f) #[] caps) (hx:args.map a.eval=xs)
  (hf:Enterable P f) (hc:Calls P f (xs ++ caps) w R) (hR:∀ e w',R e w'→∃ v,e=.returned v∧K (a.put o.dst v) w'):o.wp P a w K Q:=by
 obtain ⟨fn,c,h1,h2,h3⟩:=hf
 have hr:(execOp a.eval o).run P w=.ok (.enter f (xs ++ caps)) w:=by
  simp [execOp,h,resolve,invoke,hx,hv,Deferred.ofValue,Go.MuLone.run_callFunc_enter h1 h2 h3]
 unfold Oper.wp
 rw [hr,Oper.upon_enter]
 refine hc.mono ?_
 intro e w' k
 obtain ⟨v,rfl,hK⟩:=hR e w' k
 exact hK
def walk_r4V (tb:Nat) (root kl kh:Int):Nat × (Nat→Value)→Nat→Value:=fun g j=>match j with | 0=>(pa tb 0) | 1=>(Value.pointer none) | 2=>(Value.int IntKind.i64 root) | 3=>(Value.agg #[.int .i64 root,.int .i64 0,.int .i64 4294967295,.nilIface]) | 4=>(Value.int IntKind.i64 kl) | 5=>(Value.int IntKind.i64 kh) | 6=>(Value.agg #[.int .i64 kl,.int .i64 kh]) | 7=>(g.2 7) | _=>undef
def walk_r7V (kk vv:Int) (fy:FuncId) (cy:Array Value):Nat × (Nat→Value)→Nat→Value:=fun _ j=>match j with | 0=>(Value.func (.func fy) #[] cy) | 1=>(Value.agg #[.int .i64 kk,.int .i64 vv]) | 2=>(Value.agg #[.int .i64 kk,.int .i64 vv]) | 3=>(Value.int IntKind.i64 0) | 4=>(Value.bool true) | 5=>(Value.bool false) | _=>undef
end Go.Proofs.YtloljphbdfjgdaaGreatDoor
/- Package trie's Walk, the iterator: its rounds. -/
namespace Go.Proofs.YtloljphbdfjgdaaGreatDoor
open Go.RowKit Go.Shelf
attribute [local go_sem] Oper.semAt_some
abbrev yBox (fy:FuncId) (cy:Array Value):Obj:=.cells #[.func (.func fy) #[] cy] 165 (0,0)
theorem cLeavesN (nz:Value) (tb:Nat) (h a b lo hi:Int) (w:World):Calls Tryz.prog 64 #[pt tb,.pointer none,.agg #[.int .i64 h,.int .i64 a,.int .i64 b,nz],.agg #[.int .i64 lo,.int .i64 hi]] w fun e w'=>e=.returned (.func (.func 94) #[] #[.pointer (some ⟨w.heap.size,0,none⟩),.pointer (some ⟨w.heap.size+1,0,none⟩),.pointer (some ⟨w.heap.size+1+1,0,none⟩),.pointer (some ⟨w.heap.size+1+1+1,0,none⟩)])∧w'=(((w.alloc (.cells #[pt tb] 29 (0,0))).alloc (.cells #[.pointer none] 111 (0,0))).alloc (.cells #[.int .i64 h,.int .i64 a,.int .i64 b,nz] 120 (0,0))).alloc (.cells #[.int .i64 lo,.int .i64 hi] 116 (0,0)):=by
 go_enter Tryz.func64,Tryz.ntmps64
 go_wp2
 go_ret
 exact ⟨rfl,rfl⟩
section
variable {x:World} {a:Act} {l yb lf:Nat} {kk vv:Int} {fy:FuncId} {cy:Array Value} {E:Exit→Act→World→Prop}
end
structure WJ (yb:Nat) (fy:FuncId) (cy:Array Value) (J:Nat→List Nat→World→Prop) (j:Nat) (G:List Nat) (w:World):Prop where
 ex:∃ G0,G=yb :: G0∧J j G0 w∧yb∉G0
 hy:w.heap[yb]?=some (yBox fy cy)
theorem WJ.keep {P:Program} {M:List (Int × Int)} {yb:Nat} {fy:FuncId} {cy:Array Value} {J:Nat→List Nat→World→Prop} {j:Nat} {G L:List Nat} {w w':World} (hT:Taker P M J fy cy) (h:WJ yb fy cy J j G w) (ht:Turned L w w') (hL:∀ x,x∈L→x∉G):WJ yb fy cy J j G w':=by
 obtain ⟨G0,rfl,h1,n1⟩:=h.ex
 exact ⟨⟨G0,rfl,hT.keep h1 ht (fun x hx hm=>hL x hx (by simp [hm])),n1⟩,ht.heap h.hy (fun hm=>hL _ hm (by simp))⟩
theorem WJ.lt {P:Program} {M:List (Int × Int)} {yb:Nat} {fy:FuncId} {cy:Array Value} {J:Nat→List Nat→World→Prop} {j:Nat} {G:List Nat} {w:World} (hT:Taker P M J fy cy) (h:WJ yb fy cy J j G w):∀ x,x∈G→x < w.heap.size:=by
 obtain ⟨G0,rfl,h1,n1⟩:=h.ex
 intro x hx
 rcases List.mem_cons.1 hx with rfl | hx
 ·exact lt_of_heap h.hy
 ·exact hT.lt h1 x hx
section
variable {x:World} {bt b0 b1 b3 tb p yb:Nat} {F:List Nat} {s:PSt} {y0:Spot} {lo hi:Int} {a:Act} {Q:Exit→Act→World→Prop} {J:Nat→List Nat→World→Prop} {G:List Nat} {fy:FuncId} {cy:Array Value}
end
end Go.Proofs.YtloljphbdfjgdaaGreatDoor
/- Package trie's Walk, alone, by contract. -/
namespace Go.Proofs.YtloljphbdfjgdaaGreatDoor
open Go.RowKit
structure WBox (b1 b2 b3 b4 b5 tb:Nat) (root lo hi:Int) (W:World):Prop where
 h1:W.heap[b1]?=some (.cells #[.int .i64 lo] 3 (0,0))
 h2:W.heap[b2]?=some (.cells #[.int .i64 hi] 3 (0,0))
 h3:W.heap[b3]?=some (.cells #[.pointer none] 111 (0,0))
 h4:W.heap[b4]?=some (.cells #[.int .i64 root] 3 (0,0))
 h5:W.heap[b5]?=some (.cells #[.pointer (some ⟨tb,0,none⟩)] 29 (0,0))
theorem WBox.still {b1 b2 b3 b4 b5 tb:Nat} {root lo hi:Int} {W W':World} (h:WBox b1 b2 b3 b4 b5 tb root lo hi W) (ht:Turned [] W W'):WBox b1 b2 b3 b4 b5 tb root lo hi W' :=
 ⟨ht.heap h.h1 (by simp),ht.heap h.h2 (by simp),ht.heap h.h3 (by simp),ht.heap h.h4 (by simp),ht.heap h.h5 (by simp)⟩
section
variable {b1 b2 b3 b4 b5 tb p:Nat} {F:List Nat} {s:PSt} {o:Option Tr} {lo hi:Int} {W:World} {J:Nat→List Nat→World→Prop} {fy:FuncId} {cy:Array Value} {G:List Nat}
def WalkR (W:World) (J:Nat→List Nat→World→Prop) (G:List Nat) (N:Nat) (e:Ending) (w2:World):Prop:=e=.returned (.tuple #[])∧Turned G W w2∧∃ G',J N G' w2∧Wider G G' W
end
end Go.Proofs.YtloljphbdfjgdaaGreatDoor
/- A frame, spelled out. -/
namespace Go.Proofs.YtloljphbdfjgdaaGreatDoor
open Go.RowKit
def lit32 (c:Nat→Value):Array Value:=#[c 0,c 1,c 2,c 3,c 4,c 5,c 6,c 7,c 8,c 9,c 10,c 11,c 12,c 13,c 14,c 15,c 16,c 17,c 18,c 19,c 20,c 21,c 22,c 23,c 24,c 25,c 26,c 27,c 28,c 29,c 30,c 31]
end Go.Proofs.YtloljphbdfjgdaaGreatDoor
/- Package trie's Nodes, alone, by contract. -/
namespace Go.Proofs.YtloljphbdfjgdaaGreatDoor
open Go.RowKit Go.Shelf
attribute [local go_sem] Oper.semAt_some
section
structure NJ (lb B:Nat) (V:List Spot) (j:Nat) (G:List Nat) (w:World):Prop where
 ex:∃ v,G=lb :: v.ownBlock.toList∧w.heap[lb]?=some (.cells #[v] 38 (0,0))∧IR B w v ((V.take j).map (fun x=>x.t.hd))
variable {lb B:Nat} {V:List Spot}
theorem NJ.keep {j:Nat} {G L:List Nat} {w w':World} (h:NJ lb B V j G w) (ht:Turned L w w') (hL:∀ x,x∈L→x∉G):NJ lb B V j G w':=by
 obtain ⟨v,rfl,h1,h2⟩:=h.ex
 exact ⟨v,rfl,ht.heap h1 (fun hm=>hL _ hm (by simp)),h2.keep ht (fun g hg hm=>hL g hm (by rw [hg]; simp))⟩
theorem NJ.lt {j:Nat} {G:List Nat} {w:World} (h:NJ lb B V j G w):∀ x,x∈G→x < w.heap.size:=by
 obtain ⟨v,rfl,h1,h2⟩:=h.ex
 intro x hx
 rcases List.mem_cons.1 hx with rfl | hx
 ·exact lt_of_heap h1
 ·exact (h2.fresh (Option.mem_toList.1 hx)).2
end
section
variable {x:World} {a:Act} {l lb sp B vc:Nat} {uh sa sb:Int} {nn:Value} {va:Option Addr} {L:List Int} {E:Exit→Act→World→Prop}
end
section
variable {x:World} {bt b0 b1 b3 tb p rb eb lb B:Nat} {F:List Nat} {s:PSt} {y0:Spot} {lo hi:Int} {a:Act} {Q:Exit→Act→World→Prop}
end
end Go.Proofs.YtloljphbdfjgdaaGreatDoor
/- Package trie's Nodes, alone: whole. -/
namespace Go.Proofs.YtloljphbdfjgdaaGreatDoor
open Go.RowKit
end Go.Proofs.YtloljphbdfjgdaaGreatDoor

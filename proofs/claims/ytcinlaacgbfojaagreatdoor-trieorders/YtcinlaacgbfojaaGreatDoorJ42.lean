/- Two maps over one pool, as a law holds them; the lists of pairs of changes in another order. -/
import Derived.Test.YtcinlaacgbfojaaGreatDoorJ38
import Derived.Test.YtcinlaacgbfojaaGreatDoorJ41
namespace Go.Proofs.YtcinlaacgbfojaaGreatDoor
open Go.RowKit
/-! ### Lists of pairs by what they tell -/
theorem getL_cons (x:Int × Int) (l:List (Int × Int)) (k:Int) (hr:Rise (x :: l)):getL (x :: l) k=if x.1=k then some x.2 else getL l k:=by
 obtain ⟨a,b⟩:=x
 have hlt:=(List.pairwise_cons.1 hr).1
 simp only [getL]
 by_cases e:k=a
 ·subst e; simp
 ·have e':¬ a=k:=fun h=>e h.symm
  have hlow:k≤a→getL l k=none:=fun hk=>by
   have:=getL_left (l:=[]) (m:=l) (k:=k) (fun x hx=>by have:=hlt x hx; simp at this; omega)
   simpa [getL] using this
  simp only [if_neg e']
  split <;> simp_all
theorem getL_mem {l:List (Int × Int)} (hr:Rise l) {k v:Int}:getL l k=some v↔(k,v)∈l:=by
 induction l with
 | nil=>simp [getL]
 | cons x l ih =>
  have hr2:=(List.pairwise_cons.1 hr).2
  have hlt:=(List.pairwise_cons.1 hr).1
  rw [getL_cons x l k hr]
  by_cases e:x.1=k
  ·rw [if_pos e]
   constructor
   ·intro h
    simp only [Option.some.injEq] at h
    subst e h
    simp
   ·intro h
    simp only [List.mem_cons] at h
    rcases h with h | h
    ·rw [← h]
    ·have:=hlt _ h
     simp at this
     omega
  ·rw [if_neg e,ih hr2]
   constructor
   ·intro h; simp [h]
   ·intro h
    simp only [List.mem_cons] at h
    rcases h with h | h
    ·exact absurd (by rw [← h]) e
    ·exact h
theorem rise_ext {l m:List (Int × Int)} (hl:Rise l) (hm:Rise m) (h:∀ k,getL l k=getL m k):l=m:=by
 refine List.Perm.eq_of_pairwise (le:=fun (x y:Int × Int)=>x.1 < y.1) ?_ hl hm ?_
 ·intro x y _ _ h1 h2
  omega
 ·refine (List.perm_ext_iff_of_nodup ?_ ?_).2 (fun x=>?_)
  ·exact hl.imp (fun h e=>by subst e; omega)
  ·exact hm.imp (fun h e=>by subst e; omega)
  ·obtain ⟨k,v⟩:=x
   rw [← getL_mem hl,← getL_mem hm,h k]
theorem getL_ins {l:List (Int × Int)} (hr:Rise l) (k v j:Int):getL (insL l k v) j=if j=k then some v else getL l j:=by
 have hi:=hr.ins k v
 induction l with
 | nil =>
  rw [show insL [] k v=[(k,v)] from rfl] at hi ⊢
  rw [getL_cons _ _ _ hi]
  by_cases e:j=k
  ·subst e; simp
  ·rw [if_neg (fun h=>e h.symm),if_neg e]
 | cons x l ih =>
  obtain ⟨a,b⟩:=x
  have hr2:Rise l:=(List.pairwise_cons.1 hr).2
  rw [getL_cons _ _ _ hr]
  by_cases e1:k=a
  ·subst e1
   rw [show insL ((k,b) :: l) k v=(k,v) :: l by simp [insL]] at hi ⊢
   rw [getL_cons _ _ _ hi]
   by_cases e:j=k
   ·subst e; simp
   ·rw [if_neg (fun h=>e h.symm),if_neg e,if_neg (fun h=>e h.symm)]
  ·by_cases e2:k < a
   ·rw [show insL ((a,b) :: l) k v=(k,v) :: (a,b) :: l by unfold insL; rw [if_neg (show ¬ a < k by omega),if_neg (show ¬ a=k by omega)]] at hi ⊢
    rw [getL_cons _ _ _ hi,getL_cons _ _ _ hr]
    by_cases e:j=k
    ·subst e; simp
    ·rw [if_neg (fun h=>e h.symm),if_neg e]
   ·have e3:insL ((a,b) :: l) k v=(a,b) :: insL l k v:=by rw [insL,if_pos (show a < k by omega)]
    rw [e3] at hi ⊢
    rw [getL_cons _ _ _ hi,ih hr2 (hr2.ins k v)]
    by_cases e:j=k
    ·subst e
     have:¬ a=j:=fun h=>e1 h.symm
     rw [if_neg this,if_pos rfl,if_pos rfl]
    ·rw [if_neg e,if_neg e]
theorem getL_del {l:List (Int × Int)} (hr:Rise l) (k j:Int):getL (delL l k) j=if j=k then none else getL l j:=by
 have hi:=hr.del k
 induction l with
 | nil=>simp [delL,getL]
 | cons x l ih =>
  obtain ⟨a,b⟩:=x
  have hr2:Rise l:=(List.pairwise_cons.1 hr).2
  have hlt:=(List.pairwise_cons.1 hr).1
  rw [getL_cons _ _ _ hr]
  have low:∀ q,q≤a→getL l q=none:=fun q hq=>by
   have:=getL_left (l:=[]) (m:=l) (k:=q) (fun x hx=>by have:=hlt x hx; simp at this; omega)
   simpa [getL] using this
  by_cases e1:k=a
  ·subst e1
   rw [show delL ((k,b) :: l) k=l by simp [delL]]
   by_cases e:j=k
   ·subst e; rw [if_pos rfl]; exact low j (Int.le_refl _)
   ·rw [if_neg e,if_neg (fun h=>e h.symm)]
  ·by_cases e2:k < a
   ·have e3:delL ((a,b) :: l) k=(a,b) :: l:=delL_none (by rw [getL_cons _ _ _ hr,if_neg (fun h=>e1 h.symm)]; exact low k (by omega))
    rw [e3,getL_cons _ _ _ hr]
    by_cases e:j=k
    ·subst e; rw [if_pos rfl,if_neg (fun h=>e1 h.symm)]; exact low j (by omega)
    ·rw [if_neg e]
   ·have e3:delL ((a,b) :: l) k=(a,b) :: delL l k:=by rw [delL,if_pos (show a < k by omega)]
    rw [e3] at hi ⊢
    rw [getL_cons _ _ _ hi,ih hr2 (hr2.del k)]
    by_cases e:j=k
    ·subst e
     have:¬ a=j:=fun h=>e1 h.symm
     rw [if_neg this,if_pos rfl,if_pos rfl]
    ·rw [if_neg e,if_neg e]
/-! ### Two maps over one pool -/
structure KeepT (x x':World):Prop where
 size:x.heap.size≤x'.heap.size
 blk:∀ (g:Nat) (cs:Array Value) (T:TypeId),T∉([71,78,139,69,74]:List TypeId)→x.heap[g]?=some (.cells cs T (0,0))→x'.heap[g]?=some (.cells cs T (0,0))
theorem KeepT.trans {x y z:World} (h:KeepT x y) (k:KeepT y z):KeepT x z:=⟨Nat.le_trans h.size k.size,fun g cs T hT hg=>k.blk g cs T hT (h.blk g cs T hT hg)⟩
theorem KeepT.of {x y:World} (h:Turned [] x y):KeepT x y:=⟨h.size,fun _ _ _ _ hg=>h.heap hg (by simp)⟩
theorem keepT_pool {x x':World} {p:Nat} {F:List Nat} {s:PSt} (hA:AtZ x p F s) (ht:Turned F x x'):KeepT x x':=⟨ht.size,fun _ _ _ hT hg=>ht.heap hg (poolAt_other hA.1 hg hT)⟩
structure T2x (W x:World) (n p tb it:Nat) (o0 o1:Option Tr) (gone:List Int) (F:List Nat) (s:PSt) (St:List Nat) (it0:Nat):Prop where
 at_:AtZ x p F s
 tb_:TrieB x tb p
 ntb:tb∉F
 pv:PV s St it0
 it_:it0≤it
 h0:Holds s o0
 h1:Holds s o1
 dis:∀ h,h∈hsx o0→h∉hsx o1
 off0:∀ h,h∈gone→h∉hsx o0
 off1:∀ h,h∈gone→h∉hsx o1
 live:∀ h,h∈gone→∃ c,Ct s h c
 one:gone.Nodup
 room:St.length+gone.length+(hsx o0).length+(hsx o1).length=n
 faults:s.faults=0
 tw:Turned [] W x
 low:∀ z,z∈F→W.heap.size≤z
structure T2 (W x:World) (n p tb it:Nat) (o0 o1:Option Tr) (gone:List Int):Prop where
 ex:∃ F s St it0,T2x W x n p tb it o0 o1 gone F s St it0
section
variable {W x x':World} {n p tb it it' it1:Nat} {o0 o1 o':Option Tr} {gone:List Int} {F F':List Nat} {s s':PSt} {St St':List Nat} {it0:Nat}
theorem IR.isSl3 {B:Nat} {w:World} {v:Value} {l:List Int} (h:IR B w v l):∃ a m c,v=.slice a m c:=by
 obtain ⟨a,c,e⟩:=h.form
 exact ⟨a,_,c,e⟩
theorem T2.more (h:T2 W x n p tb it o0 o1 gone) (hi:it≤it'):T2 W x n p tb it' o0 o1 gone:=by
 obtain ⟨F,s,St,it0,h⟩:=h.ex
 exact ⟨F,s,St,it0,⟨h.at_,h.tb_,h.ntb,h.pv,Nat.le_trans h.it_ hi,h.h0,h.h1,h.dis,h.off0,h.off1,h.live,h.one,h.room,h.faults,h.tw,h.low⟩⟩
theorem T2.swap (h:T2 W x n p tb it o0 o1 gone):T2 W x n p tb it o1 o0 gone:=by
 obtain ⟨F,s,St,it0,h⟩:=h.ex
 exact ⟨F,s,St,it0,h.at_,h.tb_,h.ntb,h.pv,h.it_,h.h1,h.h0,fun a h1 h2=>h.dis a h2 h1,h.off1,h.off0,h.live,h.one,by have:=h.room; omega,h.faults,h.tw,h.low⟩
theorem T2.still (h:T2 W x n p tb it o0 o1 gone) (ht:Turned [] x x'):T2 W x' n p tb it o0 o1 gone:=by
 obtain ⟨F,s,St,it0,h⟩:=h.ex
 exact ⟨F,s,St,it0,⟨poolLawsZ.keep h.at_ ht (by simp),h.tb_.still ht,h.ntb,h.pv,h.it_,h.h0,h.h1,h.dis,h.off0,h.off1,h.live,h.one,h.room,h.faults,h.tw.trans ht,h.low⟩⟩
theorem T2.turned (h:T2 W x n p tb it o0 o1 gone):Turned [] W x:=by
 obtain ⟨F,s,St,it0,h⟩:=h.ex
 exact h.tw
theorem T2.write (h:T2 W x n p tb it o0 o1 gone) {b:Nat} {cs:Array Value} {T:TypeId} (hb:x.heap[b]?=some (.cells cs T (0,0))) (hT:T∉([71,78,139,69,74]:List TypeId)) (hT2:T≠81) (hp:0 < W.heap.size) (hw:W.heap.size≤b) (ht:Turned [b] x x'):T2 W x' n p tb it o0 o1 gone:=by
 obtain ⟨F,s,St,it0,h⟩:=h.ex
 have n1:b≠tb:=other_type hb h.tb_.blk hT2
 exact ⟨F,s,St,it0,⟨poolLawsZ.keep h.at_ ht (fun z hz hm=>by simp at hz; subst hz; exact poolAt_other h.at_.1 hb hT hm),h.tb_.keep ht (by simp; exact fun e=>n1 e.symm) (by simp; omega),h.ntb,h.pv,h.it_,h.h0,h.h1,h.dis,h.off0,h.off1,h.live,h.one,h.room,h.faults,h.tw.inner ht (fun z hz=>by simp at hz; subst hz; exact .inr hw),h.low⟩⟩
theorem T2x.done {root:Int} {gn made:List Int} {it2:Nat} (h:T2x W x n p tb it o0 o1 [] F s St it0) (ht:Turned F x x') (hA:AtZ x' p F' s') (hW:Wider F F' x) (htb:tb∉F') (hC:Chg s s' St' it0 it2) (hD:Done s s' St St' o0 o' root gn made):T2x W x' n p tb (it+200) o' o1 gn F' s' St' it2:=by
 have hp:=hD.perm.length_eq
 rw [List.length_append,List.length_append] at hp
 refine ⟨hA,h.tb_.keep ht h.ntb h.at_.2,htb,hC.pv,by have:=hC.it; have:=h.it_; omega,hD.holds,h.h1.keep fun a b _ hc=>hC.ct a b hc,fun a ha ha1=>?_,fun a ha ha0=>hD.apart h.h0 a ha0 ha,fun a ha=>h.dis a (hD.of a ha),fun a ha=>?_,hD.one,?_,by rw [hC.faults]; exact h.faults,h.tw.inner ht (fun z hz=>.inr (h.low z hz)),fun z hz=>?_⟩
 ·have hm:a∈hsx o0 ++ made:=hD.perm.mem_iff.1 (by simp [ha])
  simp only [List.mem_append] at hm
  rcases hm with hm | hm
  ·exact h.dis a hm ha1
  ·obtain ⟨c,hc⟩:=h.h1.alive a ha1
   exact hD.fresh a hm c hc
 ·obtain ⟨c,hc⟩:=h.h0.alive a (hD.of a ha)
  exact ⟨c,hC.ct _ _ hc⟩
 ·have q:=h.room
  have q2:=hD.room
  simp only [List.length_nil] at q
  omega
 ·rcases hW z hz with e | e
  ·exact h.low z e
  ·have:=h.tw.size; omega
theorem T2x.not {root:Int} {gn made:List Int} {it2:Nat} (h:T2x W x n p tb it o0 o1 [] F s St it0) (ht:Turned F x x') (hA:AtZ x' p F' s') (hW:Wider F F' x) (htb:tb∉F') (hC:Chg s s' St' it0 it2) (hD:Not St St' root gn made):T2x W x' n p tb (it+200) o0 o1 [] F' s' St' it2:=by
 refine ⟨hA,h.tb_.keep ht h.ntb h.at_.2,htb,hC.pv,by have:=hC.it; have:=h.it_; omega,h.h0.keep fun a b _ hc=>hC.ct a b hc,h.h1.keep fun a b _ hc=>hC.ct a b hc,h.dis,h.off0,h.off1,(fun a ha=>by cases ha),List.nodup_nil,by have:=h.room; rw [hD.room]; exact this,by rw [hC.faults]; exact h.faults,h.tw.inner ht (fun z hz=>.inr (h.low z hz)),fun z hz=>?_⟩
 rcases hW z hz with e | e
 ·exact h.low z e
 ·have:=h.tw.size; omega
theorem tPut (h:T2 W x n p tb it o0 o1 []) (hit:it≤800000000) {k:Int} (hk:isKey k) (v:Int) :
  Calls Tryz.prog 10 #[pt tb,.pointer none,.int .i64 (rootO o0),.int .i64 k,.int .i64 v] x fun e x'=>∃ er root old had gv mv gn o',e=.returned (.tuple #[.agg #[.int .i64 root,.int .i64 old,.bool had,gv,mv],.int .i64 er])∧KeepT x x'∧IR x.heap.size x' gv gn∧(∃ a m c,mv=.slice a m c)∧Turned [] W x' ∧
   (er=102∨(er=0∧root=rootO o'∧prs o'=insL (prs o0) k v∧T2 W x' n p tb (it+200) o' o1 gn)):=by
 obtain ⟨F,s,St,it0,h⟩:=h.ex
 have hit0:=h.it_
 refine (trieLaws.put h.at_ h.tb_ h.ntb h.pv (by omega) h.h0 k v).mono ?_
 rintro e x' ⟨er,root,old,had,gv,mv,gn,made,s',F',St',it2,o',rfl,ht,hA,hW,htb,hg,hm,hgF,hmF,hC,hR⟩
 refine ⟨er,root,old,had,gv,mv,gn,o',rfl,keepT_pool h.at_ ht,hg,hm.isSl3,h.tw.inner ht (fun z hz=>.inr (h.low z hz)),?_⟩
 cases hR with
 | bad hb _=>exact absurd hk hb
 | full _ _=>exact .inl rfl
 | done _ hD hp _ _=>exact .inr ⟨rfl,hD.root,hp,F',s',St',it2,h.done ht hA hW htb hC hD⟩
theorem tUndo {B:Nat} {gv:Value} (h:T2 W x n p tb it o0 o1 gone) (hit:it≤800000000) (hn:n≤10000) (hg:IR B x gv gone) :
  Calls Tryz.prog 11 #[pt tb,.pointer none,gv] x fun e x'=>e=.returned (.int .i64 0)∧KeepT x x'∧T2 W x' n p tb (it+10000) o0 o1 []:=by
 obtain ⟨F,s,St,it0,h⟩:=h.ex
 have hit0:=h.it_
 have hr:=h.room
 have hgF:∀ b,gv.ownBlock=some b→b∉F:=fun b hb=>by
  obtain ⟨cs,hc⟩:=hg.type hb
  exact poolAt_other h.at_.1 hc (by decide)
 refine (trieLaws.undo h.at_ h.tb_ h.ntb h.pv (by omega) hg hgF h.one (by omega) h.live).mono ?_
 rintro e x' ⟨rfl,ht,F',s',St',hA,hW,htb,hV,hn',hf,hS,hk⟩
 refine ⟨rfl,keepT_pool h.at_ ht,F',s',St',_,⟨hA,h.tb_.keep ht h.ntb h.at_.2,htb,hV,by omega,h.h0.keep fun a b ha hc=>hk a b hc (fun hm=>h.off0 a hm ha),h.h1.keep fun a b ha hc=>hk a b hc (fun hm=>h.off1 a hm ha),h.dis,(fun a ha=>by cases ha),(fun a ha=>by cases ha),(fun a ha=>by cases ha),List.nodup_nil,by simp; omega,by rw [hf]; exact h.faults,h.tw.inner ht (fun z hz=>.inr (h.low z hz)),fun z hz=>?_⟩⟩
 rcases hW z hz with e | e
 ·exact h.low z e
 ·have:=h.tw.size; omega
theorem lawDropR (hAz:AtZ x p F s) (hT:TrieB x tb p) (hV:PV s St it) (hit:it≤900000000) (hH:Holds s o0) (hroom:34≤St.length) {k:Int} (hk:isKey k) (hs:(getL (prs o0) k).isSome) :
  Calls Tryz.prog 12 #[pt tb,.pointer none,.int .i64 (rootO o0),.int .i64 k] x fun e w'=>∃ root old had gv mv gone made s' F' St' it' o',e=.returned (.tuple #[.agg #[.int .i64 root,.int .i64 old,.bool had,gv,mv],.int .i64 0])∧Turned F x w'∧AtZ w' p F' s'∧Wider F F' x∧tb∉F' ∧
   IR x.heap.size w' gv gone∧IR x.heap.size w' mv made∧Chg s s' St' it it'∧Done s s' St St' o0 o' root gone made∧prs o'=delL (prs o0) k:=by
 obtain ⟨hA,h0⟩:=hAz
 cases o0 with
 | none=>cases hs
 | some t =>
  have hw:=hH.wf t rfl
  have hR:=hH.rep t rfl
  have hg:getL (prs (some t)) k=Tr.val k (t.stop k):=Tr.getL_stop hw
  rw [hg] at hs
  obtain ⟨ov,hv⟩:=Option.isSome_iff_exists.1 hs
  refine (cDropE hT hA hV hit hR hw hk.1 hk.2 hv).mono ?_
  rintro e w' ⟨er,root2,old2,had2,ga,gl,gc,ma,ml,mc,gone2,made2,s2,F2,St2,it2,rfl,h1,h2,h3,h4,h5,h6,h7,h8,h9,h10⟩
  rcases h10 with ⟨rfl,hM,rfl,rfl,hrep,rfl,rfl,rfl,rfl⟩ | ⟨rfl,hlt,hn,-,-⟩
  ·obtain ⟨hd,hp⟩:=delO_ok hH hV hM hrep hv
   exact ⟨_,_,_,_,_,_,_,s2,F2,_,it2,(Tr.del (gOf s St) k t).1,rfl,h1,⟨h2,wider_z hT h0 h3⟩,h3,h4,h5,h6,h9,hd,hp⟩
  ·exfalso
   obtain ⟨-,-,-,h4',h5'⟩:=Tr.del_ok (g:=gOf s St) hw hs _ _ rfl
   have hgl:=Tr.gone_len k hw
   have hd:=hw.deep32
   rw [if_pos hs] at hgl
   omega
theorem tDrop (h:T2 W x n p tb it o0 o1 []) (hit:it≤800000000) (hroom:(hsx o0).length+(hsx o1).length+34≤n) (k:Int) :
  Calls Tryz.prog 12 #[pt tb,.pointer none,.int .i64 (rootO o0),.int .i64 k] x fun e x'=>∃ er root old had gv mv gn o',e=.returned (.tuple #[.agg #[.int .i64 root,.int .i64 old,.bool had,gv,mv],.int .i64 er])∧KeepT x x'∧IR x.heap.size x' gv gn∧(∃ a m c,mv=.slice a m c)∧prs o'=delL (prs o0) k ∧
   ((¬ er=0∧o'=o0∧T2 W x' n p tb (it+200) o0 o1 [])∨(er=0∧root=rootO o'∧T2 W x' n p tb (it+200) o' o1 gn)):=by
 obtain ⟨F,s,St,it0,h⟩:=h.ex
 have hit0:=h.it_
 have hr:=h.room
 simp only [List.length_nil] at hr
 by_cases hk:isKey k
 ·by_cases hs:(getL (prs o0) k).isSome
  ·refine (lawDropR h.at_ h.tb_ h.pv (by omega) h.h0 (by omega) hk hs).mono ?_
   rintro e x' ⟨root,old,had,gv,mv,gn,made,s',F',St',it2,o',rfl,ht,hA,hW,htb,hg,hm,hC,hD,hp⟩
   exact ⟨0,root,old,had,gv,mv,gn,o',rfl,keepT_pool h.at_ ht,hg,hm.isSl3,hp,.inr ⟨rfl,hD.root,F',s',St',it2,h.done ht hA hW htb hC hD⟩⟩
  ·refine (trieLaws.drop h.at_ h.tb_ h.ntb h.pv (by omega) h.h0 k).mono ?_
   rintro e x' ⟨er,root,old,had,gv,mv,gn,made,s',F',St',it2,o',rfl,ht,hA,hW,htb,hg,hm,hgF,hmF,hC,hR⟩
   cases hR with
   | bad hb _=>exact absurd hk hb
   | none _ hn hN=>exact ⟨122,root,old,had,gv,mv,gn,o0,rfl,keepT_pool h.at_ ht,hg,hm.isSl3,(delL_none hn).symm,.inl ⟨by decide,rfl,F',s',St',it2,h.not ht hA hW htb hC hN⟩⟩
   | full _ hq _=>exact absurd hq hs
   | done _ hq _ _ _ _=>exact absurd hq hs
 ·refine (trieLaws.drop h.at_ h.tb_ h.ntb h.pv (by omega) h.h0 k).mono ?_
  rintro e x' ⟨er,root,old,had,gv,mv,gn,made,s',F',St',it2,o',rfl,ht,hA,hW,htb,hg,hm,hgF,hmF,hC,hR⟩
  have hno:getL (prs o0) k=none:=by
   cases hq:getL (prs o0) k with
   | none=>rfl
   | some v =>
    exfalso
    have hm:=(getL_mem h.h0.rise).1 hq
    cases o0 with
    | none=>cases hm
    | some t =>
     have hw:=h.h0.wf t rfl
     have:=hw.mem _ hm
     have:=hw.span
     exact hk ⟨by simp at *; omega,by simp at *; omega⟩
  cases hR with
  | bad _ hN=>exact ⟨120,root,old,had,gv,mv,gn,o0,rfl,keepT_pool h.at_ ht,hg,hm.isSl3,(delL_none hno).symm,.inl ⟨by decide,rfl,F',s',St',it2,h.not ht hA hW htb hC hN⟩⟩
  | none hq _ _=>exact absurd hq hk
  | full hq _ _=>exact absurd hq hk
  | done hq _ _ _ _ _=>exact absurd hq hk
theorem PR.offPool {B:Nat} {lv:Value} {l:List (Int × Int)} (hR:PR B x lv l) (hA:AtZ x p F s):∀ g,lv.ownBlock=some g→g∉F:=fun g hg=>by
 rcases hR.own.2 with ⟨h0,_⟩ | ⟨g',c,cs,hv,_,hh,_⟩
 ·rw [h0] at hg; cases hg
 ·rw [hv] at hg; cases hg
  exact poolAt_other hA.1 hh (by decide)
theorem tTells {B:Nat} {lv:Value} (h:T2 W x n p tb it o0 o1 []) (hR:PR B x lv (prs o0)) (hl:(prs o0).length≤100000) (lo hi:Int) :
  Calls Tryz.prog 14 #[pt tb,.agg #[.int .i64 (rootO o0),lv],.int .i64 lo,.int .i64 hi] x fun e x'=>e=.returned (.bool true)∧KeepT x x'∧T2 W x' n p tb it o0 o1 []:=by
 obtain ⟨F,s,St,it0,h⟩:=h.ex
 refine (cTellsA poolLawsZ trieLaws h.at_ h.tb_ h.ntb h.pv.ok h.h0 hR (hR.offPool h.at_) hl lo hi).mono ?_
 rintro e x' ⟨rfl,ht,hA⟩
 exact ⟨rfl,keepT_pool h.at_ ht,F,s,St,it0,⟨hA,h.tb_.keep ht h.ntb h.at_.2,h.ntb,h.pv,h.it_,h.h0,h.h1,h.dis,h.off0,h.off1,h.live,h.one,h.room,h.faults,h.tw.inner ht (fun z hz=>.inr (h.low z hz)),h.low⟩⟩
theorem tFaults (h:T2 W x n p tb it o0 o1 []) :
  Calls Tryz.prog 15 #[pt p] x fun e x'=>e=.returned (.int .i64 0)∧KeepT x x'∧T2 W x' n p tb it o0 o1 []:=by
 obtain ⟨F,s,St,it0,h⟩:=h.ex
 refine (poolLawsZ.faults h.at_).mono ?_
 rintro e x' ⟨rfl,ht,hA⟩
 exact ⟨by rw [h.faults],keepT_pool h.at_ ht,F,s,St,it0,⟨hA,h.tb_.keep ht h.ntb h.at_.2,h.ntb,h.pv,h.it_,h.h0,h.h1,h.dis,h.off0,h.off1,h.live,h.one,h.room,h.faults,h.tw.inner ht (fun z hz=>.inr (h.low z hz)),h.low⟩⟩
theorem tFree (h:T2 W x n p tb it o0 o1 []) :
  Calls Tryz.prog 16 #[pt p] x fun e x'=>(∃ a c,e=.returned (.slice a (n - (hsx o0).length - (hsx o1).length) c))∧KeepT x x'∧T2 W x' n p tb it o0 o1 []:=by
 obtain ⟨F,s,St,it0,h⟩:=h.ex
 have hr:=h.room
 simp only [List.length_nil] at hr
 refine (poolLawsZ.free h.at_ h.pv.ok h.pv.top h.pv.nodup h.pv.small).mono ?_
 rintro e x' ⟨he,ht,hA⟩
 rw [show St.length=n - (hsx o0).length - (hsx o1).length by omega] at he
 exact ⟨he,keepT_pool h.at_ ht,F,s,St,it0,⟨hA,h.tb_.keep ht h.ntb h.at_.2,h.ntb,h.pv,h.it_,h.h0,h.h1,h.dis,h.off0,h.off1,h.live,h.one,h.room,h.faults,h.tw.inner ht (fun z hz=>.inr (h.low z hz)),h.low⟩⟩
theorem T2.start (hn:1≤n) (hn2:n≤4096) (hA:AtZ x p F (PSt.new n)) (hT:TrieB x tb p) (ntb:tb∉F) (tw:Turned [] W x) (low:∀ z,z∈F→W.heap.size≤z):T2 W x n p tb 0 none none [] :=
 ⟨F,PSt.new n,List.range' 1 n,0,⟨hA,hT,ntb,PV.new hn hn2,Nat.le_refl _,Holds.none _,Holds.none _,(fun _ h=>by cases h),(fun _ h=>by cases h),(fun _ h=>by cases h),(fun _ h=>by cases h),List.nodup_nil,by simp [hsx,Tr.hsO],rfl,tw,low⟩⟩
end
end Go.Proofs.YtcinlaacgbfojaaGreatDoor
/- Puts and drops in another order: the same pairs. -/
namespace Go.Proofs.YtcinlaacgbfojaaGreatDoor
open Go.RowKit
def insAll (l ks:List (Int × Int)):List (Int × Int):=ks.foldl (fun l x=>insL l x.1 x.2) l
def delAll (l:List (Int × Int)) (ds:List Int):List (Int × Int):=ds.foldl delL l
theorem rise_nil:Rise []:=List.Pairwise.nil
theorem rise_insAll {l:List (Int × Int)} (h:Rise l):∀ ks,Rise (insAll l ks):=fun ks=>by
 induction ks generalizing l with
 | nil=>exact h
 | cons x ks ih=>exact ih (h.ins x.1 x.2)
theorem rise_delAll {l:List (Int × Int)} (h:Rise l):∀ ds,Rise (delAll l ds):=fun ds=>by
 induction ds generalizing l with
 | nil=>exact h
 | cons x ks ih=>exact ih (h.del x)
theorem getL_insAll {ks:List (Int × Int)} (hd:(ks.map Prod.fst).Nodup) {l:List (Int × Int)} (h:Rise l) (k v:Int):getL (insAll l ks) k=some v↔(k,v)∈ks∨(k∉ks.map Prod.fst∧getL l k=some v):=by
 induction ks generalizing l with
 | nil=>simp [insAll]
 | cons x ks ih =>
  obtain ⟨a,b⟩:=x
  rw [List.map_cons,List.nodup_cons] at hd
  show getL (insAll (insL l a b) ks) k=some v↔_
  rw [ih hd.2 (h.ins a b),getL_ins h]
  by_cases e:k=a
  ·subst e
   simp only [if_true,List.mem_cons,List.map_cons]
   have hn:(k,v)∉ks:=fun hm=>hd.1 (List.mem_map.2 ⟨_,hm,rfl⟩)
   constructor
   ·rintro (h1 | ⟨_,h1⟩)
    ·exact absurd h1 hn
    ·simp at h1; subst h1; simp
   ·rintro ((h1 | h1) | ⟨h1,_⟩)
    ·simp at h1; subst h1; exact .inr ⟨hd.1,rfl⟩
    ·exact absurd h1 hn
    ·exact absurd (by simp) h1
  ·rw [if_neg e]
   simp only [List.mem_cons,List.map_cons,Prod.mk.injEq,e,false_and,false_or]
theorem getL_delAll {l:List (Int × Int)} (h:Rise l) (ds:List Int) (k:Int):getL (delAll l ds) k=if k∈ds then none else getL l k:=by
 induction ds generalizing l with
 | nil=>simp [delAll]
 | cons x ds ih =>
  show getL (delAll (delL l x) ds) k=_
  rw [ih (h.del x),getL_del h]
  by_cases e:k=x
  ·subst e; simp
  ·simp [e]
theorem insAll_ext {ks ms:List (Int × Int)} (hk:(ks.map Prod.fst).Nodup) (hm:(ms.map Prod.fst).Nodup) (h:∀ x,x∈ks↔x∈ms):insAll [] ks=insAll [] ms:=by
 refine rise_ext (rise_insAll rise_nil _) (rise_insAll rise_nil _) (fun k=>?_)
 apply Option.ext
 intro v
 rw [getL_insAll hk rise_nil,getL_insAll hm rise_nil,h]
 simp [getL]
theorem delAll_ext {l:List (Int × Int)} (hl:Rise l) {ds es:List Int} (h:∀ x,x∈ds↔x∈es):delAll l ds=delAll l es:=by
 refine rise_ext (rise_delAll hl _) (rise_delAll hl _) (fun k=>?_)
 rw [getL_delAll hl,getL_delAll hl]
 by_cases e:k∈ds
 ·rw [if_pos e,if_pos ((h k).1 e)]
 ·rw [if_neg e,if_neg (fun q=>e ((h k).2 q))]
def jm (len c i:Nat):Nat:=(len - 1 - i+c) % len
theorem jm_lt {len c i:Nat} (h:0 < len):jm len c i < len:=Nat.mod_lt _ h
theorem jm_val {len c i:Nat} (hc:c < len) (hi:i < len):(jm len c i=len - 1 - i+c∧len - 1 - i+c < len)∨(jm len c i+len=len - 1 - i+c):=by
 unfold jm
 by_cases h:len - 1 - i+c < len
 ·exact .inl ⟨Nat.mod_eq_of_lt h,h⟩
 ·right
  rw [Nat.mod_eq_sub_mod (by omega),Nat.mod_eq_of_lt (by omega)]
  omega
theorem jm_inj {len c i j:Nat} (hc:c < len) (hi:i < len) (hj:j < len) (h:jm len c i=jm len c j):i=j:=by
 rcases jm_val hc hi with ⟨a,b⟩ | a <;> rcases jm_val hc hj with ⟨d,e⟩ | d <;> omega
theorem jm_surj {len c m:Nat} (hc:c < len) (hm:m < len):∃ i,i < len∧jm len c i=m:=by
 refine ⟨jm len c m,jm_lt (by omega),?_⟩
 have hl:=jm_lt (len:=len) (c:=c) (i:=m) (by omega)
 rcases jm_val hc hm with ⟨a,b⟩ | a <;> rcases jm_val hc hl with ⟨d,e⟩ | d <;> omega
def ordK (keys:List (Int × Int)) (c k:Nat):List (Int × Int):=if k=0 then keys else (List.range keys.length).map fun i=>keys.getD (jm keys.length c i) (0,0)
theorem ordK_len (keys:List (Int × Int)) (c k:Nat):(ordK keys c k).length=keys.length:=by unfold ordK; split <;> simp
theorem ordK_at {keys:List (Int × Int)} {c i:Nat} (hi:i < keys.length):(ordK keys c 1)[i]'(by rw [ordK_len]; exact hi)=keys[jm keys.length c i]'(jm_lt (by omega)):=by
 unfold ordK
 have h:jm keys.length c i < keys.length:=jm_lt (by omega)
 simp [h]
theorem ordK_mem {keys:List (Int × Int)} {c:Nat} (hc:c < keys.length) (x:Int × Int):x∈ordK keys c 1↔x∈keys:=by
 unfold ordK
 simp only [Nat.one_ne_zero,if_false,List.mem_map,List.mem_range]
 constructor
 ·rintro ⟨i,hi,rfl⟩
  have h:jm keys.length c i < keys.length:=jm_lt (by omega)
  simp only [List.getD_eq_getElem?_getD,List.getElem?_eq_getElem h,Option.getD_some]
  exact List.getElem_mem h
 ·intro hx
  obtain ⟨m,hm,rfl⟩:=List.mem_iff_getElem.1 hx
  obtain ⟨i,hi,e⟩:=jm_surj hc hm
  refine ⟨i,hi,?_⟩
  simp [e,hm]
theorem ordK_nodup {keys:List (Int × Int)} {c:Nat} (hc:c < keys.length) (hd:(keys.map Prod.fst).Nodup):((ordK keys c 1).map Prod.fst).Nodup:=by
 rw [List.nodup_iff_pairwise_ne,List.pairwise_iff_getElem]
 intro i j hi hj hij e
 have hi':i < keys.length:=by simpa [ordK_len] using hi
 have hj':j < keys.length:=by simpa [ordK_len] using hj
 rw [List.getElem_map,List.getElem_map,ordK_at hi',ordK_at hj'] at e
 have h1:jm keys.length c i < keys.length:=jm_lt (by omega)
 have h2:jm keys.length c j < keys.length:=jm_lt (by omega)
 have:jm keys.length c i=jm keys.length c j:=by
  have hn:=List.getElem_inj (xs:=keys.map Prod.fst) hd (i:=jm keys.length c i) (j:=jm keys.length c j) (h₀:=by simpa using h1) (h₁:=by simpa using h2)
  refine hn.1 ?_
  simpa using e
 have:=jm_inj hc hi' hj' this
 omega
theorem insAll_ord {keys:List (Int × Int)} {c:Nat} (hc:keys≠[]→c < keys.length) (hd:(keys.map Prod.fst).Nodup):insAll [] (ordK keys c 1)=insAll [] keys:=by
 by_cases e:keys=[]
 ·subst e; rfl
 ·exact insAll_ext (ordK_nodup (hc e) hd) hd (ordK_mem (hc e))
theorem insAll_take {l:List (Int × Int)} {i:Nat} (hi:i < l.length):insAll [] (l.take (i+1))=insL (insAll [] (l.take i)) l[i].1 l[i].2:=by
 unfold insAll
 rw [List.take_succ_eq_append_getElem hi,List.foldl_append]
 rfl
theorem delAll_take {m:List (Int × Int)} {l:List Int} {i:Nat} (hi:i < l.length):delAll m (l.take (i+1))=delL (delAll m (l.take i)) l[i]:=by
 unfold delAll
 rw [List.take_succ_eq_append_getElem hi,List.foldl_append]
 rfl
end Go.Proofs.YtcinlaacgbfojaaGreatDoor

/- Two maps over one pool, as a law holds them; the lists of pairs of changes in another order. -/
import Derived.Test.YtloljphbdfjgdaaGreatDoorK36
import Derived.Test.YtloljphbdfjgdaaGreatDoorK39
import Derived.Test.YtloljphbdfjgdaaGreatDoorK37
namespace Go.Proofs.YtloljphbdfjgdaaGreatDoor
open Go.RowKit
/-! ### Lists of pairs by what they tell -/
theorem getL_cons (x:Int × Int) (l:List (Int × Int)) (k:Int) (hr:Rise (x :: l)):getL (x :: l) k=if x.1=k then some x.2 else getL l k:=by
 obtain ⟨a,b⟩:=x
 have hlt:=(List.pairwise_cons.1 hr).1
 simp only [getL]
 by_cases e:k=a
 ·subst e; simp
 ·have e':¬ a=k:=fun h=>e h.symm
  have hlow:k≤a→getL l k=none:=fun hk=>by
   have:=getL_left (l:=[]) (m:=l) (k:=k) (fun x hx=>by have:=hlt x hx; simp at this; omega)
   simpa [getL] using this
  simp only [if_neg e']
  split <;> simp_all
theorem getL_mem {l:List (Int × Int)} (hr:Rise l) {k v:Int}:getL l k=some v↔(k,v)∈l:=by
 induction l with
 | nil=>simp [getL]
 | cons x l ih =>
  have hr2:=(List.pairwise_cons.1 hr).2
  have hlt:=(List.pairwise_cons.1 hr).1
  rw [getL_cons x l k hr]
  by_cases e:x.1=k
  ·rw [if_pos e]
   constructor
   ·intro h
    simp only [Option.some.injEq] at h
    subst e h
    simp
   ·intro h
    simp only [List.mem_cons] at h
    rcases h with h | h
    ·rw [← h]
    ·have:=hlt _ h
     simp at this
     omega
  ·rw [if_neg e,ih hr2]
   constructor
   ·intro h; simp [h]
   ·intro h
    simp only [List.mem_cons] at h
    rcases h with h | h
    ·exact absurd (by rw [← h]) e
    ·exact h
theorem rise_ext {l m:List (Int × Int)} (hl:Rise l) (hm:Rise m) (h:∀ k,getL l k=getL m k):l=m:=by
 refine List.Perm.eq_of_pairwise (le:=fun (x y:Int × Int)=>x.1 < y.1) ?_ hl hm ?_
 ·intro x y _ _ h1 h2
  omega
 ·refine (List.perm_ext_iff_of_nodup ?_ ?_).2 (fun x=>?_)
  ·exact hl.imp (fun h e=>by subst e; omega)
  ·exact hm.imp (fun h e=>by subst e; omega)
  ·obtain ⟨k,v⟩:=x
   rw [← getL_mem hl,← getL_mem hm,h k]
theorem getL_ins {l:List (Int × Int)} (hr:Rise l) (k v j:Int):getL (insL l k v) j=if j=k then some v else getL l j:=by
 have hi:=hr.ins k v
 induction l with
 | nil =>
  rw [show insL [] k v=[(k,v)] from rfl] at hi ⊢
  rw [getL_cons _ _ _ hi]
  by_cases e:j=k
  ·subst e; simp
  ·rw [if_neg (fun h=>e h.symm),if_neg e]
 | cons x l ih =>
  obtain ⟨a,b⟩:=x
  have hr2:Rise l:=(List.pairwise_cons.1 hr).2
  rw [getL_cons _ _ _ hr]
  by_cases e1:k=a
  ·subst e1
   rw [show insL ((k,b) :: l) k v=(k,v) :: l by simp [insL]] at hi ⊢
   rw [getL_cons _ _ _ hi]
   by_cases e:j=k
   ·subst e; simp
   ·rw [if_neg (fun h=>e h.symm),if_neg e,if_neg (fun h=>e h.symm)]
  ·by_cases e2:k < a
   ·rw [show insL ((a,b) :: l) k v=(k,v) :: (a,b) :: l by unfold insL; rw [if_neg (show ¬ a < k by omega),if_neg (show ¬ a=k by omega)]] at hi ⊢
    rw [getL_cons _ _ _ hi,getL_cons _ _ _ hr]
    by_cases e:j=k
    ·subst e; simp
    ·rw [if_neg (fun h=>e h.symm),if_neg e]
   ·have e3:insL ((a,b) :: l) k v=(a,b) :: insL l k v:=by rw [insL,if_pos (show a < k by omega)]
    rw [e3] at hi ⊢
    rw [getL_cons _ _ _ hi,ih hr2 (hr2.ins k v)]
    by_cases e:j=k
    ·subst e
     have:¬ a=j:=fun h=>e1 h.symm
     rw [if_neg this,if_pos rfl,if_pos rfl]
    ·rw [if_neg e,if_neg e]
theorem getL_del {l:List (Int × Int)} (hr:Rise l) (k j:Int):getL (delL l k) j=if j=k then none else getL l j:=by
 have hi:=hr.del k
 induction l with
 | nil=>simp [delL,getL]
 | cons x l ih =>
  obtain ⟨a,b⟩:=x
  have hr2:Rise l:=(List.pairwise_cons.1 hr).2
  have hlt:=(List.pairwise_cons.1 hr).1
  rw [getL_cons _ _ _ hr]
  have low:∀ q,q≤a→getL l q=none:=fun q hq=>by
   have:=getL_left (l:=[]) (m:=l) (k:=q) (fun x hx=>by have:=hlt x hx; simp at this; omega)
   simpa [getL] using this
  by_cases e1:k=a
  ·subst e1
   rw [show delL ((k,b) :: l) k=l by simp [delL]]
   by_cases e:j=k
   ·subst e; rw [if_pos rfl]; exact low j (Int.le_refl _)
   ·rw [if_neg e,if_neg (fun h=>e h.symm)]
  ·by_cases e2:k < a
   ·have e3:delL ((a,b) :: l) k=(a,b) :: l:=delL_none (by rw [getL_cons _ _ _ hr,if_neg (fun h=>e1 h.symm)]; exact low k (by omega))
    rw [e3,getL_cons _ _ _ hr]
    by_cases e:j=k
    ·subst e; rw [if_pos rfl,if_neg (fun h=>e1 h.symm)]; exact low j (by omega)
    ·rw [if_neg e]
   ·have e3:delL ((a,b) :: l) k=(a,b) :: delL l k:=by rw [delL,if_pos (show a < k by omega)]
    rw [e3] at hi ⊢
    rw [getL_cons _ _ _ hi,ih hr2 (hr2.del k)]
    by_cases e:j=k
    ·subst e
     have:¬ a=j:=fun h=>e1 h.symm
     rw [if_neg this,if_pos rfl,if_pos rfl]
    ·rw [if_neg e,if_neg e]
/-! ### Two maps over one pool -/
structure KeepT (x x':World):Prop where
 size:x.heap.size≤x'.heap.size
 blk:∀ (g:Nat) (cs:Array Value) (T:TypeId),T∉([86,93,156,84,89]:List TypeId)→x.heap[g]?=some (.cells cs T (0,0))→x'.heap[g]?=some (.cells cs T (0,0))
theorem KeepT.trans {x y z:World} (h:KeepT x y) (k:KeepT y z):KeepT x z:=⟨Nat.le_trans h.size k.size,fun g cs T hT hg=>k.blk g cs T hT (h.blk g cs T hT hg)⟩
theorem KeepT.of {x y:World} (h:Turned [] x y):KeepT x y:=⟨h.size,fun _ _ _ _ hg=>h.heap hg (by simp)⟩
theorem keepT_pool {x x':World} {p:Nat} {F:List Nat} {s:PSt} (hA:AtZ x p F s) (ht:Turned F x x'):KeepT x x':=⟨ht.size,fun _ _ _ hT hg=>ht.heap hg (poolAt_other hA.1 hg hT)⟩
structure T2x (W x:World) (n p tb it:Nat) (o0 o1:Option Tr) (gone:List Int) (F:List Nat) (s:PSt) (St:List Nat) (it0:Nat):Prop where
 at_:AtZ x p F s
 tb_:TrieB x tb p
 ntb:tb∉F
 pv:PV s St it0
 it_:it0≤it
 h0:Holds s o0
 h1:Holds s o1
 dis:∀ h,h∈hsx o0→h∉hsx o1
 off0:∀ h,h∈gone→h∉hsx o0
 off1:∀ h,h∈gone→h∉hsx o1
 live:∀ h,h∈gone→∃ c,Ct s h c
 one:gone.Nodup
 room:St.length+gone.length+(hsx o0).length+(hsx o1).length=n
 faults:s.faults=0
 tw:Turned [] W x
 low:∀ z,z∈F→W.heap.size≤z
structure T2 (W x:World) (n p tb it:Nat) (o0 o1:Option Tr) (gone:List Int):Prop where
 ex:∃ F s St it0,T2x W x n p tb it o0 o1 gone F s St it0
section
variable {W x x':World} {n p tb it it' it1:Nat} {o0 o1 o':Option Tr} {gone:List Int} {F F':List Nat} {s s':PSt} {St St':List Nat} {it0:Nat}
theorem T2.more (h:T2 W x n p tb it o0 o1 gone) (hi:it≤it'):T2 W x n p tb it' o0 o1 gone:=by
 obtain ⟨F,s,St,it0,h⟩:=h.ex
 exact ⟨F,s,St,it0,⟨h.at_,h.tb_,h.ntb,h.pv,Nat.le_trans h.it_ hi,h.h0,h.h1,h.dis,h.off0,h.off1,h.live,h.one,h.room,h.faults,h.tw,h.low⟩⟩
theorem T2.swap (h:T2 W x n p tb it o0 o1 gone):T2 W x n p tb it o1 o0 gone:=by
 obtain ⟨F,s,St,it0,h⟩:=h.ex
 exact ⟨F,s,St,it0,h.at_,h.tb_,h.ntb,h.pv,h.it_,h.h1,h.h0,fun a h1 h2=>h.dis a h2 h1,h.off1,h.off0,h.live,h.one,by have:=h.room; omega,h.faults,h.tw,h.low⟩
theorem T2.still (h:T2 W x n p tb it o0 o1 gone) (ht:Turned [] x x'):T2 W x' n p tb it o0 o1 gone:=by
 obtain ⟨F,s,St,it0,h⟩:=h.ex
 exact ⟨F,s,St,it0,⟨poolLawsZ.keep h.at_ ht (by simp),h.tb_.still ht,h.ntb,h.pv,h.it_,h.h0,h.h1,h.dis,h.off0,h.off1,h.live,h.one,h.room,h.faults,h.tw.trans ht,h.low⟩⟩
theorem T2.turned (h:T2 W x n p tb it o0 o1 gone):Turned [] W x:=by
 obtain ⟨F,s,St,it0,h⟩:=h.ex
 exact h.tw
theorem T2.write (h:T2 W x n p tb it o0 o1 gone) {b:Nat} {cs:Array Value} {T:TypeId} (hb:x.heap[b]?=some (.cells cs T (0,0))) (hT:T∉([86,93,156,84,89]:List TypeId)) (hT2:T≠96) (hp:0 < W.heap.size) (hw:W.heap.size≤b) (ht:Turned [b] x x'):T2 W x' n p tb it o0 o1 gone:=by
 obtain ⟨F,s,St,it0,h⟩:=h.ex
 have n1:b≠tb:=other_type hb h.tb_.blk hT2
 exact ⟨F,s,St,it0,⟨poolLawsZ.keep h.at_ ht (fun z hz hm=>by simp at hz; subst hz; exact poolAt_other h.at_.1 hb hT hm),h.tb_.keep ht (by simp; exact fun e=>n1 e.symm) (by simp; omega),h.ntb,h.pv,h.it_,h.h0,h.h1,h.dis,h.off0,h.off1,h.live,h.one,h.room,h.faults,h.tw.inner ht (fun z hz=>by simp at hz; subst hz; exact .inr hw),h.low⟩⟩
theorem T2x.done {root:Int} {gn made:List Int} {it2:Nat} (h:T2x W x n p tb it o0 o1 [] F s St it0) (ht:Turned F x x') (hA:AtZ x' p F' s') (hW:Wider F F' x) (htb:tb∉F') (hC:Chg s s' St' it0 it2) (hD:Done s s' St St' o0 o' root gn made):T2x W x' n p tb (it+200) o' o1 gn F' s' St' it2:=by
 have hp:=hD.perm.length_eq
 rw [List.length_append,List.length_append] at hp
 refine ⟨hA,h.tb_.keep ht h.ntb h.at_.2,htb,hC.pv,by have:=hC.it; have:=h.it_; omega,hD.holds,h.h1.keep fun a b _ hc=>hC.ct a b hc,fun a ha ha1=>?_,fun a ha ha0=>hD.apart h.h0 a ha0 ha,fun a ha=>h.dis a (hD.of a ha),fun a ha=>?_,hD.one,?_,by rw [hC.faults]; exact h.faults,h.tw.inner ht (fun z hz=>.inr (h.low z hz)),fun z hz=>?_⟩
 ·have hm:a∈hsx o0 ++ made:=hD.perm.mem_iff.1 (by simp [ha])
  simp only [List.mem_append] at hm
  rcases hm with hm | hm
  ·exact h.dis a hm ha1
  ·obtain ⟨c,hc⟩:=h.h1.alive a ha1
   exact hD.fresh a hm c hc
 ·obtain ⟨c,hc⟩:=h.h0.alive a (hD.of a ha)
  exact ⟨c,hC.ct _ _ hc⟩
 ·have q:=h.room
  have q2:=hD.room
  simp only [List.length_nil] at q
  omega
 ·rcases hW z hz with e | e
  ·exact h.low z e
  ·have:=h.tw.size; omega
theorem T2x.not {root:Int} {gn made:List Int} {it2:Nat} (h:T2x W x n p tb it o0 o1 [] F s St it0) (ht:Turned F x x') (hA:AtZ x' p F' s') (hW:Wider F F' x) (htb:tb∉F') (hC:Chg s s' St' it0 it2) (hD:Not St St' root gn made):T2x W x' n p tb (it+200) o0 o1 [] F' s' St' it2:=by
 refine ⟨hA,h.tb_.keep ht h.ntb h.at_.2,htb,hC.pv,by have:=hC.it; have:=h.it_; omega,h.h0.keep fun a b _ hc=>hC.ct a b hc,h.h1.keep fun a b _ hc=>hC.ct a b hc,h.dis,h.off0,h.off1,(fun a ha=>by cases ha),List.nodup_nil,by have:=h.room; rw [hD.room]; exact this,by rw [hC.faults]; exact h.faults,h.tw.inner ht (fun z hz=>.inr (h.low z hz)),fun z hz=>?_⟩
 rcases hW z hz with e | e
 ·exact h.low z e
 ·have:=h.tw.size; omega
theorem PR.offPool {B:Nat} {lv:Value} {l:List (Int × Int)} (hR:PR B x lv l) (hA:AtZ x p F s):∀ g,lv.ownBlock=some g→g∉F:=fun g hg=>by
 rcases hR.own.2 with ⟨h0,_⟩ | ⟨g',c,cs,hv,_,hh,_⟩
 ·rw [h0] at hg; cases hg
 ·rw [hv] at hg; cases hg
  exact poolAt_other hA.1 hh (by decide)
theorem T2.start (hn:1≤n) (hn2:n≤4096) (hA:AtZ x p F (PSt.new n)) (hT:TrieB x tb p) (ntb:tb∉F) (tw:Turned [] W x) (low:∀ z,z∈F→W.heap.size≤z):T2 W x n p tb 0 none none [] :=
 ⟨F,PSt.new n,List.range' 1 n,0,⟨hA,hT,ntb,PV.new hn hn2,Nat.le_refl _,Holds.none _,Holds.none _,(fun _ h=>by cases h),(fun _ h=>by cases h),(fun _ h=>by cases h),(fun _ h=>by cases h),List.nodup_nil,by simp [hsx,Tr.hsO],rfl,tw,low⟩⟩
end
end Go.Proofs.YtloljphbdfjgdaaGreatDoor
/- Drawn regions of TrieMaps, TrieDiffs: a change's answer is laid into a new block; shares and lengths. (Written by tools/gen/genmap.py.) -/
namespace Go.Proofs.YtloljphbdfjgdaaGreatDoor
open Go.RowKit
structure MdV where
 pv:Value
 root:Int
 old:Int
 had:Bool
 ga:Option Addr
 gl:Nat
 gc:Nat
 ma:Option Addr
 ml:Nat
 mc:Nat
def editZ:Obj:=.cells #[.int .i64 0,.int .i64 0,.bool false,.slice none 0 0,.slice none 0 0] 40 (0,0)
def editV (v:MdV):Obj:=.cells #[.int .i64 v.root,.int .i64 v.old,.bool v.had,.slice v.ga v.gl v.gc,.slice v.ma v.ml v.mc] 40 (0,0)
structure GE where
 ca:Option MdV
 nb:Option Nat
 st:Bool
def doneE (c a s:Nat) (g:GE) (i:Nat):Bool:=if i=c then g.ca.isSome else if i=a then g.nb.isSome else if i=s then g.st else false
structure SE (P0:World→Prop) (P1:MdV→World→Prop) (w:World) (g:GE) (x:World):Prop where
 p0:g.ca=none→P0 x
 p1:∀ v,g.ca=some v→P1 v x
 box:∀ nb,g.nb=some nb→w.heap.size≤nb∧x.heap[nb]?=some (match g.st,g.ca with | true,some v=>editV v | _,_=>editZ)
theorem SE.size {P0:World→Prop} {P1:MdV→World→Prop} {w x:World} {g:GE} (h:SE P0 P1 w g x) (h0:∀ x,P0 x→w.heap.size≤x.heap.size) (h1:∀ v x,P1 v x→w.heap.size≤x.heap.size):w.heap.size≤x.heap.size:=by
 cases hc:g.ca with
 | none=>exact h0 x (h.p0 hc)
 | some v=>exact h1 v x (h.p1 v hc)
theorem SE.c {P0:World→Prop} {P1:MdV→World→Prop} {C:World→Prop} {w x:World} {g:GE} (h:SE P0 P1 w g x) (h0:∀ x,P0 x→C x) (h1:∀ v x,P1 v x→C x):C x:=by
 cases hc:g.ca with
 | none=>exact h0 x (h.p0 hc)
 | some v=>exact h1 v x (h.p1 v hc)
def mp_r14V (p tb qb qo ll lc i:Nat) (rt cf ky vy:Int) (cd:Bool) (lv:Value)  (g:GE):Nat→Value:=fun j=>match j with | 0=>(pa p 0) | 1=>(pa tb 0) | 2=>(Value.agg #[.int .i64 rt,lv]) | 3=>(Value.slice (some ⟨qb,qo,none⟩) ll lc) | 4=>(Value.int IntKind.i64 i) | 5=>(pa qb (qo+i * 4)) | 6=>(Value.agg #[.int .i64 cf,.int .i64 ky,.int .i64 vy,.bool cd]) | 7=>(match g.ca with | some v=>Value.tuple #[v.pv,(.agg #[.int .i64 v.root,.int .i64 v.old,.bool v.had,.slice v.ga v.gl v.gc,.slice v.ma v.ml v.mc]),.bool true] | none=>undef) | 8=>(match g.ca with | some v=>Value.tuple #[v.pv,(.agg #[.int .i64 v.root,.int .i64 v.old,.bool v.had,.slice v.ga v.gl v.gc,.slice v.ma v.ml v.mc]),.bool true] | none=>undef) | 9=>(match g.ca with | some v=>v.pv | none=>undef) | 10=>(match g.ca with | some v=>Value.agg #[.int .i64 v.root,.int .i64 v.old,.bool v.had,.slice v.ga v.gl v.gc,.slice v.ma v.ml v.mc] | none=>undef) | 11=>(match g.ca with | some _=>Value.bool true | none=>undef) | 12=>(pa (g.nb.getD 0) 0) | 13=>(match g.ca with | some v=>v.pv | none=>undef) | 14=>undef | 15=>(match g.ca with | some _=>Value.bool true | none=>undef) | _=>undef
def mp_r18V (tb vb nb eb gl gc ml mc:Nat) (ga ma:Option Addr) (rt rt2 root old:Int) (had:Bool):Bool→Nat→Value:=fun _ j=>match j with | 0=>(pa tb 0) | 1=>(pa vb 0) | 2=>(Value.int IntKind.i64 rt) | 3=>(pa nb 0) | 4=>(pa nb 0) | 5=>(pa nb 0) | 6=>(Value.int IntKind.i64 rt2) | 7=>(Value.agg #[.int .i64 root,.int .i64 old,.bool had,.slice ga gl gc,.slice ma ml mc]) | 8=>(Value.bool true) | 9=>(Value.bool false) | 10=>(Value.bool false) | 11=>(pa eb 4) | 12=>(Value.slice ma ml mc) | 13=>(Value.int IntKind.i64 ml) | 14=>(Value.bool false) | 15=>(Value.bool false) | 16=>(Value.bool false) | 17=>(pa eb 4) | 18=>(Value.slice ma ml mc) | 19=>(Value.int IntKind.i64 ml) | 20=>(pa eb 3) | 21=>(Value.slice ga gl gc) | 22=>(Value.int IntKind.i64 gl) | 23=>(Value.int IntKind.i64 ((gl:Int)+2)) | 24=>(Value.bool false) | 25=>(Value.bool false) | _=>undef
end Go.Proofs.YtloljphbdfjgdaaGreatDoor

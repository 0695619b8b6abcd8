/- For TrieLong's known: skeinruns.Ints, trie.New, Put and Drop that find room; a small tree. -/
import Derived.Test.YtloljphbdfjgdaaGreatDoorK32
import Derived.Test.YtloljphbdfjgdaaGreatDoorK27
import Derived.Test.YtloljphbdfjgdaaGreatDoorK26
import Derived.BigQuiet
import Derived.Test.YtloljphbdfjgdaaGreatDoorK22
import Derived.Test.YtloljphbdfjgdaaGreatDoorK03
namespace Go.Proofs.YtloljphbdfjgdaaGreatDoor
open Go.RowKit
theorem cIntsI {w:World} {B B':Nat} {va vb:Value} {l:List Int} (ha:IR B w va l) (hb:IR B' w vb l) (hn:l.length≤1000000) (hne:l≠[]):Calls Tryz.prog 22 #[va,vb] w fun e w'=>e=.returned (.bool true)∧Turned [] w w':=by
 obtain ⟨aa,ca,rfl⟩:=ha.form
 obtain ⟨ab,cb,rfl⟩:=hb.form
 have fa:∃ g,aa=some ⟨g,0,none⟩:=by
  rcases ha.own.2 with ⟨_,h⟩ | ⟨g,c,cs,h,_⟩
  ·exact absurd (List.length_eq_zero_iff.1 h) hne
  ·cases h; exact ⟨g,rfl⟩
 have fb:∃ g,ab=some ⟨g,0,none⟩:=by
  rcases hb.own.2 with ⟨_,h⟩ | ⟨g,c,cs,h,_⟩
  ·exact absurd (List.length_eq_zero_iff.1 h) hne
  ·cases h; exact ⟨g,rfl⟩
 obtain ⟨ga,rfl⟩:=fa
 obtain ⟨gb,rfl⟩:=fb
 obtain ⟨n,hln⟩:∃ n,n=l.length:=⟨_,rfl⟩
 have HA:Hid (IR B w (.slice (some ⟨ga,0,none⟩) l.length ca) l):=ha
 have HB:Hid (IR B' w (.slice (some ⟨gb,0,none⟩) l.length cb) l):=hb
 have HN:Hid (n=l.length):=hln
 rw [← hln] at hn ⊢
 clear ha hb hne hln
 go_enter Tryz.func22,Tryz.ntmps22
 go_wp2
 go_loopw [5] (fun i wx=>∃ k:Nat,k≤n∧i=.int .i64 k∧Hid (Turned [] w wx)) (fun i _=>n - (intOf i).toNat)
 case atStart=>exact ⟨0,Nat.zero_le _,rfl,Turned.refl _ _⟩
 case round =>
  obtain ⟨k,hk,rfl,HT⟩:=hrel
  by_cases hkn:k < n
  ·have hkl:k < l.length:=by rw [← HN.out]; exact hkn
   have c1:=IR.cells (HA.out.keep HT.out (by simp)) hkl
   have c2:=IR.cells (HB.out.keep HT.out (by simp)) hkl
   generalize l[k]=lk at c1 c2
   have hlt:(k:Int) < (n:Int):=by omega
   clear hkl
   go_wp2
   go_quiet (fail)
   go_wp2
   exact ⟨⟨k+1,by omega,by go_num,⟨HT.out.os,HT.out.tape,HT.out.output,HT.out.size,HT.out.block⟩⟩,by simp [intOf]; omega⟩
  ·have:k=n:=by omega
   subst this
   go_wp2
   go_ret
   exact ⟨rfl,HT.out⟩
theorem cTrieNew (w:World) (p:Nat) (hT:Tab w):Calls Tryz.prog 8 #[pt p] w fun e w'=>∃ tb,e=.returned (pt tb)∧Turned [] w w'∧TrieB w' tb p∧w.heap.size≤tb:=by
 have HT:Hid (Tab w):=hT
 clear hT
 go_enter Tryz.func8,Tryz.ntmps8
 go_wp2
 go_ret
 exact ⟨w.heap.size,rfl,(Turned.refl _ _).alloc _,⟨blk_new _ _,Tab.keep HT.out ((Turned.refl [] _).alloc _) (by simp)⟩,Nat.le_refl _⟩
section
variable {w:World} {tb p it n:Nat} {F:List Nat} {s s2:PSt} {St:List Nat} {o:Option Tr} {o':Tr} {k v:Int} {gone:List Int}
theorem gOf_next {m j:Nat} (hM:MK s St it m s2) (hj:m+j < St.length):gOf s2 (St.drop m) j=gOf s St (m+j):=by
 unfold gOf
 have e:(St.drop m).getD j 0=St.getD (m+j) 0:=by simp [List.getD_eq_getElem?_getD,List.getElem?_drop]
 rw [e,hM.gens]
 rw [List.getD_eq_getElem?_getD,List.getElem?_eq_getElem hj]
 exact List.mem_drop_iff_getElem.2 ⟨j,by omega,rfl⟩
theorem kput (hT:TrieB w tb p) (hA:PoolAt w p F s) (hV:PV s St it) (hit:it≤900000000) (h0:0∉F) (hH:Holds s o) (k0:0≤k) (k1:k≤4294967295) (he:putO (gOf s St) k v o=(some o',n,gone)) (hn:n≤St.length) :
  Calls Tryz.prog 19 #[pt tb,.pointer none,.int .i64 (rootO o),.int .i64 k,.int .i64 v] w fun e w'=>∃ old had ga gc ma mc s2 F2,e=.returned (.tuple #[edit o'.hd old had (.slice ga gone.length gc) (.slice ma n mc),.int .i64 0])∧Turned F w w'∧PoolAt w' p F2 s2∧0∉F2∧Wider F F2 w∧tb∉F2∧MK s St it n s2∧Holds s2 (some o')∧IR w.heap.size w' (.slice ga gone.length gc) gone∧(∀ g,(Value.slice ga gone.length gc).ownBlock=some g→g∉F2):=by
 refine (cPutE (v:=v) hT hA hV hit h0 hH k0 k1).mono ?_
 rintro e w' ⟨er,root2,old2,had2,ga,gl,gc,ma,ml,mc,gone2,made2,s2,F2,St2,it2,rfl,h1,h2,h3,h4,h5,h6,h7,h8,h9,h10⟩
 rw [he] at h10
 rcases h10 with ⟨rfl,hM,rfl,rfl,hrep,rfl,rfl,rfl,rfl⟩ | ⟨rfl,hlt,-⟩
 ·have hok:=(putO_ok (v:=v) hH hV (by rw [he]; exact hM) (by rw [he]; exact hrep) k0 k1).1
  rw [he] at hok
  obtain ⟨a1,c1,e1⟩:=h5.form
  obtain ⟨a2,c2,e2⟩:=h6.form
  have hl:(Tr.mades (gOf s St) n).length=n:=by simp [Tr.mades]
  rw [hl] at e2
  simp only [Value.slice.injEq] at e1 e2
  obtain ⟨rfl,rfl,rfl⟩:=e1
  obtain ⟨rfl,rfl,rfl⟩:=e2
  exact ⟨_,_,_,_,_,_,s2,F2,rfl,h1,h2,wider_z hT h0 h3,h3,h4,hM,hok.holds,h5,h7⟩
 ·simp only at hlt
  omega
theorem kdrop {t:Tr} {ov:Int} (hT:TrieB w tb p) (hA:PoolAt w p F s) (hV:PV s St it) (hit:it≤900000000) (hH:Holds s (some t)) (k0:0≤k) (k1:k≤4294967295) (hval:Tr.val k (t.stop k)=some ov) (he:(Tr.del (gOf s St) k t).2=n) (hn:n≤St.length) (hg:Tr.gone k t=gone) :
  Calls Tryz.prog 26 #[pt tb,.pointer none,.int .i64 t.hd,.int .i64 k] w fun e w'=>∃ root ga gc ma mc,e=.returned (.tuple #[edit root ov true (.slice ga gone.length gc) (.slice ma n mc),.int .i64 0])∧Turned F w w':=by
 refine (cDropE hT hA hV hit (hH.rep t rfl) (hH.wf t rfl) k0 k1 hval).mono ?_
 rintro e w' ⟨er,root2,old2,had2,ga,gl,gc,ma,ml,mc,gone2,made2,s2,F2,St2,it2,rfl,h1,h2,h3,h4,h5,h6,h7,h8,h9,h10⟩
 rcases h10 with ⟨rfl,hM,rfl,rfl,hrep,rfl,rfl,rfl,rfl⟩ | ⟨rfl,hlt,-⟩
 ·obtain ⟨a1,c1,e1⟩:=h5.form
  obtain ⟨a2,c2,e2⟩:=h6.form
  have hl:(Tr.mades (gOf s St) (Tr.del (gOf s St) k t).2).length=n:=by simp [Tr.mades,he]
  rw [hl] at e2
  rw [hg] at e1
  simp only [Value.slice.injEq] at e1 e2
  obtain ⟨rfl,rfl,rfl⟩:=e1
  obtain ⟨rfl,rfl,rfl⟩:=e2
  exact ⟨_,_,_,_,_,rfl,h1⟩
 ·omega
end
end Go.Proofs.YtloljphbdfjgdaaGreatDoor
/- The nodes below a spot in the order of reading; slices of spots. -/
namespace Go.Proofs.YtloljphbdfjgdaaGreatDoor
open Go.RowKit
structure Spot where
 t:Tr
 a:Int
 b:Int
def Tr.vis (lo hi:Int):Tr→Int→Int→List Spot
 | .leaf h k v,a,b=>[⟨.leaf h k v,a,b⟩]
 | .node h q c l r,a,b=>⟨.node h q c l r,a,b⟩ :: ((if max c lo≤min (c+2 ^ q - 1) hi then l.vis lo hi c (c+2 ^ q - 1) else []) ++ (if max (c+2 ^ q) lo≤min (c+2 * 2 ^ q - 1) hi then r.vis lo hi (c+2 ^ q) (c+2 * 2 ^ q - 1) else []))
def Spot.vis (lo hi:Int) (x:Spot):List Spot:=x.t.vis lo hi x.a x.b
def Spot.pair (lo hi:Int) (x:Spot):List (Int × Int) :=
 match x.t with
 | .leaf _ k v=>if lo≤k∧k≤hi then [(k,v)] else []
 | .node ..=>[]
theorem Tr.pairs_span {t:Tr} (hw:t.WF):∀ x∈t.pairs,t.lo≤x.1∧x.1≤t.hi:=by
 induction t with
 | leaf h k v=>intro x hx; simp [Tr.pairs] at hx; subst hx; simp [Tr.lo,Tr.hi]
 | node h q c l r ihl ihr =>
  obtain ⟨w1,w2,w3,w4,w5,w6,w7,w8,hl,hr⟩:=id hw
  intro x hx
  simp only [Tr.pairs,List.mem_append] at hx
  have hp:=Tr.pow_pos' q
  simp only [Tr.lo,Tr.hi]
  rcases hx with hx | hx
  ·have:=ihl hl x hx; omega
  ·have:=ihr hr x hx; omega
theorem Tr.vis_pairs {lo hi:Int}:∀ {t:Tr},t.WF→∀ a b,(t.vis lo hi a b).flatMap (Spot.pair lo hi)=midL t.pairs lo hi
 | .leaf h k v,_,a,b=>by
  simp only [Tr.vis,List.flatMap_cons,List.flatMap_nil,Spot.pair,Tr.pairs,midL]
  by_cases e:lo≤k∧k≤hi
  ·simp [e]
  ·rw [if_neg e]; simp; omega
 | .node h q c l r,hw,a,b=>by
  obtain ⟨w1,w2,w3,w4,w5,w6,w7,w8,hl,hr⟩:=id hw
  have hp:=Tr.pow_pos' q
  have il:=Tr.vis_pairs (lo:=lo) (hi:=hi) hl
  have ir:=Tr.vis_pairs (lo:=lo) (hi:=hi) hr
  have none:∀ {u:Tr},u.WF→(hi < u.lo∨u.hi < lo∨hi < lo)→midL u.pairs lo hi=[]:=fun hu h=>by
   refine List.filter_eq_nil_iff.2 fun x hx=>?_
   have:=Tr.pairs_span hu x hx
   simp; omega
  have e1:(if max c lo≤min (c+2 ^ q - 1) hi then l.vis lo hi c (c+2 ^ q - 1) else []).flatMap (Spot.pair lo hi)=midL l.pairs lo hi:=by
   split
   ·exact il _ _
   ·rw [none hl (by have:=hl.span; omega)]; rfl
  have e2:(if max (c+2 ^ q) lo≤min (c+2 * 2 ^ q - 1) hi then r.vis lo hi (c+2 ^ q) (c+2 * 2 ^ q - 1) else []).flatMap (Spot.pair lo hi)=midL r.pairs lo hi:=by
   split
   ·exact ir _ _
   ·rw [none hr (by have:=hr.span; omega)]; rfl
  simp only [Tr.vis,List.flatMap_cons,List.flatMap_append,e1,e2,Tr.pairs,midL,List.filter_append]
  simp [Spot.pair]
def spotC (x:Spot):List Value:=[.int .i64 x.t.hd,.int .i64 x.a,.int .i64 x.b,.nilIface]
structure SpR (B:Nat) (w:World) (v:Value) (l:List Spot):Prop where
 own:w.ownsRow B 120 4 v l.length (l.flatMap spotC)
theorem SpR.keep {B:Nat} {w w':World} {v:Value} {l:List Spot} {F:List Nat} (h:SpR B w v l) (ht:Turned F w w') (hF:∀ g,v.ownBlock=some g→g∉F):SpR B w' v l:=by
 refine ⟨h.own.1,?_⟩
 rcases h.own.2 with h0 | ⟨g,c,cs,rfl,hb,hg,h3⟩
 ·exact .inl h0
 ·exact .inr ⟨g,c,cs,rfl,hb,ht.heap hg (hF g rfl),h3⟩
theorem SpR.form {B:Nat} {w:World} {v:Value} {l:List Spot} (h:SpR B w v l):∃ a c,v=.slice a l.length c:=by
 rcases h.own.2 with ⟨rfl,h0⟩ | ⟨g,c,cs,rfl,_⟩
 ·exact ⟨none,0,by rw [h0]⟩
 ·exact ⟨_,_,rfl⟩
theorem SpR.fresh {B:Nat} {w:World} {v:Value} {l:List Spot} (h:SpR B w v l) {g:Nat} (hg:v.ownBlock=some g):B≤g∧g < w.heap.size:=h.own.lt g hg
theorem spotC_len (x:Spot):(spotC x).length=4:=rfl
theorem spots_len (l:List Spot):(l.flatMap spotC).length=l.length * 4:=by
 induction l with
 | nil=>rfl
 | cons x l ih=>rw [List.flatMap_cons,List.length_append,ih,spotC_len,List.length_cons]; omega
theorem SpR.full {B:Nat} {w:World} {v:Value} {l:List Spot} {x:Spot} (h:SpR B w v (l ++ [x])):∃ g c,v=.slice (some ⟨g,0,none⟩) (l.length+1) c∧l.length+1≤c∧c≤maxLen:=by
 rcases h.own.2 with ⟨_,h0⟩ | ⟨g',c',cs,hv,hb,hg,hn,hm,hs,ht⟩
 ·simp at h0
 ·exact ⟨g',c',by rw [hv]; simp,by simpa using hn,hm⟩
theorem SpR.init {B:Nat} {w:World} {g c:Nat} {l:List Spot} {x:Spot} (h:SpR B w (.slice (some ⟨g,0,none⟩) (l.length+1) c) (l ++ [x])):SpR B w (.slice (some ⟨g,0,none⟩) l.length c) l:=by
 obtain ⟨h1,h2⟩:=h.own
 rcases h2 with ⟨h0,_⟩ | ⟨g',c',cs,hv,hb,hg,hn,hm,hs,ht⟩
 ·cases h0
 ·simp only [Value.slice.injEq,Option.some.injEq,Addr.mk.injEq,and_true] at hv
  obtain ⟨rfl,-,rfl⟩:=hv
  refine ⟨spots_len l,.inr ⟨g,c,cs,rfl,hb,hg,by simp at hn; omega,hm,hs,?_⟩⟩
  have h3:=congrArg (List.take (l.length * 4)) ht
  rw [List.take_take,List.flatMap_append] at h3
  rw [show min (l.length * 4) ((l ++ [x]).length * 4)=l.length * 4 by simp] at h3
  rw [h3,List.take_append_of_le_length (by rw [spots_len]; omega),List.take_of_length_le (by rw [spots_len]; omega)]
theorem SpR.last {B:Nat} {w:World} {g c:Nat} {l:List Spot} {x:Spot} (h:SpR B w (.slice (some ⟨g,0,none⟩) (l.length+1) c) (l ++ [x])):w.cell? ⟨g,l.length * 4,none⟩=some (.int .i64 x.t.hd)∧w.cell? ⟨g,l.length * 4+1,none⟩=some (.int .i64 x.a)∧w.cell? ⟨g,l.length * 4+2,none⟩=some (.int .i64 x.b)∧w.cell? ⟨g,l.length * 4+3,none⟩=some .nilIface:=by
 have hh:w.ownsRow B 120 4 (.slice (some ⟨g,0,none⟩) (l ++ [x]).length c) (l ++ [x]).length ((l ++ [x]).flatMap spotC):=by
  have:=h.own; rwa [show (Value.slice (some ⟨g,0,none⟩) (l.length+1) c)=.slice (some ⟨g,0,none⟩) (l ++ [x]).length c by simp] at this
 have key:∀ j,j < 4→w.cell? ⟨g,l.length * 4+j,none⟩=(spotC x)[j]?:=fun j hj=>by
  rw [hh.cellAt _ (by simp; omega),List.flatMap_append,List.getElem?_append_right (by rw [spots_len]; omega),spots_len,show l.length * 4+j - l.length * 4=j by omega]
  simp
 exact ⟨key 0 (by omega),key 1 (by omega),key 2 (by omega),key 3 (by omega)⟩
theorem infoSpot:(Tryz.prog.info? 120).map (fun i=>(i.zero,i.size,i.bytes))=some (some (.agg #[.int .i64 0,.int .i64 0,.int .i64 0,.nilIface]),4,40):=by kernel_rfl
theorem undSpots:Tryz.prog.underlying 198=some (.slice 120):=by kernel_rfl
theorem spotC_one (x:Spot):∀ u∈spotC x,u.oneCell'=true:=by
 intro u hu
 simp only [spotC,List.mem_cons,List.not_mem_nil,or_false] at hu
 rcases hu with rfl | rfl | rfl | rfl <;> rfl
theorem wpList_apSpot {w:World} {ops:Array Oper} {rest:List Oper} {o:Oper} {a:Act} {Q:Exit→Act→World→Prop} {B:Nat} {v:Value} {l:List Spot} {x:Spot} {g c:Nat} (hgd:o.guard=none) (p q:Operand) (ho:o.op=.call { callee:=.builtin .append,args:=#[p,q],argTypes:=#[198,198] })
  (hs:a.eval p=v) (hr:SpR B w v l) (hy:a.eval q=.slice (some ⟨g,0,none⟩) 1 c) (hcell:∀ j u,(spotC x)[j]?=some u→w.cell? ⟨g,j,none⟩=some u) (hm:l.length≤10000) (hB:B≤w.heap.size)
  (h:∀ v' w',SpR B w' v' (l ++ [x])→Turned v.ownBlock.toList w w'→(v'.ownBlock=v.ownBlock∨v'.ownBlock=some w.heap.size)→wpList Tryz.prog ops Q rest (a.put o.dst v') w'):wpList Tryz.prog ops Q (o :: rest) a w:=by
 obtain ⟨i,hi,hzz⟩:=Option.map_eq_some_iff.1 infoSpot
 simp only [Prod.mk.injEq] at hzz
 obtain ⟨hz,hs1,hb⟩:=hzz
 refine wpList_plain hgd fun K hK=>?_
 obtain ⟨v',w',hrun,h2,h3,h4,h5⟩:=run_append_own_at (P:=Tryz.prog) w B 198 o.type 120 i _ 4 40 undSpots hi hz hs1 hb rfl (by decide) v l.length (l.flatMap spotC) hr.own ⟨g,0,none⟩ 1 c (spotC x) (spotC_len x) (fun j u hj=>by
  have hadd:(⟨g,0,none⟩:Addr).add j=⟨g,j,none⟩:=by unfold Addr.add; split <;> simp_all
  rw [hadd]
  exact hcell j u hj) (spotC_one x) (by unfold maxLen; omega) (by omega) hB
 unfold Oper.wp execOp
 simp only [ho,resolve,invoke,builtin,Sem.run_bind,Sem.run_pure,Result.andThen_ok,List.map_toArray,List.map_cons,List.map_nil,hs,hy,hrun]
 refine hK _ _ (h v' w' ⟨by rw [List.length_append,List.flatMap_append]; simpa using h2⟩ ⟨h3.os,h3.tape,h3.output,h3.size,fun k hk hn=>h3.block k hk fun e=>hn (by rw [← e]; simp)⟩ h5)
end Go.Proofs.YtloljphbdfjgdaaGreatDoor
/- A drawn region of package trie's meeting. (Written by tools/gen/genmeet.py.) -/
namespace Go.Proofs.YtloljphbdfjgdaaGreatDoor
open Go.RowKit
def meet_r4V (f q lh rh cn sd h1 h2 alo ahi:Int) (m:Bool) (_:Unit):Nat→Value:=fun j=>match j with | 0=>(Value.agg #[.int .i64 f,.int .i64 q,.int .i64 lh,.int .i64 rh,.int .i64 cn]) | 1=>(Value.int IntKind.i64 sd) | 2=>(Value.agg #[.int .i64 h1,.int .i64 h2]) | 3=>(Value.agg #[.int .i64 alo,.int .i64 ahi]) | 4=>(Value.bool m) | _=>undef
set_option maxRecDepth 100000 in
set_option maxHeartbeats 1600000 in
theorem meet_r4 {f q lh rh cn sd h1 h2 alo ahi:Int} {m:Bool} {K:Act→World→Prop} {Q:Exit→Act→World→Prop} {a0:Act} {w:World} (hs:a0.tmps.size=24) {b3 b5:Nat} (x3:a0.eval (.tmp 3)=pa b3 0) (x5:a0.eval (.tmp 5)=pa b5 0) (x7:a0.eval (.tmp 7)=.int .i64 sd) (hB3:w.heap[b3]?=some (.cells #[.int .i64 f,.int .i64 q,.int .i64 lh,.int .i64 rh,.int .i64 cn] 151 (0,0))) (hB5:w.heap[b5]?=some (.cells #[.int .i64 alo,.int .i64 ahi] 116 (0,0)))
  (hHalf:∀ x,Turned [] w x→Calls Tryz.prog 106 #[.agg #[.int .i64 f,.int .i64 q,.int .i64 lh,.int .i64 rh,.int .i64 cn],.int .i64 sd] x fun e w'=>e=.returned (Value.agg #[.int .i64 h1,.int .i64 h2])∧Turned [] x w') (hMeets:∀ x,Turned [] w x→Calls Tryz.prog 115 #[.agg #[.int .i64 h1,.int .i64 h2],.agg #[.int .i64 alo,.int .i64 ahi]] x fun e w'=>e=.returned (Value.bool m)∧Turned [] x w')
  (hEnd:∀ a' x,a'.tmps.size=a0.tmps.size→a'.defers=a0.defers→(∀ s,some s∉([some 12,some 13,some 14,some 15,some 16]:List (Option Nat))→a'.eval (.tmp s)=a0.eval (.tmp s))→a'.eval (.tmp 16)=(Value.bool m)→Turned [] w x→K a' x):(Code.region 4 (opsOf 4 Tryz.f93.body) true).wp Tryz.prog (Exit.then K Q) a0 w:=by
 refine wp_region_ghost3 (G:=Unit) (by kernel_rfl) [some 12,some 13,some 14,some 15,some 16] (by rw [hs]; kernel_rfl) (meet_r4V f q lh rh cn sd h1 h2 alo ahi m) [] ?_ (fun _ _=>false) (fun _ x=>Turned [] w x) (()) ((Turned.refl _ _).drew) (by simp) (by decide) ?_ ?_
 ·exact fun i g b h _=>absurd h (noG (by kernel_rfl) i g b)
 ·intro i hi hgd
  rcases (by simp at hi; omega:i=0∨i=1∨i=2∨i=3∨i=4) with rfl | rfl | rfl | rfl | rfl
  ·refine soft (by decide) ?_
   intro o ac wa g ho hoff hv hS hdn
   have hc0:=cell_at (hS.heap hB3 (by simp)) 0
   have hc1:=cell_at (hS.heap hB3 (by simp)) 1
   have hc2:=cell_at (hS.heap hB3 (by simp)) 2
   have hc3:=cell_at (hS.heap hB3 (by simp)) 3
   have hc4:=cell_at (hS.heap hB3 (by simp)) 4
   exact x_load (op_is rfl ho) (by rw [((hoff 3 (by decide)).trans x3)]; show (Instr.loadAt _ (pa _ _)).run _ _=_; unfold pa; go_simp; rfl)
  ·refine soft (by decide) ?_
   intro o ac wa g ho hoff hv hS hdn
   exact (x_move (op_is rfl ho)).trans (by rw [((hoff 7 (by decide)).trans x7)]; rfl)
  ·intro o ac wa g K ho hd _ hoff hv hS _ _ _ hK
   refine l_callE (op_is rfl ho) (xs:=#[.agg #[.int .i64 f,.int .i64 q,.int .i64 lh,.int .i64 rh,.int .i64 cn],.int .i64 sd]) (by simp only [List.map_toArray,List.map_cons,List.map_nil]; rw [(hv 0 12 rfl (by kernel_rfl)),(hv 1 13 rfl (by kernel_rfl))]; rfl) Tryz.func106 (by kernel_rfl) rfl (hHalf wa hS) ?_
   rintro e w' ⟨rfl,ht⟩
   refine ⟨_,rfl,?_⟩
   rw [hd]
   exact hK g w' (hS.trans ht) (by simp) (fun _ _ _=>rfl)
  ·refine soft (by decide) ?_
   intro o ac wa g ho hoff hv hS hdn
   have hc0:=cell_at (hS.heap hB5 (by simp)) 0
   have hc1:=cell_at (hS.heap hB5 (by simp)) 1
   exact x_load (op_is rfl ho) (by rw [((hoff 5 (by decide)).trans x5)]; show (Instr.loadAt _ (pa _ _)).run _ _=_; unfold pa; go_simp; rfl)
  ·intro o ac wa g K ho hd _ hoff hv hS _ _ _ hK
   refine l_callE (op_is rfl ho) (xs:=#[.agg #[.int .i64 h1,.int .i64 h2],.agg #[.int .i64 alo,.int .i64 ahi]]) (by simp only [List.map_toArray,List.map_cons,List.map_nil]; rw [(hv 2 14 rfl (by kernel_rfl)),(hv 3 15 rfl (by kernel_rfl))]; rfl) Tryz.func115 (by kernel_rfl) rfl (hMeets wa hS) ?_
   rintro e w' ⟨rfl,ht⟩
   refine ⟨_,rfl,?_⟩
   rw [hd]
   exact hK g w' (hS.trans ht) (by simp) (fun _ _ _=>rfl)
 ·intro a' w' g hsz hdf hoff hS hdn hval
  exact hEnd a' w' hsz hdf (fun s hs=>ev_same (hoff s hs)) (hval 4 16 rfl) hS
end Go.Proofs.YtloljphbdfjgdaaGreatDoor
/- A frame, spelled out. -/
namespace Go.Proofs.YtloljphbdfjgdaaGreatDoor
open Go.RowKit
def lit24 (c:Nat→Value):Array Value:=#[c 0,c 1,c 2,c 3,c 4,c 5,c 6,c 7,c 8,c 9,c 10,c 11,c 12,c 13,c 14,c 15,c 16,c 17,c 18,c 19,c 20,c 21,c 22,c 23]
set_option maxRecDepth 100000 in
theorem lit24_eq (c:Nat→Value):lit24 c=((List.range 24).map c).toArray:=by rfl
theorem expand24 {a:Act} (hs:a.tmps.size=24) (hd:a.defers=[]):∃ c:Nat→Value,a=⟨lit24 c,[]⟩∧∀ s,c s=a.eval (.tmp s):=by
 refine ⟨fun s=>a.tmps.getD s undef,?_,fun s=>rfl⟩
 obtain ⟨t,d⟩:=a
 simp only at hs hd
 subst hd
 congr 1
 rw [lit24_eq]
 refine Array.ext (by simp [hs]) fun i h1 h2=>?_
 simp [Array.getD,h1]
end Go.Proofs.YtloljphbdfjgdaaGreatDoor
/- Package trie's meeting: a round of its loop. -/
namespace Go.Proofs.YtloljphbdfjgdaaGreatDoor
open Go.RowKit
structure MF (b3 b5 B:Nat) (f q lh rh cn alo ahi:Int) (v0:Value) (L:List Spot) (W:World) (sd:Int) (a:Act) (x:World):Prop where
 size:a.tmps.size=24
 defers:a.defers=[]
 e3:a.eval (.tmp 3)=pa b3 0
 e5:a.eval (.tmp 5)=pa b5 0
 e7:a.eval (.tmp 7)=.int .i64 sd
 h3:x.heap[b3]?=some (.cells #[.int .i64 f,.int .i64 q,.int .i64 lh,.int .i64 rh,.int .i64 cn] 151 (0,0))
 h5:x.heap[b5]?=some (.cells #[.int .i64 alo,.int .i64 ahi] 116 (0,0))
 ex:∃ v,a.eval (.tmp 1)=v∧SpR B x v L∧(∀ g,v.ownBlock=some g→v0.ownBlock=some g∨W.heap.size≤g)
 t:Turned v0.ownBlock.toList W x
theorem SpR.type {B:Nat} {w:World} {v:Value} {l:List Spot} (h:SpR B w v l) {g:Nat} (hg:v.ownBlock=some g):∃ cs,w.heap[g]?=some (.cells cs 120 (0,0)):=by
 rcases h.own.2 with ⟨h0,_⟩ | ⟨g',c,cs,hv,_,hh,_⟩
 ·rw [h0] at hg; cases hg
 ·rw [hv] at hg; cases hg; exact ⟨cs,hh⟩
set_option maxRecDepth 100000 in
set_option maxHeartbeats 800000 in
theorem meet_round0 {b3 b5 B q:Nat} {f lh rh cn alo ahi:Int} {v0:Value} {L:List Spot} {W x:World} {a:Act} {Q:Exit→Act→World→Prop} {u:Tr} {m:Bool} (h:MF b3 b5 B f q lh rh cn alo ahi v0 L W 0 a x) (hu:u.hd=lh) (f0:0≤f) (f1:f+2 * 2 ^ q≤4294967296) (hq:q≤31) (hm:decide (max f alo≤min (f+2 ^ q - 1) ahi)=m) (hL:L.length≤5000) (hB:B≤W.heap.size) (hb:b3∉v0.ownBlock.toList∧b5∉v0.ownBlock.toList) (hbl:b3 < W.heap.size+2∧b5 < W.heap.size+2∧W.heap.size+2≤x.heap.size)
  (hQ:∀ a' y,MF b3 b5 B f q lh rh cn alo ahi v0 (L ++ if m then [⟨u,f,(f+2 ^ q - 1)⟩] else []) W (0 - 1) a' y→x.heap.size≤y.heap.size→Q .normal a' y):(atc Tryz.f93.body [1,0,1,0,0]).wp Tryz.prog Q a x:=by
 obtain ⟨v,e1,hsp,hvb⟩:=h.ex
 obtain ⟨va,vc,rfl⟩:=hsp.form
 obtain ⟨cc,hcc,hce⟩:=expand24 h.size h.defers
 have g1:=(hce 1).trans e1
 have g3:=(hce 3).trans h.e3
 have g5:=(hce 5).trans h.e5
 have g7:=(hce 7).trans h.e7
 subst hcc
 conv=>arg 2; whnf
 simp only [lit24,g1,g3,g5,g7]
 go_wp2
 refine meet_r4 (f:=f) (q:=(q:Int)) (lh:=lh) (rh:=rh) (cn:=cn) (sd:=0) (h1:=f) (h2:=(f+2 ^ q - 1)) (alo:=alo) (ahi:=ahi) (m:=m) rfl rfl rfl rfl h.h3 h.h5 (fun y _=>cHalf0 lh rh cn f0 f1 hq y) (fun y _=>cSpMeets _ _ _ _ hm y) ?_
 intro a' y hs hd hoff x16 ht
 have HCh:Hid (∀ z,Calls Tryz.prog 78 #[.agg #[.int .i64 f,.int .i64 q,.int .i64 lh,.int .i64 rh,.int .i64 cn],.int .i64 0] z fun e w'=>e=.returned (.agg #[.int .i64 lh,.int .i64 f,.int .i64 (f+2 ^ q - 1),.nilIface])∧Turned [] z w'):=cChild0 lh rh cn f0 f1 hq
 obtain ⟨cd,hcd,hdd⟩:=expand24 (hs.trans rfl) (hd.trans rfl)
 have j1:cd 1=.slice va L.length vc:=(hdd 1).trans ((hoff 1 (by decide)).trans rfl)
 have j3:cd 3=.pointer (some ⟨b3,0,none⟩):=(hdd 3).trans ((hoff 3 (by decide)).trans rfl)
 have j5:cd 5=.pointer (some ⟨b5,0,none⟩):=(hdd 5).trans ((hoff 5 (by decide)).trans rfl)
 have j7:cd 7=.int .i64 0:=(hdd 7).trans ((hoff 7 (by decide)).trans rfl)
 have j16:=(hdd 16).trans x16
 have hy3:=ht.heap h.h3 (by simp)
 have hy5:=ht.heap h.h5 (by simp)
 have HY:Hid _:=And.intro hy3 hy5
 have HT:Hid _:=ht
 have HF:Hid _:=h
 have HSP:Hid _:=hsp.keep ht (by simp)
 have HVB:Hid _:=hvb
 have HR:Hid (L.length≤5000∧B≤W.heap.size∧(b3∉v0.ownBlock.toList∧b5∉v0.ownBlock.toList)∧(b3 < W.heap.size+2∧b5 < W.heap.size+2∧W.heap.size+2≤x.heap.size)∧u.hd=lh):=⟨hL,hB,hb,hbl,hu⟩
 have HQ:Hid _:=hQ
 obtain ⟨⟨c0,c1,c2,c3,c4⟩,-⟩:=cells5 hy3
 clear hQ hL hB hb hbl hsp hvb h ht hy3 hy5 hs hd hoff x16 hdd hm f0 f1 hq hce g1 g3 g5 g7 e1
 subst hcd
 simp only [lit24,j1,j3,j5,j7,j16]
 clear j1 j3 j5 j7 j16
 generalize (f+2 ^ q - 1)=hh2 at *
 cases m with
 | false =>
  go_wp2
  obtain ⟨hy3,hy5⟩:=HY.out
  refine HQ.out _ _ ⟨rfl,rfl,rfl,rfl,rfl,hy3,hy5,⟨.slice va L.length vc,rfl,by simpa using HSP.out,HVB.out⟩,HF.out.t.trans (HT.out.mono (by simp))⟩ HT.out.size
 | true =>
  go_wp2_with (first
   | (go_at_call 78; refine (HCh.out _).mono ?_; rintro e z ⟨rfl,htz⟩; have HZ:Hid (Turned [] y z):=htz; clear htz)
   | (at_builtin; refine wpList_apSpot (v:=.slice va L.length vc) (x:=⟨u,f,hh2⟩) (g:=z.heap.size) (l:=L) (B:=B) rfl _ _ rfl rfl (HSP.out.keep (HZ.out.alloc _) (by simp)) rfl (by rw [show spotC ⟨u,f,hh2⟩=[.int .i64 lh,.int .i64 f,.int .i64 hh2,.nilIface] from by unfold spotC; rw [HR.out.2.2.2.2]]; intro j w hj; match j,hj with | 0,hj=>(cases hj; go_simp) | 1,hj=>(cases hj; go_simp) | 2,hj=>(cases hj; go_simp) | 3,hj=>(cases hj; go_simp)) (by have:=HR.out.1; omega) (by have:=HR.out.2.1; have:=HR.out.2.2.2.1; have:=HT.out.size; have:=HZ.out.size; simp; omega) ?_; intro v2 w11 hsr ht11 hor; have HSR:Hid _:=hsr; have HT11:Hid _:=ht11; have HOR:Hid _:=hor; clear hsr ht11 hor))
  obtain ⟨hy3,hy5⟩:=HY.out
  have tz:=HZ.out.alloc (.cells #[.int .i64 lh,.int .i64 f,.int .i64 hh2,.nilIface] 120 (0,0))
  have nT:∀ {b:Nat} {cs:Array Value} {T:TypeId},y.heap[b]?=some (.cells cs T (0,0))→T≠120→b∉(Value.slice va L.length vc).ownBlock.toList:=fun hb hT hm=>by
   obtain ⟨cs',h'⟩:=HSP.out.type (Option.mem_toList.1 hm)
   exact other_type hb h' hT rfl
  have hsz:=HT.out.size
  have hsz2:=HZ.out.size
  have hbl:=HR.out.2.2.2.1
  refine HQ.out _ _ ⟨rfl,rfl,rfl,rfl,rfl,HT11.out.heap (tz.heap hy3 (by simp)) (nT hy3 (by decide)),HT11.out.heap (tz.heap hy5 (by simp)) (nT hy5 (by decide)),⟨v2,rfl,by simpa using HSR.out,fun g hg=>?_⟩,((HF.out.t.trans (HT.out.mono (by simp))).trans (tz.mono (by simp))).inner HT11.out (fun g hg=>?_)⟩ (by have:=HT11.out.size; have:=tz.size; omega)
  ·rcases HOR.out with e | e
   ·rw [e] at hg; exact HVB.out g hg
   ·rw [e] at hg; cases hg; exact .inr (by simp; omega)
  ·rcases HVB.out g (Option.mem_toList.1 hg) with h | h
   ·exact .inl (Option.mem_toList.2 h)
   ·exact .inr h
set_option maxRecDepth 100000 in
set_option maxHeartbeats 800000 in
theorem meet_round1 {b3 b5 B q:Nat} {f lh rh cn alo ahi:Int} {v0:Value} {L:List Spot} {W x:World} {a:Act} {Q:Exit→Act→World→Prop} {u:Tr} {m:Bool} (h:MF b3 b5 B f q lh rh cn alo ahi v0 L W 1 a x) (hu:u.hd=rh) (f0:0≤f) (f1:f+2 * 2 ^ q≤4294967296) (hq:q≤31) (hm:decide (max (f+2 ^ q) alo≤min (f+2 * 2 ^ q - 1) ahi)=m) (hL:L.length≤5000) (hB:B≤W.heap.size) (hb:b3∉v0.ownBlock.toList∧b5∉v0.ownBlock.toList) (hbl:b3 < W.heap.size+2∧b5 < W.heap.size+2∧W.heap.size+2≤x.heap.size)
  (hQ:∀ a' y,MF b3 b5 B f q lh rh cn alo ahi v0 (L ++ if m then [⟨u,(f+2 ^ q),(f+2 * 2 ^ q - 1)⟩] else []) W (1 - 1) a' y→x.heap.size≤y.heap.size→Q .normal a' y):(atc Tryz.f93.body [1,0,1,0,0]).wp Tryz.prog Q a x:=by
 obtain ⟨v,e1,hsp,hvb⟩:=h.ex
 obtain ⟨va,vc,rfl⟩:=hsp.form
 obtain ⟨cc,hcc,hce⟩:=expand24 h.size h.defers
 have g1:=(hce 1).trans e1
 have g3:=(hce 3).trans h.e3
 have g5:=(hce 5).trans h.e5
 have g7:=(hce 7).trans h.e7
 subst hcc
 conv=>arg 2; whnf
 simp only [lit24,g1,g3,g5,g7]
 go_wp2
 refine meet_r4 (f:=f) (q:=(q:Int)) (lh:=lh) (rh:=rh) (cn:=cn) (sd:=1) (h1:=(f+2 ^ q)) (h2:=(f+2 * 2 ^ q - 1)) (alo:=alo) (ahi:=ahi) (m:=m) rfl rfl rfl rfl h.h3 h.h5 (fun y _=>cHalf1 lh rh cn f0 f1 hq y) (fun y _=>cSpMeets _ _ _ _ hm y) ?_
 intro a' y hs hd hoff x16 ht
 have HCh:Hid (∀ z,Calls Tryz.prog 78 #[.agg #[.int .i64 f,.int .i64 q,.int .i64 lh,.int .i64 rh,.int .i64 cn],.int .i64 1] z fun e w'=>e=.returned (.agg #[.int .i64 rh,.int .i64 (f+2 ^ q),.int .i64 (f+2 * 2 ^ q - 1),.nilIface])∧Turned [] z w'):=cChild1 lh rh cn f0 f1 hq
 obtain ⟨cd,hcd,hdd⟩:=expand24 (hs.trans rfl) (hd.trans rfl)
 have j1:cd 1=.slice va L.length vc:=(hdd 1).trans ((hoff 1 (by decide)).trans rfl)
 have j3:cd 3=.pointer (some ⟨b3,0,none⟩):=(hdd 3).trans ((hoff 3 (by decide)).trans rfl)
 have j5:cd 5=.pointer (some ⟨b5,0,none⟩):=(hdd 5).trans ((hoff 5 (by decide)).trans rfl)
 have j7:cd 7=.int .i64 1:=(hdd 7).trans ((hoff 7 (by decide)).trans rfl)
 have j16:=(hdd 16).trans x16
 have hy3:=ht.heap h.h3 (by simp)
 have hy5:=ht.heap h.h5 (by simp)
 have HY:Hid _:=And.intro hy3 hy5
 have HT:Hid _:=ht
 have HF:Hid _:=h
 have HSP:Hid _:=hsp.keep ht (by simp)
 have HVB:Hid _:=hvb
 have HR:Hid (L.length≤5000∧B≤W.heap.size∧(b3∉v0.ownBlock.toList∧b5∉v0.ownBlock.toList)∧(b3 < W.heap.size+2∧b5 < W.heap.size+2∧W.heap.size+2≤x.heap.size)∧u.hd=rh):=⟨hL,hB,hb,hbl,hu⟩
 have HQ:Hid _:=hQ
 obtain ⟨⟨c0,c1,c2,c3,c4⟩,-⟩:=cells5 hy3
 clear hQ hL hB hb hbl hsp hvb h ht hy3 hy5 hs hd hoff x16 hdd hm f0 f1 hq hce g1 g3 g5 g7 e1
 subst hcd
 simp only [lit24,j1,j3,j5,j7,j16]
 clear j1 j3 j5 j7 j16
 generalize (f+2 ^ q)=hh1 at *
 generalize (f+2 * 2 ^ q - 1)=hh2 at *
 cases m with
 | false =>
  go_wp2
  obtain ⟨hy3,hy5⟩:=HY.out
  refine HQ.out _ _ ⟨rfl,rfl,rfl,rfl,rfl,hy3,hy5,⟨.slice va L.length vc,rfl,by simpa using HSP.out,HVB.out⟩,HF.out.t.trans (HT.out.mono (by simp))⟩ HT.out.size
 | true =>
  go_wp2_with (first
   | (go_at_call 78; refine (HCh.out _).mono ?_; rintro e z ⟨rfl,htz⟩; have HZ:Hid (Turned [] y z):=htz; clear htz)
   | (at_builtin; refine wpList_apSpot (v:=.slice va L.length vc) (x:=⟨u,hh1,hh2⟩) (g:=z.heap.size) (l:=L) (B:=B) rfl _ _ rfl rfl (HSP.out.keep (HZ.out.alloc _) (by simp)) rfl (by rw [show spotC ⟨u,hh1,hh2⟩=[.int .i64 rh,.int .i64 hh1,.int .i64 hh2,.nilIface] from by unfold spotC; rw [HR.out.2.2.2.2]]; intro j w hj; match j,hj with | 0,hj=>(cases hj; go_simp) | 1,hj=>(cases hj; go_simp) | 2,hj=>(cases hj; go_simp) | 3,hj=>(cases hj; go_simp)) (by have:=HR.out.1; omega) (by have:=HR.out.2.1; have:=HR.out.2.2.2.1; have:=HT.out.size; have:=HZ.out.size; simp; omega) ?_; intro v2 w11 hsr ht11 hor; have HSR:Hid _:=hsr; have HT11:Hid _:=ht11; have HOR:Hid _:=hor; clear hsr ht11 hor))
  obtain ⟨hy3,hy5⟩:=HY.out
  have tz:=HZ.out.alloc (.cells #[.int .i64 rh,.int .i64 hh1,.int .i64 hh2,.nilIface] 120 (0,0))
  have nT:∀ {b:Nat} {cs:Array Value} {T:TypeId},y.heap[b]?=some (.cells cs T (0,0))→T≠120→b∉(Value.slice va L.length vc).ownBlock.toList:=fun hb hT hm=>by
   obtain ⟨cs',h'⟩:=HSP.out.type (Option.mem_toList.1 hm)
   exact other_type hb h' hT rfl
  have hsz:=HT.out.size
  have hsz2:=HZ.out.size
  have hbl:=HR.out.2.2.2.1
  refine HQ.out _ _ ⟨rfl,rfl,rfl,rfl,rfl,HT11.out.heap (tz.heap hy3 (by simp)) (nT hy3 (by decide)),HT11.out.heap (tz.heap hy5 (by simp)) (nT hy5 (by decide)),⟨v2,rfl,by simpa using HSR.out,fun g hg=>?_⟩,((HF.out.t.trans (HT.out.mono (by simp))).trans (tz.mono (by simp))).inner HT11.out (fun g hg=>?_)⟩ (by have:=HT11.out.size; have:=tz.size; omega)
  ·rcases HOR.out with e | e
   ·rw [e] at hg; exact HVB.out g hg
   ·rw [e] at hg; cases hg; exact .inr (by simp; omega)
  ·rcases HVB.out g (Option.mem_toList.1 hg) with h | h
   ·exact .inl (Option.mem_toList.2 h)
   ·exact .inr h
end Go.Proofs.YtloljphbdfjgdaaGreatDoor
/- Package trie's meeting, alone, by contract. -/
namespace Go.Proofs.YtloljphbdfjgdaaGreatDoor
open Go.RowKit
structure MX (b3 b5 B:Nat) (f q lh rh cn alo ahi:Int) (v0:Value) (L L1 L2:List Spot) (W:World) (a:Act) (x:World):Prop where
 ex:MF b3 b5 B f q lh rh cn alo ahi v0 L W 1 a x∨MF b3 b5 B f q lh rh cn alo ahi v0 L1 W 0 a x∨MF b3 b5 B f q lh rh cn alo ahi v0 L2 W (-1) a x
 big:W.heap.size+2≤x.heap.size
set_option maxRecDepth 100000 in
set_option maxHeartbeats 800000 in
theorem cMeeting {w:World} {B q:Nat} {f cn alo ahi:Int} {v:Value} {L:List Spot} {l r:Tr} {m0 m1:Bool} (hsp:SpR B w v L) (f0:0≤f) (f1:f+2 * 2 ^ q≤4294967296) (hq:q≤31) (hm0:decide (max f alo≤min (f+2 ^ q - 1) ahi)=m0) (hm1:decide (max (f+2 ^ q) alo≤min (f+2 * 2 ^ q - 1) ahi)=m1) (hL:L.length≤4000) (hB:B≤w.heap.size) :
  Calls Tryz.prog 93 #[.agg #[.int .i64 f,.int .i64 q,.int .i64 l.hd,.int .i64 r.hd,.int .i64 cn],v,.agg #[.int .i64 alo,.int .i64 ahi]] w fun e w'=>∃ v',e=.returned v'∧SpR B w' v' ((L ++ if m1 then [⟨r,f+2 ^ q,f+2 * 2 ^ q - 1⟩] else []) ++ if m0 then [⟨l,f,f+2 ^ q - 1⟩] else [])∧Turned v.ownBlock.toList w w'∧(∀ g,v'.ownBlock=some g→v.ownBlock=some g∨w.heap.size≤g):=by
 have HA:Hid (SpR B w v L∧0≤f∧f+2 * 2 ^ q≤4294967296∧q≤31∧decide (max f alo≤min (f+2 ^ q - 1) ahi)=m0∧decide (max (f+2 ^ q) alo≤min (f+2 * 2 ^ q - 1) ahi)=m1∧L.length≤4000∧B≤w.heap.size):=⟨hsp,f0,f1,hq,hm0,hm1,hL,hB⟩
 obtain ⟨L1,hL1⟩:∃ L1,L1=(L ++ if m1 then [⟨r,f+2 ^ q,f+2 * 2 ^ q - 1⟩] else []):=⟨_,rfl⟩
 obtain ⟨L2,hL2⟩:∃ L2,L2=(L1 ++ if m0 then [⟨l,f,f+2 ^ q - 1⟩] else []):=⟨_,rfl⟩
 rw [← hL1,← hL2]
 have HL:Hid _:=And.intro hL1 hL2
 have hl1:L1.length≤5000:=by rw [hL1]; cases m1 <;> simp <;> omega
 have hvlt:∀ g,v.ownBlock=some g→g < w.heap.size:=fun g hg=>(hsp.fresh hg).2
 clear hsp f0 f1 hq hm0 hm1 hB hL1 hL2
 go_enter Tryz.func93,Tryz.ntmps93
 go_wp2
 obtain ⟨hsp,f0,f1,hq,hm0,hm1,hL,hB⟩:=HA.out
 have t2:Turned [] w ((w.alloc (.cells #[.int .i64 f,.int .i64 q,.int .i64 l.hd,.int .i64 r.hd,.int .i64 cn] 151 (0,0))).alloc (.cells #[.int .i64 alo,.int .i64 ahi] 116 (0,0))):=((Turned.refl _ _).alloc _).alloc _
 have nb:w.heap.size∉v.ownBlock.toList∧w.heap.size+1∉v.ownBlock.toList:=⟨fun hm=>by have:=hvlt _ (Option.mem_toList.1 hm); omega,fun hm=>by have:=hvlt _ (Option.mem_toList.1 hm); omega⟩
 refine wp_loop (fun a' x=>MX w.heap.size (w.heap.size+1) B f q l.hd r.hd cn alo ahi v L L1 L2 w a' x) (fun a' _=>(intOf (a'.eval (.tmp 7))+1).toNat) ⟨.inl ⟨rfl,rfl,rfl,rfl,rfl,blk_old (blk_new _ _) _,blk_new1' _ _ _,⟨v,rfl,hsp.keep t2 (by simp),fun g hg=>.inl hg⟩,t2.mono (by simp)⟩,by simp⟩ ?_
 rintro a' x ⟨h | h | h,hbig⟩
 ·refine meet_round1 (u:=r) (m:=m1) h rfl f0 f1 hq hm1 (by omega) hB nb ⟨by omega,by omega,hbig⟩ ?_
  intro a2 y h2 hs2
  refine ⟨⟨.inr (.inl (by rw [HL.out.1]; exact h2)),by omega⟩,?_⟩
  rw [h2.e7,h.e7]; simp [intOf]
 ·refine meet_round0 (u:=l) (m:=m0) h rfl f0 f1 hq hm0 hl1 hB nb ⟨by omega,by omega,hbig⟩ ?_
  intro a2 y h2 hs2
  refine ⟨⟨.inr (.inr (by rw [HL.out.2]; exact h2)),by omega⟩,?_⟩
  rw [h2.e7,h.e7]; simp [intOf]
 ·obtain ⟨v2,e1,hsp2,hv2⟩:=h.ex
  obtain ⟨cc,hcc,hce⟩:=expand24 h.size h.defers
  have g1:=(hce 1).trans e1
  have g7:=(hce 7).trans h.e7
  have HF:Hid _:=And.intro hsp2 (And.intro h.t hv2)
  clear hce h e1 hsp2 hv2
  subst hcc
  simp only [lit24,g1,g7]
  clear g1 g7
  go_wp2
  go_ret
  exact ⟨v2,rfl,HF.out.1,HF.out.2.1,HF.out.2.2⟩
end Go.Proofs.YtloljphbdfjgdaaGreatDoor
/- Package trie's visit, alone: the iterator is made. -/
namespace Go.Proofs.YtloljphbdfjgdaaGreatDoor
open Go.RowKit
theorem cVisitN (nz:Value) (tb:Nat) (h a b lo hi:Int) (w:World):Calls Tryz.prog 60 #[pt tb,.pointer none,.agg #[.int .i64 h,.int .i64 a,.int .i64 b,nz],.agg #[.int .i64 lo,.int .i64 hi]] w fun e w'=>e=.returned (.func (.func 92) #[] #[.pointer (some ⟨w.heap.size+1+1,0,none⟩),.pointer (some ⟨w.heap.size,0,none⟩),.pointer (some ⟨w.heap.size+1,0,none⟩),.pointer (some ⟨w.heap.size+1+1+1,0,none⟩)])∧w'=(((w.alloc (.cells #[pt tb] 29 (0,0))).alloc (.cells #[.pointer none] 111 (0,0))).alloc (.cells #[.int .i64 h,.int .i64 a,.int .i64 b,nz] 120 (0,0))).alloc (.cells #[.int .i64 lo,.int .i64 hi] 116 (0,0)):=by
 go_enter Tryz.func60,Tryz.ntmps60
 go_wp2
 go_ret
 exact ⟨rfl,rfl⟩
end Go.Proofs.YtloljphbdfjgdaaGreatDoor
/- The drawn region of package trie's visit, the iterator. (Written by tools/gen/genvis.py.) -/
namespace Go.Proofs.YtloljphbdfjgdaaGreatDoor
open Go.RowKit
def visit_r3V (tb gb n c:Nat) (uh sa sb:Int) (T:TypeId) (nn nz:Value) (g:GQ):Nat→Value:=fun j=>match j with | 0=>(Value.pointer (some ⟨tb,0,none⟩)) | 1=>(Value.pointer none) | 2=>(Value.slice (some ⟨gb,0,none⟩) (n+1) c) | 3=>(Value.int IntKind.i64 (n:Nat)) | 4=>(pa gb (n * 4)) | 5=>(Value.agg #[.int .i64 uh,.int .i64 sa,.int .i64 sb,nz]) | 6=>(Value.tuple #[.agg #[.int .i64 uh,.int .i64 sa,.int .i64 sb,.iface T nn],.int .i64 0]) | 7=>(Value.tuple #[.agg #[.int .i64 uh,.int .i64 sa,.int .i64 sb,.iface T nn],.int .i64 0]) | 8=>(Value.agg #[.int .i64 uh,.int .i64 sa,.int .i64 sb,.iface T nn]) | 9=>(Value.int IntKind.i64 0) | 10=>(pa (g.nb.getD 0) 0) | 11=>undef | 12=>(Value.int IntKind.i64 0) | _=>undef
set_option maxRecDepth 100000 in
set_option maxHeartbeats 1600000 in
theorem visit_r3 {tb gb n c:Nat} {uh sa sb:Int} {T:TypeId} {nn nz:Value} {K:Act→World→Prop} {Q:Exit→Act→World→Prop} {a0:Act} {w:World} (hs:a0.tmps.size=50) {b0 b1:Nat} (x2:a0.eval (.tmp 2)=pa b0 0) (x3:a0.eval (.tmp 3)=pa b1 0) (x6:a0.eval (.tmp 6)=.slice (some ⟨gb,0,none⟩) (n+1) c) (x7:a0.eval (.tmp 7)=.int .i64 (n:Nat)) (hB0:w.heap[b0]?=some (.cells #[.pointer (some ⟨tb,0,none⟩)] 29 (0,0))) (hB1:w.heap[b1]?=some (.cells #[.pointer none] 111 (0,0))) (k0:w.cell? ⟨gb,n * 4,none⟩=some (.int .i64 uh)) (k1:w.cell? ⟨gb,n * 4+1,none⟩=some (.int .i64 sa)) (k2:w.cell? ⟨gb,n * 4+2,none⟩=some (.int .i64 sb)) (k3:w.cell? ⟨gb,n * 4+3,none⟩=some nz)
  (hCall:∀ x,Turned [] w x→Calls Tryz.prog 53 #[.pointer (some ⟨tb,0,none⟩),.pointer none,.agg #[.int .i64 uh,.int .i64 sa,.int .i64 sb,nz]] x fun e w'=>e=.returned (Value.tuple #[.agg #[.int .i64 uh,.int .i64 sa,.int .i64 sb,.iface T nn],.int .i64 0])∧Turned [] x w')
  (hEnd:∀ a' x nb,a'.tmps.size=a0.tmps.size→a'.defers=a0.defers→(∀ s,some s∉([some 20,some 21,some 22,some 23,some 24,some 25,some 26,some 19,some 27,some 28,some 8,none,some 9]:List (Option Nat))→a'.eval (.tmp s)=a0.eval (.tmp s))→a'.eval (.tmp 8)=pa nb 0→a'.eval (.tmp 9)=(Value.int IntKind.i64 0)→Turned [] w x→x.heap[nb]?=some (Obj.cells #[.int .i64 uh,.int .i64 sa,.int .i64 sb,.iface T nn] 120 (0,0))→w.heap.size≤nb→K a' x):(Code.region 3 (opsOf 3 Tryz.f92.body) true).wp Tryz.prog (Exit.then K Q) a0 w:=by
 refine wp_region_ghost3 (G:=GQ) (by kernel_rfl) [some 20,some 21,some 22,some 23,some 24,some 25,some 26,some 19,some 27,some 28,some 8,none,some 9] (by rw [hs]; kernel_rfl) (visit_r3V tb gb n c uh sa sb T nn nz) [6,10,11] ?_ (doneQ 6 10 11) (fun g x=>Turned [] w x∧∀ nb,g.nb=some nb→w.heap.size≤nb∧x.heap[nb]?=some (if g.st=true then Obj.cells #[.int .i64 uh,.int .i64 sa,.int .i64 sb,.iface T nn] 120 (0,0) else Obj.cells #[.int .i64 0,.int .i64 0,.int .i64 0,.nilIface] 120 (0,0))) (⟨false,none,false⟩) (⟨(Turned.refl _ _).drew,fun nb hnb=>(by cases hnb)⟩) (by intro x hx; simp at hx; rcases hx with rfl | rfl | rfl <;> rfl) (by decide) ?_ ?_
 ·exact fun i g b h _=>absurd h (noG (by kernel_rfl) i g b)
 ·intro i hi hgd
  rcases (by simp at hi; omega:i=0∨i=1∨i=2∨i=3∨i=4∨i=5∨i=6∨i=7∨i=8∨i=9∨i=10∨i=11∨i=12) with rfl | rfl | rfl | rfl | rfl | rfl | rfl | rfl | rfl | rfl | rfl | rfl | rfl
  ·refine soft (by decide) ?_
   intro o ac wa g ho hoff hv hS hdn
   have hc:=cell_at (hS.1.heap hB0 (by simp)) 0
   exact x_load (op_is rfl ho) (by rw [((hoff 2 (by decide)).trans x2)]; show (Instr.loadAt _ (pa _ _)).run _ _=_; unfold pa; go_simp; rfl)
  ·refine soft (by decide) ?_
   intro o ac wa g ho hoff hv hS hdn
   have hc:=cell_at (hS.1.heap hB1 (by simp)) 0
   exact x_load (op_is rfl ho) (by rw [((hoff 3 (by decide)).trans x3)]; show (Instr.loadAt _ (pa _ _)).run _ _=_; unfold pa; go_simp; rfl)
  ·refine soft (by decide) ?_
   intro o ac wa g ho hoff hv hS hdn
   exact (x_move (op_is rfl ho)).trans (by rw [((hoff 6 (by decide)).trans x6)]; rfl)
  ·refine soft (by decide) ?_
   intro o ac wa g ho hoff hv hS hdn
   exact (x_move (op_is rfl ho)).trans (by rw [((hoff 7 (by decide)).trans x7)]; rfl)
  ·refine soft (by decide) ?_
   intro o ac wa g ho hoff hv hS hdn
   have hlt:(n:Int) < ((n+1:Nat):Int):=by omega
   exact x_index (op_is rfl ho) (by rw [(hv 2 22 rfl (by kernel_rfl)),(hv 3 23 rfl (by kernel_rfl))]; show (Instr.indexAt _ (Value.slice _ _ _) (Value.int _ _)).run _ _=.ok (pa _ _) _; unfold pa; go_simp; intro hh; omega)
  ·refine soft (by decide) ?_
   intro o ac wa g ho hoff hv hS hdn
   have hc0:=hS.1.cell k0 (by simp)
   have hc1:=hS.1.cell k1 (by simp)
   have hc2:=hS.1.cell k2 (by simp)
   have hc3:=hS.1.cell k3 (by simp)
   exact x_load (op_is rfl ho) (by rw [(hv 4 24 rfl (by kernel_rfl))]; show (Instr.loadAt _ (pa _ _)).run _ _=_; unfold pa; go_simp; rfl)
  ·intro o ac wa g K ho hd _ hoff hv hS hpre hnd hlater hK
   have hst:g.st=false:=by
    have:=hlater 11 (by simp) (by kernel_rfl)
    simpa [doneQ] using this
   refine l_callE (op_is rfl ho) (xs:=#[.pointer (some ⟨tb,0,none⟩),.pointer none,.agg #[.int .i64 uh,.int .i64 sa,.int .i64 sb,nz]]) (by simp only [List.map_toArray,List.map_cons,List.map_nil]; rw [(hv 0 20 rfl (by kernel_rfl)),(hv 1 21 rfl (by kernel_rfl)),(hv 5 25 rfl (by kernel_rfl))]; rfl) Tryz.func53 (by kernel_rfl) rfl (hCall wa hS.1) ?_
   rintro e w' ⟨rfl,ht⟩
   refine ⟨_,rfl,?_⟩
   rw [hd]
   refine hK { g with ca:=true } w' ⟨hS.1.trans ht,fun nb hnb=>⟨(hS.2 nb hnb).1,ht.heap (hS.2 nb hnb).2 (by simp)⟩⟩ (by intro x hx; simp at hx; rcases hx with rfl | rfl | rfl <;> simp [doneQ]) fun j hj hr=>?_
   match j,hr with
   | 0,_=>rfl
   | 1,_=>rfl
   | 2,_=>rfl
   | 3,_=>rfl
   | 4,_=>rfl
   | 5,_=>rfl
   | 6,_=>exact absurd rfl hj
   | 7,_=>rfl
   | 8,_=>rfl
   | 9,_=>rfl
   | 10,_=>rfl
   | 11,_=>rfl
   | 12,_=>rfl
   | k+13,_=>rfl
  ·refine soft (by decide) ?_
   intro o ac wa g ho hoff hv hS hdn
   exact (x_move (op_is rfl ho)).trans (by rw [(hv 6 26 rfl (by kernel_rfl))]; rfl)
  ·refine soft (by decide) ?_
   intro o ac wa g ho hoff hv hS hdn
   exact x_extrQ (op_is rfl ho) (hv 7 19 rfl (by kernel_rfl)) rfl
  ·refine soft (by decide) ?_
   intro o ac wa g ho hoff hv hS hdn
   exact x_extrQ (op_is rfl ho) (hv 7 19 rfl (by kernel_rfl)) rfl
  ·intro o ac wa g K ho hd _ hoff hv hS hpre hnd hlater hK
   have hg:g.nb=none:=by have:=hnd (by simp); simpa [doneQ] using this
   have hst:g.st=false:=by
    have:=hlater 11 (by simp) (by kernel_rfl)
    simpa [doneQ] using this
   refine l_val hd (x_alloc (op_is rfl ho) (v:=pa wa.heap.size 0) (w':=wa.alloc (Obj.cells #[.int .i64 0,.int .i64 0,.int .i64 0,.nilIface] 120 (0,0))) (by unfold pa; go_simp)) ?_
   refine hK { g with nb:=some wa.heap.size } _ ⟨hS.1.alloc _,fun nb hnb=>?_⟩ (by intro x hx; simp at hx; rcases hx with rfl | rfl | rfl <;> simp [doneQ,hg]) fun j hj hr=>?_
   ·cases hnb
    refine ⟨hS.1.size,?_⟩
    rw [hst]
    exact blk_new _ _
   ·match j,hr with
    | 0,_=>rfl
    | 1,_=>rfl
    | 2,_=>rfl
    | 3,_=>rfl
    | 4,_=>rfl
    | 5,_=>rfl
    | 6,_=>rfl
    | 7,_=>rfl
    | 8,_=>rfl
    | 9,_=>rfl
    | 10,_=>exact absurd rfl hj
    | 11,hr=>exact absurd (hr.symm.trans (by kernel_rfl:reachB (opsOf 3 Tryz.f92.body) (opsOf 3 Tryz.f92.body).size 11 10=true)) (by decide)
    | 12,_=>rfl
    | k+13,_=>rfl
  ·intro o ac wa g K ho hd _ hoff hv hS hpre hnd hlater hK
   obtain ⟨nb,hnb⟩:=Option.isSome_iff_exists.1 (show g.nb.isSome=true from by have:=hpre 10 (by simp) (by kernel_rfl); simpa [doneQ] using this)
   have hst:g.st=false:=by have:=hnd (by simp); simpa [doneQ] using this
   have e1:=(hv 10 8 rfl (by kernel_rfl))
   have e2:=(hv 8 27 rfl (by kernel_rfl))
   have hb:=(hS.2 nb hnb).2
   have hbn:=(hS.2 nb hnb).1
   rw [hst] at hb
   have c0:wa.cell? ⟨nb,0,none⟩=some (Value.int IntKind.i64 0):=cell_at hb 0
   have c1:wa.cell? ⟨nb,1,none⟩=some (Value.int IntKind.i64 0):=cell_at hb 1
   have c2:wa.cell? ⟨nb,2,none⟩=some (Value.int IntKind.i64 0):=cell_at hb 2
   have c3:wa.cell? ⟨nb,3,none⟩=some Value.nilIface:=cell_at hb 3
   have z:=froz_at hb
   refine l_skip hd (w':=((((wa.setCell ⟨nb,0,none⟩ (.int .i64 uh)).setCell ⟨nb,1,none⟩ (.int .i64 sa)).setCell ⟨nb,2,none⟩ (.int .i64 sb)).setCell ⟨nb,3,none⟩ (.iface T nn))) (x_store (op_is rfl ho) (by
    rw [e1,e2]
    show (Instr.storeAt _ (pa (g.nb.getD 0) 0) (Value.agg #[.int .i64 uh,.int .i64 sa,.int .i64 sb,.iface T nn])).run _ _=_
    rw [hnb]
    show (Instr.storeAt _ (pa nb 0) (Value.agg #[.int .i64 uh,.int .i64 sa,.int .i64 sb,.iface T nn])).run _ _=_
    unfold pa
    go_simp)) ?_
   have htn:Turned [nb] wa ((((wa.setCell ⟨nb,0,none⟩ (.int .i64 uh)).setCell ⟨nb,1,none⟩ (.int .i64 sa)).setCell ⟨nb,2,none⟩ (.int .i64 sb)).setCell ⟨nb,3,none⟩ (.iface T nn)):=(((((Turned.refl _ _).set (.inl (by simp)) 0 _).set (.inl (by simp)) 1 _).set (.inl (by simp)) 2 _).set (.inl (by simp)) 3 _)
   refine hK { g with st:=true } _ ⟨hS.1.inner htn (by intro x hx; simp at hx; subst hx; exact .inr hbn),fun nb' hnb'=>?_⟩ (by intro x hx; simp at hx; rcases hx with rfl | rfl | rfl <;> simp [doneQ]) fun j hj hr=>?_
   ·have:nb'=nb:=by rw [hnb] at hnb'; cases hnb'; rfl
    subst this
    refine ⟨hbn,?_⟩
    show _=some (if true=true then Obj.cells #[.int .i64 uh,.int .i64 sa,.int .i64 sb,.iface T nn] 120 (0,0) else _)
    rw [if_pos rfl,(blk_set (blk_set (blk_set (blk_set hb 0 _) 1 _) 2 _) 3 _)]
    rfl
   ·match j,hr with
    | 0,_=>rfl
    | 1,_=>rfl
    | 2,_=>rfl
    | 3,_=>rfl
    | 4,_=>rfl
    | 5,_=>rfl
    | 6,_=>rfl
    | 7,_=>rfl
    | 8,_=>rfl
    | 9,_=>rfl
    | 10,_=>rfl
    | 11,_=>exact absurd rfl hj
    | 12,_=>rfl
    | k+13,_=>rfl
  ·refine soft (by decide) ?_
   intro o ac wa g ho hoff hv hS hdn
   exact (x_assign (op_is rfl ho)).trans (by rw [(hv 9 28 rfl (by kernel_rfl))]; rfl)
 ·intro a' w' g hsz hdf hoff hS hdn hval
  obtain ⟨nb,hnb⟩:=Option.isSome_iff_exists.1 (show g.nb.isSome=true from by have:=hdn 10 (by simp); simpa [doneQ] using this)
  have hst:g.st=true:=by have:=hdn 11 (by simp); simpa [doneQ] using this
  have hb:=(hS.2 nb hnb).2
  rw [hst,if_pos rfl] at hb
  exact hEnd a' w' nb hsz hdf (fun s hs=>ev_same (hoff s hs)) ((hval 10 8 rfl).trans (by show pa (g.nb.getD 0) 0=_; rw [hnb]; rfl)) (hval 12 9 rfl) hS.1 hb (hS.2 nb hnb).1
end Go.Proofs.YtloljphbdfjgdaaGreatDoor
/- The spots that are still to be read, the next one first. -/
namespace Go.Proofs.YtloljphbdfjgdaaGreatDoor
open Go.RowKit
def DeepR:List Spot→Prop
 | []=>True
 | x :: l=>x.t.deep+l.length≤32∧DeepR l
theorem DeepR.len {l:List Spot} (h:DeepR l):l.length≤33:=by
 cases l with
 | nil=>simp
 | cons x l=>have:=h.1; simp; omega
structure SpotOk (s:PSt) (x:Spot):Prop where
 wf:x.t.WF
 rep:Rep s x.t
 lo:x.a≤x.t.lo
 hi:x.t.hi≤x.b
def spotA (x:Spot):Value:=.agg #[.int .i64 x.t.hd,.int .i64 x.a,.int .i64 x.b,nv x.t]
def restV (lo hi:Int) (l:List Spot):List Spot:=l.flatMap (Spot.vis lo hi)
def kids (lo hi:Int) (x:Spot):List Spot :=
 match x.t with
 | .leaf ..=>[]
 | .node _ q c l r=>(if max c lo≤min (c+2 ^ q - 1) hi then [⟨l,c,c+2 ^ q - 1⟩] else []) ++ (if max (c+2 ^ q) lo≤min (c+2 * 2 ^ q - 1) hi then [⟨r,c+2 ^ q,c+2 * 2 ^ q - 1⟩] else [])
theorem vis_kids (lo hi:Int) (x:Spot):x.vis lo hi=x :: restV lo hi (kids lo hi x):=by
 obtain ⟨t,a,b⟩:=x
 cases t with
 | leaf h k v=>rfl
 | node h q c l r =>
  simp only [Spot.vis,Tr.vis,kids,restV,List.flatMap_append]
  congr 2
  ·split <;> simp [Spot.vis]
  ·split <;> simp [Spot.vis]
theorem rest_cons (lo hi:Int) (x:Spot) (l:List Spot):restV lo hi (x :: l)=x :: restV lo hi (kids lo hi x ++ l):=by
 simp only [restV,List.flatMap_cons,List.flatMap_append,vis_kids,List.cons_append]
theorem kids_ok {s:PSt} {x:Spot} (h:SpotOk s x) (lo hi:Int):∀ y∈kids lo hi x,SpotOk s y∧y.t.deep < x.t.deep:=by
 obtain ⟨t,a,b⟩:=x
 cases t with
 | leaf h k v=>intro y hy; cases hy
 | node hh q c l r =>
  obtain ⟨g1,g2,g3,g4,g5,g6,g7,g8,g9,g10⟩:=id h.wf
  have hd:=h.wf.deep_lt
  have hp:=Tr.pow_pos' q
  have hr:=h.rep
  intro y hy
  simp only [kids,List.mem_append] at hy
  rcases hy with hy | hy
  ·split at hy
   ·simp at hy; subst hy
    exact ⟨⟨g9,hr.2.1,g5,by show l.hi≤c+2 ^ q - 1; omega⟩,Nat.lt_succ_of_le hd.1⟩
   ·cases hy
  ·split at hy
   ·simp at hy; subst hy
    exact ⟨⟨g10,hr.2.2,g7,by show r.hi≤c+2 * 2 ^ q - 1; omega⟩,Nat.lt_succ_of_le hd.2⟩
   ·cases hy
theorem kids_len (lo hi:Int) (x:Spot):(kids lo hi x).length≤2:=by
 obtain ⟨t,a,b⟩:=x
 cases t with
 | leaf h k v=>simp [kids]
 | node h q c l r=>simp only [kids,List.length_append]; split <;> split <;> simp
theorem DeepR.step {s:PSt} {x:Spot} {l:List Spot} (h:DeepR (x :: l)) (hx:SpotOk s x) (lo hi:Int):DeepR (kids lo hi x ++ l):=by
 have hk:=kids_ok hx lo hi
 have hl:=kids_len lo hi x
 generalize kids lo hi x=ks at hk hl
 match ks,hk,hl with
 | [],_,_=>exact h.2
 | [y],hk,_=>have:=(hk y (by simp)).2; have:=h.1; exact ⟨by show y.t.deep+l.length≤32; omega,h.2⟩
 | [y,z],hk,_=>have:=(hk y (by simp)).2; have:=(hk z (by simp)).2; have:=h.1; exact ⟨by show y.t.deep+(l.length+1)≤32; omega,by show z.t.deep+l.length≤32; omega,h.2⟩
def NzOk (y:Spot) (nz:Value):Prop:=nz=.nilIface∨nz=nv y.t
theorem NzOk.one {y:Spot} {nz:Value} (h:NzOk y nz):nz.oneCell'=true:=by
 rcases h with rfl | rfl
 ·rfl
 ·obtain ⟨T,v,e⟩:=nv_form y.t
  rw [e]; rfl
structure PreV (bt b0 b1 b3 tb p:Nat) (F:List Nat) (s:PSt) (y:Spot) (lo hi:Int) (W:World):Prop where
 top:∃ nz,NzOk y nz∧W.heap[bt]?=some (.cells #[.int .i64 y.t.hd,.int .i64 y.a,.int .i64 y.b,nz] 120 (0,0))
 tr:W.heap[b0]?=some (.cells #[.pointer (some ⟨tb,0,none⟩)] 29 (0,0))
 wk:W.heap[b1]?=some (.cells #[.pointer none] 111 (0,0))
 sp:W.heap[b3]?=some (.cells #[.int .i64 lo,.int .i64 hi] 116 (0,0))
 trie:TrieB W tb p
 pool:PoolAt W p F s
def RV (bt b0 b1 b3 tb:Nat) (F:List Nat):List Nat:=bt :: b0 :: b1 :: b3 :: tb :: 0 :: F
theorem PreV.keep {bt b0 b1 b3 tb p:Nat} {F:List Nat} {s:PSt} {y:Spot} {lo hi:Int} {W W':World} {M:List Nat} (h:PreV bt b0 b1 b3 tb p F s y lo hi W) (ht:Turned M W W') (hM:∀ x,x∈M→x∉RV bt b0 b1 b3 tb F):PreV bt b0 b1 b3 tb p F s y lo hi W':=by
 have n:∀ x,x∈RV bt b0 b1 b3 tb F→x∉M:=fun x hx hm=>hM x hm hx
 obtain ⟨nz,hz,h0⟩:=h.top
 exact ⟨⟨nz,hz,ht.heap h0 (n _ (by simp [RV]))⟩,ht.heap h.tr (n _ (by simp [RV])),ht.heap h.wk (n _ (by simp [RV])),ht.heap h.sp (n _ (by simp [RV])),h.trie.keep ht (n _ (by simp [RV])) (n _ (by simp [RV])),poolLaws.keep h.pool ht (fun x hx hm=>hM x hx (by simp [RV,hm]))⟩
theorem PreV.lt {bt b0 b1 b3 tb p:Nat} {F:List Nat} {s:PSt} {y:Spot} {lo hi:Int} {W:World} (h:PreV bt b0 b1 b3 tb p F s y lo hi W):∀ x,x∈RV bt b0 b1 b3 tb F→x < W.heap.size:=by
 intro x hx
 obtain ⟨nz,hz,h0⟩:=h.top
 simp only [RV,List.mem_cons] at hx
 rcases hx with rfl | rfl | rfl | rfl | rfl | rfl | hx
 ·exact lt_of_heap h0
 ·exact lt_of_heap h.tr
 ·exact lt_of_heap h.wk
 ·exact lt_of_heap h.sp
 ·exact lt_of_heap h.trie.blk
 ·have:=lt_of_heap h0; omega
 ·exact poolLaws.lt h.pool x hx
theorem PreV.spz {bt b0 b1 b3 tb p:Nat} {F:List Nat} {s:PSt} {y:Spot} {lo hi:Int} {W:World} (h:PreV bt b0 b1 b3 tb p F s y lo hi W):b3≠0:=fun e=>by
 have h1:=h.trie.tab 5 (by omega)
 have h2:=cell_at h.sp 5
 rw [e,h1] at h2
 cases h2
def xsV (V:List Spot) (j:Nat):Array Value:=#[spotA (V.getD j ⟨.leaf 0 0 0,0,0⟩),.int .i64 0]
theorem SpR.one {w:World} (x:Spot):SpR w.heap.size (w.alloc (.cells #[.int .i64 x.t.hd,.int .i64 x.a,.int .i64 x.b,.nilIface] 120 (0,0))) (.slice (some ⟨w.heap.size,0,none⟩) 1 1) [x] :=
 ⟨rfl,.inr ⟨_,1,_,rfl,Nat.le_refl _,blk_new _ _,by simp,by decide,rfl,rfl⟩⟩
structure SpQ (B:Nat) (w:World) (v:Value) (S:List Spot):Prop where
 ex:SpR B w v S.reverse∨∃ y nz,S=[y]∧NzOk y nz∧w.ownsRow B 120 4 v 1 [.int .i64 y.t.hd,.int .i64 y.a,.int .i64 y.b,nz]
theorem SpQ.of {B:Nat} {w:World} {v:Value} {S:List Spot} (h:SpR B w v S.reverse):SpQ B w v S:=⟨.inl h⟩
theorem SpQ.nil {B:Nat} {w:World} {v:Value} (h:SpQ B w v []):∃ a c,v=.slice a 0 c:=by
 rcases h.ex with h | ⟨y,nz,e,-⟩
 ·exact h.form
 ·cases e
theorem SpQ.one {w:World} {y:Spot} {nz:Value} (h:NzOk y nz):SpQ w.heap.size (w.alloc (.cells #[.int .i64 y.t.hd,.int .i64 y.a,.int .i64 y.b,nz] 120 (0,0))) (.slice (some ⟨w.heap.size,0,none⟩) 1 1) [y] :=
 ⟨.inr ⟨y,nz,rfl,h,rfl,.inr ⟨_,1,_,rfl,Nat.le_refl _,blk_new _ _,by simp,by decide,rfl,rfl⟩⟩⟩
theorem SpQ.cons {B:Nat} {w:World} {v:Value} {y:Spot} {S:List Spot} (h:SpQ B w v (y :: S)):∃ g c nz,v=.slice (some ⟨g,0,none⟩) (S.reverse.length+1) c∧S.reverse.length+1≤c∧SpR B w (.slice (some ⟨g,0,none⟩) S.reverse.length c) S.reverse∧w.cell? ⟨g,S.reverse.length * 4,none⟩=some (.int .i64 y.t.hd)∧w.cell? ⟨g,S.reverse.length * 4+1,none⟩=some (.int .i64 y.a)∧w.cell? ⟨g,S.reverse.length * 4+2,none⟩=some (.int .i64 y.b)∧w.cell? ⟨g,S.reverse.length * 4+3,none⟩=some nz∧NzOk y nz∧B≤g∧g < w.heap.size:=by
 rcases h.ex with h | ⟨y',nz,e,hz,ho⟩
 ·rw [List.reverse_cons] at h
  obtain ⟨g,c,rfl,hc,-⟩:=h.full
  obtain ⟨k0,k1,k2,k3⟩:=h.last
  exact ⟨g,c,_,rfl,hc,h.init,k0,k1,k2,k3,.inl rfl,h.fresh rfl⟩
 ·simp only [List.cons.injEq] at e
  obtain ⟨rfl,rfl⟩:=e
  rcases ho.2 with ⟨-,h0⟩ | ⟨g,c,cs,rfl,hb,hg,hn,hm,hs,ht⟩
  ·cases h0
  ·have hcell:∀ j,j < 4→w.cell? ⟨g,j,none⟩=[Value.int .i64 y.t.hd,.int .i64 y.a,.int .i64 y.b,nz][j]?:=fun j hj=>ho.cellAt j (by omega)
   exact ⟨g,c,nz,rfl,hn,⟨rfl,.inr ⟨g,c,cs,rfl,hb,hg,Nat.zero_le _,hm,hs,by simp⟩⟩,hcell 0 (by omega),hcell 1 (by omega),hcell 2 (by omega),hcell 3 (by omega),hz,hb,lt_of_heap hg⟩
end Go.Proofs.YtloljphbdfjgdaaGreatDoor
/- A frame, spelled out. -/
namespace Go.Proofs.YtloljphbdfjgdaaGreatDoor
open Go.RowKit
def lit50 (c:Nat→Value):Array Value:=#[c 0,c 1,c 2,c 3,c 4,c 5,c 6,c 7,c 8,c 9,c 10,c 11,c 12,c 13,c 14,c 15,c 16,c 17,c 18,c 19,c 20,c 21,c 22,c 23,c 24,c 25,c 26,c 27,c 28,c 29,c 30,c 31,c 32,c 33,c 34,c 35,c 36,c 37,c 38,c 39,c 40,c 41,c 42,c 43,c 44,c 45,c 46,c 47,c 48,c 49]
set_option maxRecDepth 100000 in
theorem lit50_eq (c:Nat→Value):lit50 c=((List.range 50).map c).toArray:=by rfl
theorem expand50 {a:Act} (hs:a.tmps.size=50) (hd:a.defers=[]):∃ c:Nat→Value,a=⟨lit50 c,[]⟩∧∀ s,c s=a.eval (.tmp s):=by
 refine ⟨fun s=>a.tmps.getD s undef,?_,fun s=>rfl⟩
 obtain ⟨t,d⟩:=a
 simp only at hs hd
 subst hd
 congr 1
 rw [lit50_eq]
 refine Array.ext (by simp [hs]) fun i h1 h2=>?_
 simp [Array.getD,h1]
end Go.Proofs.YtloljphbdfjgdaaGreatDoor

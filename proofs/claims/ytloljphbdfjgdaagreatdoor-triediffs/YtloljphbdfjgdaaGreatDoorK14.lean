/- Pairs behind pairs: 'append'; a list with a key's value, without a key. -/
import Derived.Test.YtloljphbdfjgdaaGreatDoorK13
import Derived.Deep.AppendLies
import Derived.OwnWalk
import Derived.Test.YtloljphbdfjgdaaGreatDoorRows
import Derived.Test.YtloljphbdfjgdaaGreatDoorK10
import Derived.Test.YtloljphbdfjgdaaGreatDoorK12
import Derived.Test.YtloljphbdfjgdaaGreatDoorK09
namespace Go.Proofs.YtloljphbdfjgdaaGreatDoor
open Go.RowKit
theorem infoPair:(Tryz.prog.info? 60).map (fun i=>(i.zero,i.size,i.bytes))=some (some (.agg #[.int .i64 0,.int .i64 0]),2,16):=by kernel_rfl
theorem undPairs:Tryz.prog.underlying 31=some (.slice 60):=by kernel_rfl
structure PSrc (w:World) (u:Value) (ms:List (Int × Int)):Prop where
 ex:(u=.slice none 0 0∧ms=[])∨∃ g off c,u=.slice (some ⟨g,off,none⟩) ms.length c∧∀ i (hi:i < ms.length),w.cell? ⟨g,off+i * 2,none⟩=some (.int .i64 ms[i].1)∧w.cell? ⟨g,off+(i * 2+1),none⟩=some (.int .i64 ms[i].2)
theorem flat_at:∀ (l:List (Int × Int)) (j:Nat) (u:Value),(flat l)[j]?=some u→∃ i,∃ h:i < l.length,(j=i * 2∧u=.int .i64 l[i].1)∨(j=i * 2+1∧u=.int .i64 l[i].2)
 | [],j,u,h=>by simp [flat] at h
 | x :: l,0,u,h=>⟨0,by simp,.inl ⟨rfl,by simpa [flat] using h.symm⟩⟩
 | x :: l,1,u,h=>⟨0,by simp,.inr ⟨rfl,by simpa [flat] using h.symm⟩⟩
 | x :: l,j+2,u,h=>by
  simp only [flat,List.getElem?_cons_succ] at h
  obtain ⟨i,hi,hh⟩:=flat_at l j u h
  refine ⟨i+1,by simpa using hi,?_⟩
  simp only [List.getElem_cons_succ]
  rcases hh with ⟨rfl,rfl⟩ | ⟨rfl,rfl⟩
  ·exact .inl ⟨by omega,rfl⟩
  ·exact .inr ⟨by omega,rfl⟩
theorem wpList_apPairs {w:World} {ops:Array Oper} {rest:List Oper} {o:Oper} {a:Act} {Q:Exit→Act→World→Prop} {B:Nat} {v u:Value} {l ms:List (Int × Int)} (hgd:o.guard=none) (x y:Operand) (ho:o.op=.call { callee:=.builtin .append,args:=#[x,y],argTypes:=#[31,31] })
  (hs:a.eval x=v) (hr:PR B w v l) (hy:a.eval y=u) (hu:PSrc w u ms) (hm:l.length+ms.length≤4000000) (hB:B≤w.heap.size)
  (h:∀ v' w',PR B w' v' (l ++ ms)→Turned v.ownBlock.toList w w'→(v'.ownBlock=v.ownBlock∨v'.ownBlock=some w.heap.size)→wpList Tryz.prog ops Q rest (a.put o.dst v') w'):wpList Tryz.prog ops Q (o :: rest) a w:=by
 obtain ⟨i,hi,hzz⟩:=Option.map_eq_some_iff.1 infoPair
 simp only [Prod.mk.injEq] at hzz
 obtain ⟨hz,hs1,hb⟩:=hzz
 rcases hu.ex with ⟨rfl,rfl⟩ | ⟨g,off,c,rfl,hcell⟩
 ·refine wpList_plain hgd fun K hK=>?_
  have hrun:=run_append_owned_none (P:=Tryz.prog) w B 31 o.type 60 i 2 undPairs hi v l.length (flat l) hr.own
  unfold Oper.wp execOp
  simp only [ho,resolve,invoke,builtin,Sem.run_bind,Sem.run_pure,Result.andThen_ok,List.map_toArray,List.map_cons,List.map_nil,hs,hy,hrun]
  exact hK _ _ (h v w (by rw [List.append_nil]; exact hr) (Turned.refl _ _) (.inl rfl))
 ·refine wpList_plain hgd fun K hK=>?_
  obtain ⟨v',w',hrun,h2,h3,h4,h5⟩:=run_append_own_at (P:=Tryz.prog) w B 31 o.type 60 i _ 2 16 undPairs hi hz hs1 hb rfl (by decide) v l.length (flat l) hr.own ⟨g,off,none⟩ ms.length c (flat ms) (flat_length ms) (fun j u' hj=>by
   have hadd:(⟨g,off,none⟩:Addr).add j=⟨g,off+j,none⟩:=by unfold Addr.add; split <;> simp_all
   rw [hadd]
   obtain ⟨k,hk,⟨rfl,rfl⟩ | ⟨rfl,rfl⟩⟩:=flat_at ms j u' hj
   ·exact (hcell k hk).1
   ·exact (hcell k hk).2) (flat_one ms) (by unfold maxLen; omega) (by omega) hB
  unfold Oper.wp execOp
  simp only [ho,resolve,invoke,builtin,Sem.run_bind,Sem.run_pure,Result.andThen_ok,List.map_toArray,List.map_cons,List.map_nil,hs,hy,hrun]
  refine hK _ _ (h v' w' ⟨by rw [List.length_append,flat_append]; exact h2⟩ ⟨h3.os,h3.tape,h3.output,h3.size,fun k hk hn=>h3.block k hk fun e=>hn (by rw [← e]; simp)⟩ h5)
theorem PR.src {B:Nat} {w:World} {v:Value} {l:List (Int × Int)} (h:PR B w v l):PSrc w v l:=by
 rcases h.form with ⟨rfl,rfl⟩ | ⟨g,c,cs,rfl,hb,hg,hh,hc,hcell⟩
 ·exact ⟨.inl ⟨rfl,rfl⟩⟩
 ·exact ⟨.inr ⟨g,0,c,rfl,fun i hi=>by rw [Nat.zero_add,Nat.zero_add]; exact hcell i hi⟩⟩
theorem psrc_of {w:World} {g off m c:Nat} {ms:List (Int × Int)} (hm:m=ms.length) (h:∀ i (hi:i < ms.length),w.cell? ⟨g,off+i * 2,none⟩=some (.int .i64 ms[i].1)∧w.cell? ⟨g,off+(i * 2+1),none⟩=some (.int .i64 ms[i].2)):PSrc w (.slice (some ⟨g,off,none⟩) m c) ms:=⟨.inr ⟨g,off,c,by rw [hm],h⟩⟩
theorem psrc_take {w:World} {g c r:Nat} {l:List (Int × Int)} (hr:r≤l.length) (h:∀ i (hi:i < l.length),w.cell? ⟨g,i * 2,none⟩=some (.int .i64 l[i].1)∧w.cell? ⟨g,i * 2+1,none⟩=some (.int .i64 l[i].2)):PSrc w (.slice (some ⟨g,0,none⟩) r c) (l.take r) :=
 psrc_of (by simp; omega) fun i hi=>by
  simp only [List.length_take] at hi
  have:=h i (by omega)
  simp only [Nat.zero_add,List.getElem_take]
  exact this
theorem psrc_drop {w:World} {g c r:Nat} {l:List (Int × Int)} (h:∀ i (hi:i < l.length),w.cell? ⟨g,i * 2,none⟩=some (.int .i64 l[i].1)∧w.cell? ⟨g,i * 2+1,none⟩=some (.int .i64 l[i].2)):PSrc w (.slice (some ⟨g,r * 2,none⟩) (l.length - r) c) (l.drop r) :=
 psrc_of (by simp) fun i hi=>by
  simp only [List.length_drop] at hi
  have:=h (r+i) (by omega)
  rw [Nat.add_mul] at this
  simp only [List.getElem_drop,← Nat.add_assoc]
  exact this
theorem psrc_none {w:World} {g off c:Nat}:PSrc w (.slice (some ⟨g,off,none⟩) 0 c) []:=psrc_of rfl fun i hi=>by simp at hi
def oneO:Option Int→Nat
 | none=>0
 | some _=>1
def skipL (l:List (Int × Int)) (k:Int):Nat:=rankL l k+oneO (getL l k)
theorem rank_go {x:Int × Int} {l:List (Int × Int)} {k:Int} (hx:x.1 < k):rankL (x :: l) k=rankL l k+1∧getL (x :: l) k=getL l k∧skipL (x :: l) k=skipL l k+1:=by
 have e:rankL (x :: l) k=rankL l k+1:=by simp [rankL,List.takeWhile,hx]
 have e2:getL (x :: l) k=getL l k:=by rw [getL,if_pos hx]
 exact ⟨e,e2,by unfold skipL; rw [e,e2]; omega⟩
theorem rank_stop {x:Int × Int} {l:List (Int × Int)} {k:Int} (hx:¬ x.1 < k):rankL (x :: l) k=0∧skipL (x :: l) k=if x.1=k then 1 else 0:=by
 have e:rankL (x :: l) k=0:=by simp [rankL,List.takeWhile,hx]
 refine ⟨e,?_⟩
 unfold skipL
 rw [e,getL,if_neg hx]
 split <;> rfl
theorem del_split (l:List (Int × Int)) (k:Int):delL l k=l.take (rankL l k) ++ l.drop (skipL l k):=by
 induction l with
 | nil=>rfl
 | cons x l ih =>
  by_cases hx:x.1 < k
  ·obtain ⟨e1,e2,e3⟩:=rank_go (l:=l) hx
   rw [delL,if_pos hx,e1,e3,ih]
   rfl
  ·obtain ⟨e1,e2⟩:=rank_stop (l:=l) hx
   rw [delL,if_neg hx,e1,e2]
   split <;> rfl
theorem ins_split (l:List (Int × Int)) (k v:Int):insL l k v=l.take (rankL l k) ++ (k,v) :: l.drop (skipL l k):=by
 induction l with
 | nil=>rfl
 | cons x l ih =>
  by_cases hx:x.1 < k
  ·obtain ⟨e1,e2,e3⟩:=rank_go (l:=l) hx
   rw [insL,if_pos hx,e1,e3,ih]
   rfl
  ·obtain ⟨e1,e2⟩:=rank_stop (l:=l) hx
   rw [insL,if_neg hx,e1,e2]
   split <;> rfl
theorem skip_le (l:List (Int × Int)) (k:Int):skipL l k≤l.length:=by
 induction l with
 | nil=>exact Nat.le_refl _
 | cons x l ih =>
  by_cases hx:x.1 < k
  ·rw [(rank_go (l:=l) hx).2.2]; simp; exact ih
  ·rw [(rank_stop (l:=l) hx).2]; split <;> simp
theorem PR.fresh {B:Nat} {w:World} {v:Value} {l:List (Int × Int)} (h:PR B w v l) {g:Nat} (hg:v.ownBlock=some g):B≤g∧g < w.heap.size:=h.own.lt g hg
section
variable {w:World} {v:Value} {l:List (Int × Int)}
set_option maxRecDepth 100000 in
set_option maxHeartbeats 1600000 in
theorem cWithout {B:Nat} (h:PR B w v l) (hl:l.length≤1000000) (k:Int):Calls Tryz.prog 16 #[v,.int .i64 k] w fun e w'=>∃ v',e=.returned v'∧PR w.heap.size w' v' (delL l k)∧Turned [] w w':=by
 have HW:=cWhere h hl k
 rcases h.form with ⟨rfl,rfl⟩ | ⟨g,c,cs,rfl,hb,hg,hh,hc,hcell⟩
 ·have e:getL [] k=none:=rfl
  have e1:rankL [] k=0:=rfl
  rw [e,e1] at HW
  simp only [Option.isSome_none] at HW
  clear h
  go_enter Tryz.func16,Tryz.ntmps16
  go_wp2_with (first
   | (go_at_call 40; refine HW.mono ?_; rintro e w' ⟨rfl,HT⟩)
   | (at_builtin; refine wpList_apPairs (B:=w.heap.size) (v:=.slice none 0 0) (l:=[]) (ms:=[]) rfl _ _ rfl rfl (PR.nil _ _) rfl ⟨.inl ⟨rfl,rfl⟩⟩ (by simp) HT.size ?_; intro v1 w1 hr1 ht1 ho1; have HR1:Hid _:=hr1; have HT1:Hid (Turned [] w w1):=HT.trans ht1; clear hr1 ht1 ho1 HT)
   | (at_builtin; refine wpList_apPairs (B:=w.heap.size) (l:=[]) (ms:=[]) rfl _ _ rfl rfl HR1.out rfl ⟨.inl ⟨rfl,rfl⟩⟩ (by simp) HT1.out.size ?_; intro v2 w2 hr2 ht2 ho2; have HR2:Hid _:=hr2; have HT2:Hid (Turned [] w w2):=HT1.out.inner ht2 (fun x hx=>(by simp at hx; exact .inr (HR1.out.fresh hx).1)); clear hr2 ht2 ho2 HT1))
  go_ret
  exact ⟨_,rfl,HR2.out,HT2.out⟩
 ·have HC:Hid _:=hcell
  have HH:Hid _:=hh
  have hr:=rank_le l k
  have hsk:=skip_le l k
  have HD:Hid _:=del_split l k
  clear hcell hh h
  have hc2:(rankL l k:Int)≤(c:Int):=by omega
  have HB1:Hid (([]:List (Int × Int)).length+(l.take (rankL l k)).length≤4000000):=by show _≤_; simp; omega
  have HB2:Hid (∀ m,(l.take (rankL l k)).length+(l.drop m).length≤4000000):=by intro m; simp; omega
  unfold skipL at hsk HD
  rcases hg2:getL l k with _ | y
  ·rw [hg2] at HW hsk HD
   simp only [oneO,Nat.add_zero,Option.isSome_none] at hsk HD HW
   have hc3:(rankL l k:Int)≤(l.length:Int):=by omega
   clear hg2
   generalize rankL l k=r at *
   by_cases hcr:c=r
   ·have hcr2:l.length=c:=by omega
    subst hcr
    have hd0:l.drop c=[]:=List.drop_eq_nil_of_le (by omega)
    have HB2:Hid ((l.take c).length+([]:List (Int × Int)).length≤4000000):=by show _≤_; simp; omega
    have HX:Hid _:=hd0
    clear hd0
    rw [hcr2] at HW
    go_enter Tryz.func16,Tryz.ntmps16
    go_wp2_with (first
     | (go_at_call 40; refine HW.mono ?_; rintro e w' ⟨rfl,HT⟩; have HS1:Hid (PSrc w' (.slice (some ⟨g,0,none⟩) c c) (l.take c)):=psrc_take hr (fun i hi=>⟨HT.cell (HC.out i hi).1 (by simp),HT.cell (HC.out i hi).2 (by simp)⟩))
     | (at_builtin; refine wpList_apPairs (B:=w.heap.size) (v:=.slice none 0 0) (u:=.slice (some ⟨g,0,none⟩) c c) (l:=[]) (ms:=l.take c) rfl _ _ rfl rfl (PR.nil _ _) rfl HS1.out (HB1.out) HT.size ?_; intro v1 w1 hr1 ht1 ho1; have HR1:Hid (PR w.heap.size w1 v1 (l.take c)):=hr1; have HT1:Hid (Turned [] w w1):=HT.trans ht1; clear hr1 ht1 ho1 HT HS1; have HS2:Hid (PSrc w1 (.slice (some ⟨g,0,none⟩) 0 0) ([])):=psrc_none)
     | (at_builtin; refine wpList_apPairs (B:=w.heap.size) (l:=l.take c) (u:=.slice (some ⟨g,0,none⟩) 0 0) (ms:=[]) rfl _ _ rfl rfl HR1.out rfl HS2.out (HB2.out) HT1.out.size ?_; intro v2 w2 hr2 ht2 ho2; have HR2:Hid _:=hr2; have HT2:Hid (Turned [] w w2):=HT1.out.inner ht2 (fun x hx=>(by simp at hx; exact .inr (HR1.out.fresh hx).1)); clear hr2 ht2 ho2 HT1))
    go_ret
    exact ⟨_,rfl,by rw [HD.out,HX.out]; exact HR2.out,HT2.out⟩
   ·have HB2:=HB2.out r
    have HB2:Hid _:=HB2
    go_enter Tryz.func16,Tryz.ntmps16
    go_wp2_with (first
     | (go_at_call 40; refine HW.mono ?_; rintro e w' ⟨rfl,HT⟩; have HS1:Hid (PSrc w' (.slice (some ⟨g,0,none⟩) r c) (l.take r)):=psrc_take hr (fun i hi=>⟨HT.cell (HC.out i hi).1 (by simp),HT.cell (HC.out i hi).2 (by simp)⟩))
     | (at_builtin; refine wpList_apPairs (B:=w.heap.size) (v:=.slice none 0 0) (u:=.slice (some ⟨g,0,none⟩) r c) (l:=[]) (ms:=l.take r) rfl _ _ rfl rfl (PR.nil _ _) rfl HS1.out (HB1.out) HT.size ?_; intro v1 w1 hr1 ht1 ho1; have HR1:Hid (PR w.heap.size w1 v1 (l.take r)):=hr1; have HT1:Hid (Turned [] w w1):=HT.trans ht1; clear hr1 ht1 ho1 HT HS1; have HS2:Hid (PSrc w1 (.slice (some ⟨g,r * 2,none⟩) (l.length - r) (c - r)) (l.drop r)):=psrc_drop (fun i hi=>⟨HT1.out.cell (HC.out i hi).1 (by simp),HT1.out.cell (HC.out i hi).2 (by simp)⟩))
     | (at_builtin; refine wpList_apPairs (B:=w.heap.size) (l:=l.take r) (u:=.slice (some ⟨g,r * 2,none⟩) (l.length - r) (c - r)) (ms:=l.drop r) rfl _ _ rfl rfl HR1.out rfl HS2.out (HB2.out) HT1.out.size ?_; intro v2 w2 hr2 ht2 ho2; have HR2:Hid _:=hr2; have HT2:Hid (Turned [] w w2):=HT1.out.inner ht2 (fun x hx=>(by simp at hx; exact .inr (HR1.out.fresh hx).1)); clear hr2 ht2 ho2 HT1))
    go_ret
    exact ⟨_,rfl,by rw [HD.out]; exact HR2.out,HT2.out⟩
  ·rw [hg2] at HW hsk HD
   simp only [oneO,Option.isSome_some] at hsk HD HW
   have hc3:(rankL l k:Int)+1≤(l.length:Int):=by omega
   clear hg2
   generalize rankL l k=r at *
   by_cases hcr:c=r+1
   ·have hcr2:l.length=r+1:=by omega
    subst hcr
    have hd0:l.drop (r+1)=[]:=List.drop_eq_nil_of_le (by omega)
    have HB2:Hid ((l.take r).length+([]:List (Int × Int)).length≤4000000):=by show _≤_; simp; omega
    have HX:Hid _:=hd0
    clear hd0
    rw [hcr2] at HW
    go_enter Tryz.func16,Tryz.ntmps16
    go_wp2_with (first
     | (go_at_call 40; refine HW.mono ?_; rintro e w' ⟨rfl,HT⟩; have HS1:Hid (PSrc w' (.slice (some ⟨g,0,none⟩) r (r+1)) (l.take r)):=psrc_take hr (fun i hi=>⟨HT.cell (HC.out i hi).1 (by simp),HT.cell (HC.out i hi).2 (by simp)⟩))
     | (at_builtin; refine wpList_apPairs (B:=w.heap.size) (v:=.slice none 0 0) (u:=.slice (some ⟨g,0,none⟩) r (r+1)) (l:=[]) (ms:=l.take r) rfl _ _ rfl rfl (PR.nil _ _) rfl HS1.out (HB1.out) HT.size ?_; intro v1 w1 hr1 ht1 ho1; have HR1:Hid (PR w.heap.size w1 v1 (l.take r)):=hr1; have HT1:Hid (Turned [] w w1):=HT.trans ht1; clear hr1 ht1 ho1 HT HS1; have HS2:Hid (PSrc w1 (.slice (some ⟨g,0,none⟩) 0 0) ([])):=psrc_none)
     | (at_builtin; refine wpList_apPairs (B:=w.heap.size) (l:=l.take r) (u:=.slice (some ⟨g,0,none⟩) 0 0) (ms:=[]) rfl _ _ rfl rfl HR1.out rfl HS2.out (HB2.out) HT1.out.size ?_; intro v2 w2 hr2 ht2 ho2; have HR2:Hid _:=hr2; have HT2:Hid (Turned [] w w2):=HT1.out.inner ht2 (fun x hx=>(by simp at hx; exact .inr (HR1.out.fresh hx).1)); clear hr2 ht2 ho2 HT1))
    go_ret
    exact ⟨_,rfl,by rw [HD.out,HX.out]; exact HR2.out,HT2.out⟩
   ·have HB2:=HB2.out (r+1)
    have HB2:Hid _:=HB2
    go_enter Tryz.func16,Tryz.ntmps16
    go_wp2_with (first
     | (go_at_call 40; refine HW.mono ?_; rintro e w' ⟨rfl,HT⟩; have HS1:Hid (PSrc w' (.slice (some ⟨g,0,none⟩) r c) (l.take r)):=psrc_take hr (fun i hi=>⟨HT.cell (HC.out i hi).1 (by simp),HT.cell (HC.out i hi).2 (by simp)⟩))
     | (at_builtin; refine wpList_apPairs (B:=w.heap.size) (v:=.slice none 0 0) (u:=.slice (some ⟨g,0,none⟩) r c) (l:=[]) (ms:=l.take r) rfl _ _ rfl rfl (PR.nil _ _) rfl HS1.out (HB1.out) HT.size ?_; intro v1 w1 hr1 ht1 ho1; have HR1:Hid (PR w.heap.size w1 v1 (l.take r)):=hr1; have HT1:Hid (Turned [] w w1):=HT.trans ht1; clear hr1 ht1 ho1 HT HS1; have HS2:Hid (PSrc w1 (.slice (some ⟨g,(r+1) * 2,none⟩) (l.length - (r+1)) (c - (r+1))) (l.drop (r+1))):=psrc_drop (fun i hi=>⟨HT1.out.cell (HC.out i hi).1 (by simp),HT1.out.cell (HC.out i hi).2 (by simp)⟩))
     | (at_builtin; refine wpList_apPairs (B:=w.heap.size) (l:=l.take r) (u:=.slice (some ⟨g,(r+1) * 2,none⟩) (l.length - (r+1)) (c - (r+1))) (ms:=l.drop (r+1)) rfl _ _ rfl rfl HR1.out rfl HS2.out (HB2.out) HT1.out.size ?_; intro v2 w2 hr2 ht2 ho2; have HR2:Hid _:=hr2; have HT2:Hid (Turned [] w w2):=HT1.out.inner ht2 (fun x hx=>(by simp at hx; exact .inr (HR1.out.fresh hx).1)); clear hr2 ht2 ho2 HT1))
    go_ret
    exact ⟨_,rfl,by rw [HD.out]; exact HR2.out,HT2.out⟩
end
end Go.Proofs.YtloljphbdfjgdaaGreatDoor
/- A trie by its laws: what the statements about it lean on. -/
namespace Go.Proofs.YtloljphbdfjgdaaGreatDoor
open Go.RowKit
structure IR (B:Nat) (w:World) (v:Value) (xs:List Int):Prop where
 own:w.ownsRow B 3 1 v xs.length (xs.map (.int .i64 ·))
theorem IR.nil (B:Nat) (w:World):IR B w (.slice none 0 0) []:=⟨World.ownsRow_nil _ _ _ _⟩
theorem IR.keep {B:Nat} {w w':World} {v:Value} {l:List Int} {F:List Nat} (h:IR B w v l) (ht:Turned F w w') (hF:∀ g,v.ownBlock=some g→g∉F):IR B w' v l:=by
 refine ⟨h.own.1,?_⟩
 rcases h.own.2 with h0 | ⟨g,c,cs,rfl,hb,hg,h3⟩
 ·exact .inl h0
 ·exact .inr ⟨g,c,cs,rfl,hb,ht.heap hg (hF g rfl),h3⟩
theorem IR.form {B:Nat} {w:World} {v:Value} {l:List Int} (h:IR B w v l):∃ a c,v=.slice a l.length c:=by
 rcases h.own.2 with ⟨rfl,h0⟩ | ⟨g,c,cs,rfl,_⟩
 ·exact ⟨none,0,by rw [h0]⟩
 ·exact ⟨_,_,rfl⟩
theorem IR.fresh {B:Nat} {w:World} {v:Value} {l:List Int} (h:IR B w v l) {g:Nat} (hg:v.ownBlock=some g):B≤g∧g < w.heap.size:=h.own.lt g hg

def rootO:Option Tr→Int
 | none=>0
 | some t=>t.hd
structure Holds (s:PSt) (o:Option Tr):Prop where
 wf:∀ t,o=some t→t.WF
 rep:∀ t,o=some t→Rep s t
theorem Holds.none (s:PSt):Holds s none:=⟨(fun _ h=>nomatch h),(fun _ h=>nomatch h)⟩
abbrev prs (o:Option Tr):List (Int × Int):=Tr.pairsO o
abbrev hsx (o:Option Tr):List Int:=Tr.hsO o
theorem Holds.rise {s:PSt} {o:Option Tr} (h:Holds s o):Rise (prs o):=by
 cases o with
 | none=>exact List.Pairwise.nil
 | some t=>exact (h.wf t rfl).rise
theorem Holds.nodup {s:PSt} {o:Option Tr} (h:Holds s o):(hsx o).Nodup:=by
 cases o with
 | none=>exact List.nodup_nil
 | some t=>exact (h.rep t rfl).nodup (h.wf t rfl)
theorem Holds.alive {s:PSt} {o:Option Tr} (h:Holds s o):∀ x∈hsx o,∃ n,Ct s x n:=by
 cases o with
 | none=>intro x hx; cases hx
 | some t=>intro x hx; obtain ⟨u,_,e,_⟩:=(h.rep t rfl).mem x hx; exact ⟨_,e⟩
theorem Holds.keep {s s':PSt} {o:Option Tr} (h:Holds s o) (hk:∀ x n,x∈hsx o→Ct s x n→Ct s' x n):Holds s' o :=
 ⟨h.wf,fun t e=>by subst e; exact (h.rep t rfl).keep hk⟩
theorem Holds.count (o:Option Tr):(hsx o).length=2 * (prs o).length - 1:=by
 cases o with
 | none=>rfl
 | some t =>
  have:=t.hs_length
  have:=t.cnt_pos
  simp only [hsx,prs,Tr.hsO,Tr.pairsO,Tr.cnt] at *
  omega

def isKey (k:Int):Prop:=0≤k∧k≤4294967295
structure Chg (s s':PSt) (St':List Nat) (it it':Nat):Prop where
 pv:PV s' St' it'
 it:it'≤it+200
 n:s'.n=s.n
 faults:s'.faults=s.faults
 ct:∀ h x,Ct s h x→Ct s' h x
structure Done (s s':PSt) (St St':List Nat) (o o':Option Tr) (root:Int) (gone made:List Int):Prop where
 holds:Holds s' o'
 root:root=rootO o'
 perm:(hsx o' ++ gone).Perm (hsx o ++ made)
 room:made.length+St'.length=St.length
 fresh:∀ h∈made,∀ x,¬ Ct s h x
 most:made.length≤34∧made.length≤gone.length+2
 of:∀ h∈gone,h∈hsx o
 one:gone.Nodup
structure Not (St St':List Nat) (root:Int) (gone made:List Int):Prop where
 root:root=0
 gone:gone=[]
 made:made=[]
 room:St'.length=St.length
inductive PutR (s s':PSt) (St St':List Nat) (o o':Option Tr) (k v:Int) (root old:Int) (had:Bool) (gone made:List Int):Int→Prop
 | bad:¬ isKey k→Not St St' root gone made→PutR s s' St St' o o' k v root old had gone made 120
 | full:isKey k→Not St St' root gone made→PutR s s' St St' o o' k v root old had gone made 102
 | done:isKey k→Done s s' St St' o o' root gone made→prs o'=insL (prs o) k v→had=(getL (prs o) k).isSome→old=(getL (prs o) k).getD 0→PutR s s' St St' o o' k v root old had gone made 0
inductive DropR (s s':PSt) (St St':List Nat) (o o':Option Tr) (k:Int) (root old:Int) (had:Bool) (gone made:List Int):Int→Prop
 | bad:¬ isKey k→Not St St' root gone made→DropR s s' St St' o o' k root old had gone made 120
 | none:isKey k→getL (prs o) k=none→Not St St' root gone made→DropR s s' St St' o o' k root old had gone made 122
 | full:isKey k→(getL (prs o) k).isSome→Not St St' root gone made→DropR s s' St St' o o' k root old had gone made 102
 | done:isKey k→(getL (prs o) k).isSome→Done s s' St St' o o' root gone made→prs o'=delL (prs o) k→had=true→old=(getL (prs o) k).getD 0→DropR s s' St St' o o' k root old had gone made 0
def Enterable (P:Program) (f:FuncId):Prop:=∃ fn c,P.funcs[f]?=some fn∧(fn.name == "runtime.NumGoroutine")=false∧fn.body=some c
abbrev pt (b:Nat):Value:=.pointer (some ⟨b,0,none⟩)
structure Taker (P:Program) (L:List (Int × Int)) (J:Nat→List Nat→World→Prop) (fy:FuncId) (cy:Array Value):Prop where
 ent:Enterable P fy
 keep:∀ {j G w2 l w3},J j G w2→Turned l w2 w3→(∀ x,x∈l→x∉G)→J j G w3
 lt:∀ {j G w2},J j G w2→∀ x,x∈G→x < w2.heap.size
 takes:∀ j (h:j < L.length) G w2,J j G w2→Calls P fy (#[.agg #[.int .i64 L[j].1,.int .i64 L[j].2],.int .i64 0] ++ cy) w2 fun e w3=>e=.returned (.bool true)∧Turned G w2 w3∧∃ G',J (j+1) G' w3∧Wider G G' w2
structure TrieLaws (At:World→Nat→List Nat→PSt→Prop) (Tb:World→Nat→Nat→Prop):Prop where
 keepT:∀ {w w':World} {tb p:Nat} {l:List Nat},Tb w tb p→Turned l w w'→tb∉l→0∉l→Tb w' tb p
 outT:∀ {w:World} {tb p:Nat} {F:List Nat} {s:PSt},Tb w tb p→At w p F s→0∉F
 ltT:∀ {w:World} {tb p:Nat},Tb w tb p→tb < w.heap.size
 new:∀ (w:World) (p:Nat),Tab w→Calls Tryz.prog 8 #[pt p] w fun e w'=>∃ tb,e=.returned (pt tb)∧Turned [] w w'∧Tb w' tb p∧w.heap.size≤tb
 put:∀ {w:World} {tb p:Nat} {F:List Nat} {s:PSt} {St:List Nat} {it:Nat} {o:Option Tr},At w p F s→Tb w tb p→tb∉F→PV s St it→it≤900000000→Holds s o→∀ k v:Int,
  Calls Tryz.prog 19 #[pt tb,.pointer none,.int .i64 (rootO o),.int .i64 k,.int .i64 v] w fun e w'=>∃ er root old had gv mv gone made s' F' St' it' o',e=.returned (.tuple #[.agg #[.int .i64 root,.int .i64 old,.bool had,gv,mv],.int .i64 er])∧Turned F w w'∧At w' p F' s'∧Wider F F' w∧tb∉F' ∧
   IR w.heap.size w' gv gone∧IR w.heap.size w' mv made∧(∀ g,gv.ownBlock=some g→g∉F')∧(∀ g,mv.ownBlock=some g→g∉F')∧Chg s s' St' it it'∧PutR s s' St St' o o' k v root old had gone made er
 drop:∀ {w:World} {tb p:Nat} {F:List Nat} {s:PSt} {St:List Nat} {it:Nat} {o:Option Tr},At w p F s→Tb w tb p→tb∉F→PV s St it→it≤900000000→Holds s o→∀ k:Int,
  Calls Tryz.prog 26 #[pt tb,.pointer none,.int .i64 (rootO o),.int .i64 k] w fun e w'=>∃ er root old had gv mv gone made s' F' St' it' o',e=.returned (.tuple #[.agg #[.int .i64 root,.int .i64 old,.bool had,gv,mv],.int .i64 er])∧Turned F w w'∧At w' p F' s'∧Wider F F' w∧tb∉F' ∧
   IR w.heap.size w' gv gone∧IR w.heap.size w' mv made∧(∀ g,gv.ownBlock=some g→g∉F')∧(∀ g,mv.ownBlock=some g→g∉F')∧Chg s s' St' it it'∧DropR s s' St St' o o' k root old had gone made er
end Go.Proofs.YtloljphbdfjgdaaGreatDoor

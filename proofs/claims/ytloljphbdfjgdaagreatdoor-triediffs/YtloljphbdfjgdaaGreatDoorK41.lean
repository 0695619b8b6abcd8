/- A set of numbers as a map from numbers to bools that the call made: look-up, store, delete, len; nothing of the program. -/
import Derived.Test.YtloljphbdfjgdaaGreatDoorK04
import Derived.ProofKit
import Derived.Maps.Own
import Derived.Test.YtloljphbdfjgdaaGreatDoorK40
namespace Go.Proofs.YtloljphbdfjgdaaGreatDoor
open Go.RowKit
structure MS (w:World) (b:Nat) (S:List Int):Prop where
 ex:∃ es clock,w.heap[b]?=some (.map es clock)∧es.toList.map (fun e=>(e.key,e.val))=S.map (fun k=>(Value.int .i64 k,Value.bool true))
theorem MS.keep {l:List Nat} {w w':World} {b:Nat} {S:List Int} (h:MS w b S) (ht:Turned l w w') (hb:b∉l):MS w' b S:=by
 obtain ⟨es,c,h1,h2⟩:=h.ex
 exact ⟨es,c,ht.heap h1 hb,h2⟩
theorem MS.made (w:World):MS (w.alloc (.map #[] 0)) w.heap.size []:=⟨#[],0,blk_new _ _,rfl⟩
theorem MS.lt {w:World} {b:Nat} {S:List Int} (h:MS w b S):b < w.heap.size:=by
 obtain ⟨es,c,h1,-⟩:=h.ex
 exact lt_of_heap h1
section
variable {P:Program} {w:World} {b:Nat} {S:List Int} {t kt et:TypeId}
end
end Go.Proofs.YtloljphbdfjgdaaGreatDoor
/- Numbers that are taken out of a list one behind the other: nothing of the program. -/
namespace Go.Proofs.YtloljphbdfjgdaaGreatDoor
def erL (x g:List Int):List Int:=g.foldl List.erase x
theorem erL_mem:∀ (g x:List Int),x.Nodup→∀ a,a∈erL x g↔a∈x∧a∉g
 | [],x,h,a=>by simp [erL]
 | b :: g,x,h,a=>by
  have ih:=erL_mem g (x.erase b) (h.erase b) a
  show a∈erL (x.erase b) g↔_
  rw [ih,h.mem_erase_iff]
  simp only [List.mem_cons,not_or]
  constructor
  ·rintro ⟨⟨h1,h2⟩,h3⟩; exact ⟨h2,h1,h3⟩
  ·rintro ⟨h1,h2,h3⟩; exact ⟨⟨h2,h1⟩,h3⟩
theorem erL_len:∀ (g x:List Int),x.Nodup→g.Nodup→(∀ a∈g,a∈x)→(erL x g).length+g.length=x.length
 | [],x,_,_,_=>by simp [erL]
 | b :: g,x,hx,hg,hs=>by
  have hg2:=List.nodup_cons.1 hg
  have ih:=erL_len g (x.erase b) (hx.erase b) hg2.2 (fun a ha=>by
   rw [hx.mem_erase_iff]
   exact ⟨fun e=>hg2.1 (e ▸ ha),hs a (by simp [ha])⟩)
  have hl:=List.length_erase_of_mem (hs b (by simp))
  have hp:=List.length_pos_of_mem (hs b (by simp))
  show (erL (x.erase b) g).length+(b :: g).length=x.length
  simp only [List.length_cons]
  omega
structure Shr (x y gone made:List Int):Prop where
 x1:x.Nodup
 g1:gone.Nodup
 g2:∀ a∈gone,a∈x
 m1:made.Nodup
 m2:∀ a∈made,a∉x
 y1:∀ a∈y,a∈erL x gone ++ made
 len:y.length=(erL x gone ++ made).length
theorem Shr.of {x y gone made:List Int} (hx:x.Nodup) (hy:y.Nodup) (hg:gone.Nodup) (hgx:∀ a∈gone,a∈x) (hgy:∀ a∈y,a∉gone) (hp:(y ++ gone).Perm (x ++ made)):Shr x y gone made:=by
 have h1:(y ++ gone).Nodup:=List.nodup_append.2 ⟨hy,hg,fun a ha b hb e=>by subst e; exact hgy a ha hb⟩
 have h2:=(hp.nodup_iff).1 h1
 obtain ⟨-,hm,hd⟩:=List.nodup_append.1 h2
 have hl:=hp.length_eq
 simp only [List.length_append] at hl
 have he:=erL_len gone x hx hg hgx
 refine ⟨hx,hg,hgx,hm,fun a ha hx'=>hd a hx' a ha rfl,fun a ha=>?_,by rw [List.length_append]; omega⟩
 have hmem:a∈x ++ made:=hp.mem_iff.1 (by simp [ha])
 rw [List.mem_append] at hmem ⊢
 rw [erL_mem _ _ hx]
 rcases hmem with h | h
 ·exact .inl ⟨h,hgy a ha⟩
 ·exact .inr h
end Go.Proofs.YtloljphbdfjgdaaGreatDoor
/- Versions of a map as TrieMaps and TrieDiffs hold them: rows in memory; many trees in one pool. -/
namespace Go.Proofs.YtloljphbdfjgdaaGreatDoor
open Go.RowKit
structure Vr where
 o:Option Tr
 v:Value
def rowV (r:Vr):List Value:=[.int .i64 (rootO r.o),r.v]
theorem rowsV_len (R:List Vr):(R.flatMap rowV).length=R.length * 2:=by
 induction R with
 | nil=>rfl
 | cons x l ih=>rw [List.flatMap_cons,List.length_append,ih,List.length_cons]; simp only [rowV,List.length_cons,List.length_nil]; omega
structure Rw (B:Nat) (w:World) (v:Value) (R:List Vr):Prop where
 own:w.ownsRow B 33 2 v R.length (R.flatMap rowV)
 one:∀ r∈R,r.v.oneCell'=true
section
variable {B:Nat} {w w':World} {v:Value} {R:List Vr}
theorem Rw.keep {F:List Nat} (h:Rw B w v R) (ht:Turned F w w') (hF:∀ g,v.ownBlock=some g→g∉F):Rw B w' v R:=by
 refine ⟨⟨h.own.1,?_⟩,h.one⟩
 rcases h.own.2 with h0 | ⟨g,c,cs,rfl,hb,hg,h3⟩
 ·exact .inl h0
 ·exact .inr ⟨g,c,cs,rfl,hb,ht.heap hg (hF g rfl),h3⟩
theorem Rw.still (h:Rw B w v R) (ht:Turned [] w w'):Rw B w' v R:=h.keep ht (by simp)
theorem Rw.keptT (h:Rw B w v R) (hk:KeepT w w'):Rw B w' v R:=by
 refine ⟨⟨h.own.1,?_⟩,h.one⟩
 rcases h.own.2 with h0 | ⟨g,c,cs,rfl,hb,hg,h3⟩
 ·exact .inl h0
 ·exact .inr ⟨g,c,cs,rfl,hb,hk.blk _ _ _ (by decide) hg,h3⟩
theorem Rw.beside (h:Rw B w v R) {b:Nat} {cs:Array Value} {T:TypeId} (hb:w.heap[b]?=some (.cells cs T (0,0))) (hT:T≠33) (ht:Turned [b] w w'):Rw B w' v R:=by
 refine h.keep ht (fun g hg hm=>?_)
 rcases h.own.2 with ⟨h0,_⟩ | ⟨g',c,cs',hv,_,hg',_⟩
 ·rw [h0] at hg; cases hg
 ·rw [hv] at hg; cases hg
  simp at hm; subst hm
  exact other_type hg' hb (fun e=>hT e.symm) rfl
theorem Rw.form (h:Rw B w v R):∃ a c,v=.slice a R.length c:=by
 rcases h.own.2 with ⟨rfl,h0⟩ | ⟨g,c,cs,rfl,_⟩
 ·exact ⟨none,0,by rw [h0]⟩
 ·exact ⟨_,_,rfl⟩
theorem Rw.fresh (h:Rw B w v R) {g:Nat} (hg:v.ownBlock=some g):B≤g∧g < w.heap.size:=h.own.lt g hg
theorem Rw.type (h:Rw B w v R) {g:Nat} (hg:v.ownBlock=some g):∃ cs,w.heap[g]?=some (.cells cs 33 (0,0)):=by
 rcases h.own.2 with ⟨rfl,h0⟩ | ⟨g',c,cs,rfl,hb,hg',h3⟩
 ·cases hg
 ·cases hg; exact ⟨cs,hg'⟩
theorem Rw.cell {g c k:Nat} (h:Rw B w (.slice (some ⟨g,0,none⟩) R.length c) R) (hk:k < R.length):w.cell? ⟨g,k * 2,none⟩=some (.int .i64 (rootO R[k].o))∧w.cell? ⟨g,k * 2+1,none⟩=some R[k].v:=by
 have key:∀ j,j < 2→w.cell? ⟨g,k * 2+j,none⟩=(rowV R[k])[j]?:=fun j hj=>by
  rw [h.own.cellAt _ (by omega)]
  have e:R=R.take k ++ R[k] :: R.drop (k+1):=by rw [← List.drop_eq_getElem_cons hk,List.take_append_drop]
  have hl:((R.take k).flatMap rowV).length=k * 2:=by rw [rowsV_len,List.length_take,Nat.min_eq_left (by omega)]
  have:(R.flatMap rowV)[k * 2+j]?=((R.take k).flatMap rowV ++ (rowV R[k] ++ (R.drop (k+1)).flatMap rowV))[k * 2+j]?:=by
   conv=>lhs; rw [e]
   rw [List.flatMap_append,List.flatMap_cons]
  rw [this,List.getElem?_append_right (by omega),hl,show k * 2+j - k * 2=j by omega,List.getElem?_append_left (by simp only [rowV,List.length_cons,List.length_nil]; omega)]
 exact ⟨key 0 (by omega),key 1 (by omega)⟩
theorem Rw.isAt (h:Rw B w v R) {k:Nat} (hk:k < R.length):∃ g c,v=.slice (some ⟨g,0,none⟩) R.length c∧w.cell? ⟨g,k * 2,none⟩=some (.int .i64 (rootO R[k].o))∧w.cell? ⟨g,k * 2+1,none⟩=some R[k].v:=by
 rcases h.own.2 with ⟨rfl,h0⟩ | ⟨g,c,cs,rfl,hb,hg,h3⟩
 ·omega
 ·exact ⟨g,c,rfl,Rw.cell h hk⟩
end
theorem infoVr:(Tryz.prog.info? 33).map (fun i=>(i.zero,i.size,i.bytes))=some (some (.agg #[.int .i64 0,.slice none 0 0]),2,32):=by kernel_rfl
theorem undVrs:Tryz.prog.underlying 34=some (.slice 33):=by kernel_rfl
theorem wpList_apVr {w:World} {ops:Array Oper} {rest:List Oper} {o:Oper} {a:Act} {Q:Exit→Act→World→Prop} {B:Nat} {v:Value} {r:Vr} {R:List Vr} {g:Nat} (hgd:o.guard=none) (p q:Operand) (ho:o.op=.call { callee:=.builtin .append,args:=#[p,q],argTypes:=#[34,34] })
  (hs:a.eval p=v) (hR:Rw B w v R) (hy:a.eval q=.slice (some ⟨g,0,none⟩) 1 1) (hg:w.heap[g]?=some (.cells #[.int .i64 (rootO r.o),r.v] 33 (0,0))) (hone:r.v.oneCell'=true) (hm:R.length≤10000) (hB:B≤w.heap.size)
  (h:∀ v' w',Rw B w' v' (R ++ [r])→Turned v.ownBlock.toList w w'→(v'.ownBlock=v.ownBlock∨v'.ownBlock=some w.heap.size)→wpList Tryz.prog ops Q rest (a.put o.dst v') w'):wpList Tryz.prog ops Q (o :: rest) a w:=by
 obtain ⟨i,hi,hzz⟩:=Option.map_eq_some_iff.1 infoVr
 simp only [Prod.mk.injEq] at hzz
 obtain ⟨hz,hs1,hb⟩:=hzz
 refine wpList_plain hgd fun K hK=>?_
 obtain ⟨v',w',hrun,h2,h3,h4,h5⟩:=run_append_own_at (P:=Tryz.prog) w B 34 o.type 33 i _ 2 32 undVrs hi hz hs1 hb rfl (by decide) v R.length (R.flatMap rowV) hR.own ⟨g,0,none⟩ 1 1 (rowV r) rfl (fun j u hj=>by
  have hadd:(⟨g,0,none⟩:Addr).add j=⟨g,j,none⟩:=by unfold Addr.add; split <;> simp_all
  rw [hadd,cell_at hg j]
  simpa [rowV] using hj) (fun u hu=>by
   simp only [rowV,List.mem_cons,List.not_mem_nil,or_false] at hu
   rcases hu with rfl | rfl
   ·rfl
   ·exact hone) (by unfold maxLen; omega) (by omega) hB
 unfold Oper.wp execOp
 simp only [ho,resolve,invoke,builtin,Sem.run_bind,Sem.run_pure,Result.andThen_ok,List.map_toArray,List.map_cons,List.map_nil,hs,hy,hrun]
 refine hK _ _ (h v' w' ⟨by rw [show (R ++ [r]).length=R.length+1 by simp,show (R ++ [r]).flatMap rowV=R.flatMap rowV ++ rowV r by simp]; exact h2,fun q hq=>?_⟩ ⟨h3.os,h3.tape,h3.output,h3.size,fun k hk hn=>h3.block k hk fun e=>hn (by rw [← e]; simp)⟩ h5)
 simp only [List.mem_append,List.mem_singleton] at hq
 rcases hq with hq | rfl
 ·exact hR.one q hq
 ·exact hone
def turnC (by_:Int) (len:Nat):Nat:=((by_.tmod (len:Int)+len).tmod (len:Int)).toNat
theorem turn_ok {by_:Int} {len:Nat} (h:0 < len):-(len:Int) < by_.tmod len∧by_.tmod (len:Int) < len∧(by_.tmod (len:Int)+len).tmod (len:Int)=turnC by_ len∧turnC by_ len < len:=by
 have hp:(0:Int) < len:=by omega
 have h1:by_.tmod (len:Int) < len:=Int.tmod_lt_of_pos _ hp
 have h2:-(len:Int) < by_.tmod len:=Int.lt_tmod_of_pos _ hp
 have h3:(by_.tmod (len:Int)+len).tmod (len:Int)=(by_.tmod (len:Int)+len) % (len:Int):=Int.tmod_eq_emod_of_nonneg (by omega)
 have h4:0≤(by_.tmod (len:Int)+len) % (len:Int):=Int.emod_nonneg _ (by omega)
 have h5:(by_.tmod (len:Int)+len) % (len:Int) < len:=Int.emod_lt_of_pos _ hp
 unfold turnC
 rw [h3]
 omega
structure ChgsAt (W:World) (la:Option Addr) (ll:Nat):Prop where
 at_:∀ j,j < ll→∃ qb qo cf ky vy cd,la=some ⟨qb,qo,none⟩∧W.cell? ⟨qb,qo+j * 4,none⟩=some (.int .i64 cf)∧W.cell? ⟨qb,qo+j * 4+1,none⟩=some (.int .i64 ky)∧W.cell? ⟨qb,qo+j * 4+2,none⟩=some (.int .i64 vy)∧W.cell? ⟨qb,qo+j * 4+3,none⟩=some (.bool cd)
/-! ### Many trees in one pool -/
structure MVx (W x:World) (p tb m it:Nat) (vs:List Vr) (F:List Nat) (s:PSt) (St:List Nat) (it0:Nat):Prop where
 at_:AtZ x p F s
 tb_:TrieB x tb p
 ntb:tb∉F
 pv:PV s St it0
 it_:it0≤it
 holds:∀ q∈vs,Holds s q.o
 rows:∀ q∈vs,PR W.heap.size x q.v (prs q.o)
 lens:∀ q∈vs,(prs q.o).length≤m
 faults:s.faults=0
 tw:Turned [] W x
 low:∀ z,z∈F→W.heap.size≤z
structure MV (W x:World) (p tb m it:Nat) (vs:List Vr):Prop where
 ex:∃ F s St it0,MVx W x p tb m it vs F s St it0
section
variable {W x x':World} {p tb m it it':Nat} {vs:List Vr} {q q':Vr}
theorem PR.other {B b:Nat} {x x':World} {v:Value} {l:List (Int × Int)} {cs:Array Value} {T:TypeId} (h:PR B x v l) (hb:x.heap[b]?=some (.cells cs T (0,0))) (hT:T≠60) (ht:Turned [b] x x'):PR B x' v l:=by
 refine h.keep ht fun g hg hm=>?_
 rcases h.own.2 with ⟨rfl,h0⟩ | ⟨g',c,cs',rfl,_,hg',_⟩
 ·cases hg
 ·cases hg
  simp at hm; subst hm
  exact other_type hg' hb (fun e=>hT e.symm) rfl
theorem IR.other {B b:Nat} {x x':World} {v:Value} {l:List Int} {cs:Array Value} {T:TypeId} (h:IR B x v l) (hb:x.heap[b]?=some (.cells cs T (0,0))) (hT:T≠3) (ht:Turned [b] x x'):IR B x' v l:=by
 refine h.keep ht fun g hg hm=>?_
 obtain ⟨cs',hg'⟩:=h.type hg
 simp at hm; subst hm
 exact other_type hg' hb (fun e=>hT e.symm) rfl
theorem IR.keptT {B:Nat} {x x':World} {v:Value} {l:List Int} (h:IR B x v l) (hk:KeepT x x'):IR B x' v l:=by
 refine ⟨h.own.1,?_⟩
 rcases h.own.2 with h0 | ⟨g,c,cs,rfl,hb,hg,h3⟩
 ·exact .inl h0
 ·exact .inr ⟨g,c,cs,rfl,hb,hk.blk _ _ _ (by decide) hg,h3⟩
theorem MV.still (h:MV W x p tb m it vs) (ht:Turned [] x x'):MV W x' p tb m it vs:=by
 obtain ⟨F,s,St,it0,h⟩:=h.ex
 exact ⟨F,s,St,it0,⟨poolLawsZ.keep h.at_ ht (by simp),h.tb_.still ht,h.ntb,h.pv,h.it_,h.holds,fun q hq=>(h.rows q hq).keep ht (by simp),h.lens,h.faults,h.tw.trans ht,h.low⟩⟩
theorem MV.turned (h:MV W x p tb m it vs):Turned [] W x:=by
 obtain ⟨F,s,St,it0,h⟩:=h.ex
 exact h.tw
theorem MV.row (h:MV W x p tb m it vs) (hq:q∈vs):PR W.heap.size x q.v (prs q.o):=by
 obtain ⟨F,s,St,it0,h⟩:=h.ex
 exact h.rows q hq
theorem MV.len (h:MV W x p tb m it vs) (hq:q∈vs):(prs q.o).length≤m:=by
 obtain ⟨F,s,St,it0,h⟩:=h.ex
 exact h.lens q hq
theorem MV.rise (h:MV W x p tb m it vs) (hq:q∈vs):Rise (prs q.o):=by
 obtain ⟨F,s,St,it0,h⟩:=h.ex
 exact (h.holds q hq).rise
theorem MV.more (h:MV W x p tb m it vs) (hi:it≤it') {m':Nat} (hm:m≤m'):MV W x p tb m' it' vs:=by
 obtain ⟨F,s,St,it0,h⟩:=h.ex
 exact ⟨F,s,St,it0,⟨h.at_,h.tb_,h.ntb,h.pv,Nat.le_trans h.it_ hi,h.holds,h.rows,fun q hq=>Nat.le_trans (h.lens q hq) hm,h.faults,h.tw,h.low⟩⟩
theorem MV.write (h:MV W x p tb m it vs) {b:Nat} {cs:Array Value} {T:TypeId} (hb:x.heap[b]?=some (.cells cs T (0,0))) (hT:T∉([86,93,156,84,89]:List TypeId)) (hT2:T≠96) (hT3:T≠60) (hp:0 < W.heap.size) (hw:W.heap.size≤b) (ht:Turned [b] x x'):MV W x' p tb m it vs:=by
 obtain ⟨F,s,St,it0,h⟩:=h.ex
 have n1:b≠tb:=other_type hb h.tb_.blk hT2
 exact ⟨F,s,St,it0,⟨poolLawsZ.keep h.at_ ht (fun z hz hm=>by simp at hz; subst hz; exact poolAt_other h.at_.1 hb hT hm),h.tb_.keep ht (by simp; exact fun e=>n1 e.symm) (by simp; omega),h.ntb,h.pv,h.it_,h.holds,fun q hq=>(h.rows q hq).other hb hT3 ht,h.lens,h.faults,h.tw.inner ht (fun z hz=>by simp at hz; subst hz; exact .inr hw),h.low⟩⟩
inductive CP (W x:World) (p tb m it:Nat) (vs:List Vr) (q:Vr) (l':List (Int × Int)) (d:MdV) (y:World):Prop
 | not:d.pv=.pointer none→MV W y p tb m it vs→CP W x p tb m it vs q l' d y
 | done (nb:Nat) (q':Vr) (gone made:List Int):d.pv=pa nb 0→y.heap[nb]?=some (verObj (rootO q'.o) q'.v)→x.heap.size≤nb→MV W y p tb (m+1) it (vs ++ [q'])→prs q'.o=l'→d.gl=gone.length→d.ml=made.length→IR 0 y (.slice d.ga d.gl d.gc) gone→IR 0 y (.slice d.ma d.ml d.mc) made→Shr (hsx q.o) (hsx q'.o) gone made→made.length≤34→made.length≤gone.length+2→CP W x p tb m it vs q l' d y
theorem CP.still {l':List (Int × Int)} {d:MdV} {x0:World} (h:CP W x0 p tb m it vs q l' d x) (ht:Turned [] x x'):CP W x0 p tb m it vs q l' d x':=by
 cases h with
 | not h1 h2=>exact .not h1 (h2.still ht)
 | done nb q' gone made h1 h2 h3 h4 h5 h6 h7 h8 h9 h10 h11 h12=>exact .done nb q' gone made h1 (ht.heap h2 (by simp)) h3 (h4.still ht) h5 h6 h7 (h8.keep ht (by simp)) (h9.keep ht (by simp)) h10 h11 h12
theorem CP.write {l':List (Int × Int)} {d:MdV} {x0:World} {b:Nat} {cs:Array Value} (h:CP W x0 p tb m it vs q l' d x) (hb:x.heap[b]?=some (.cells cs 40 (0,0))) (hp:0 < W.heap.size) (hw:W.heap.size≤b) (ht:Turned [b] x x'):CP W x0 p tb m it vs q l' d x':=by
 have no:∀ {g:Nat} {cs':Array Value} {T:TypeId},x.heap[g]?=some (.cells cs' T (0,0))→T≠40→g∉[b]:=fun hg hT hm=>by
  simp only [List.mem_singleton] at hm
  subst hm
  exact other_type hg hb hT rfl
 cases h with
 | not h1 h2=>exact .not h1 (h2.write hb (by decide) (by decide) (by decide) hp hw ht)
 | done nb q' gone made h1 h2 h3 h4 h5 h6 h7 h8 h9 h10 h11 h12=>exact .done nb q' gone made h1 (ht.heap h2 (no h2 (by decide))) h3 (h4.write hb (by decide) (by decide) (by decide) hp hw ht) h5 h6 h7 (h8.other hb (by decide) ht) (h9.other hb (by decide) ht) h10 h11 h12
theorem delL_le (l:List (Int × Int)) (k:Int):(delL l k).length≤l.length:=by
 cases h:getL l k with
 | none=>rw [delL_none h]; exact Nat.le_refl _
 | some v=>have:=delL_length (l:=l) (k:=k) (by rw [h]; rfl); omega
theorem chgL_len (l:List (Int × Int)) (k v:Int) (d:Bool):(chgL l k v d).length≤l.length+1:=by
 unfold chgL
 split
 ·have:=delL_le l k; omega
 ·have:=insL_length (l:=l) (k:=k) (v:=v)
  split at this <;> omega
theorem mChanged (h:MV W x p tb m it vs) (hit:it≤800000000) (hm:m≤1000) (hq:q∈vs) (cf key val:Int) (d:Bool) :
  Calls Tryz.prog 9 #[pt p,pt tb,.agg #[.int .i64 (rootO q.o),q.v],.agg #[.int .i64 cf,.int .i64 key,.int .i64 val,.bool d]] x fun e x'=>∃ v:MdV,e=.returned (.tuple #[v.pv,.agg #[.int .i64 v.root,.int .i64 v.old,.bool v.had,.slice v.ga v.gl v.gc,.slice v.ma v.ml v.mc],.bool true])∧KeepT x x'∧CP W x p tb m (it+200) vs q (chgL (prs q.o) key val d) v x':=by
 obtain ⟨F,s,St,it0,h⟩:=h.ex
 have hi0:=h.it_
 have hsz:=h.tw.size
 refine (cChanged poolLawsZ trieLaws h.at_ h.tb_ h.ntb h.pv (by omega) (h.holds q hq) (h.rows q hq) ((h.rows q hq).offPool h.at_) (by have:=h.lens q hq; omega) cf key val d).mono ?_
 rintro e x' ⟨pv,ev,s',F',St',it2,rfl,ht,hA,hW,htb,hC,hcase⟩
 have hit2:=hC.it
 have low':∀ z,z∈F'→W.heap.size≤z:=fun z hz=>by
  rcases hW z hz with e | e
  ·exact h.low z e
  ·omega
 have hb:MVx W x' p tb m (it+200) vs F' s' St' it2:=⟨hA,h.tb_.keep ht h.ntb h.at_.2,htb,hC.pv,by omega,fun r hr=>(h.holds r hr).keep fun a b _ hc=>hC.ct a b hc,fun r hr=>(h.rows r hr).keep ht ((h.rows r hr).offPool h.at_),h.lens,by rw [hC.faults]; exact h.faults,h.tw.inner ht (fun z hz=>.inr (h.low z hz)),low'⟩
 rcases hcase with ⟨rfl,hS,r,od,hd,ga,gl,gc,ma,ml,mc,rfl⟩ | ⟨nb,root,old,had,gv,mv,gone,made,o',v,rfl,rfl,hnb,hnl,hnF,hR,hRF,hG,hGF,hD,hprs,hMd,hMF,ma,ml,mc,rfl⟩
 ·exact ⟨⟨.pointer none,r,od,hd,ga,gl,gc,ma,ml,mc⟩,rfl,keepT_pool h.at_ ht,.not rfl ⟨F',s',St',it2,hb⟩⟩
 ·obtain ⟨ga,gc,rfl⟩:=hG.form
  have hml:ml=made.length:=by
   obtain ⟨a2,c2,e2⟩:=hMd.form
   cases e2; rfl
  refine ⟨⟨pa nb 0,root,old,had,ga,gone.length,gc,ma,ml,mc⟩,rfl,keepT_pool h.at_ ht,.done nb ⟨o',v⟩ gone made rfl (by rw [← hD.root]; exact hnb) hnl ⟨F',s',St',it2,⟨hb.at_,hb.tb_,hb.ntb,hb.pv,hb.it_,fun r hr=>?_,fun r hr=>?_,fun r hr=>?_,hb.faults,hb.tw,hb.low⟩⟩ hprs rfl hml (hG.lower (Nat.zero_le _)) (hMd.lower (Nat.zero_le _)) ?_ hD.most.1 hD.most.2⟩
  ·simp only [List.mem_append,List.mem_singleton] at hr
   rcases hr with hr | rfl
   ·exact hb.holds r hr
   ·exact hD.holds
  ·simp only [List.mem_append,List.mem_singleton] at hr
   rcases hr with hr | rfl
   ·exact hb.rows r hr
   ·exact hR.lower hsz
  ·simp only [List.mem_append,List.mem_singleton] at hr
   rcases hr with hr | rfl
   ·have:=h.lens r hr; omega
   ·have hl:=h.lens q hq
    rw [hprs]
    have:=chgL_len (prs q.o) key val d
    omega
  ·exact Shr.of (h.holds q hq).nodup hD.holds.nodup hD.one hD.of (fun a ha hg=>Done.apart (h.holds q hq) hD a ha hg) hD.perm
end
end Go.Proofs.YtloljphbdfjgdaaGreatDoor

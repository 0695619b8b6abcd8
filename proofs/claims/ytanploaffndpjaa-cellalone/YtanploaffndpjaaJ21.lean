/- CellAlone: for every two numbers and every list of calls the law returns true, under every schedule of the goroutines that it runs; no condition beside the row's own. -/
import Derived.Test.YtanploaffndpjaaJ20
import Derived.Test.YtanploaffndpjaaRows
import Derived.Conc.LeavingOf
import Derived.Deep.SlicePairs
import Derived.SizedLaws
set_option maxRecDepth 100000
set_option linter.unusedVariables false
set_option linter.unusedSimpArgs false
namespace Go.Proofs.Ytanploaffndpjaa
open Go Go.Blind Go.Conc Go.RowKit
def C6 (n m:Nat)(a:Act)(v:World):Prop:=∃ xb b yb c,a.eval (.tmp 7)=.pointer (some ⟨xb,0,none⟩)∧a.eval (.tmp 9)=.pointer (some ⟨yb,0,none⟩)∧CA v xb b n (madeCells #[.int .i64 0] n)∧CA v yb c m (madeCells #[.int .i64 0] m)∧b≠xb∧c≠yb∧xb≠yb∧xb≠c∧b≠yb∧b≠c
theorem CA.still {v v':World}{xb b n:Nat}{cs:Array Value}(h:CA v xb b n cs)(ht:au [] v v'):CA v' xb b n cs:=⟨ht.heap h.x ah,ht.heap h.c ah,h.size⟩
theorem Ja (v:World)(n:Nat):CA ((v.alloc (.cells (madeCells #[.int .i64 0] n) 62 (0,0))).alloc (.cells #[.slice (some ⟨v.heap.size,0,none⟩) n n] 53 (0,0))) (v.heap.size+1) v.heap.size n (madeCells #[.int .i64 0] n) :=
 ⟨heap_alloc2_new _ _ _,jU (nY _ _) _,VA⟩
section
variable {n m len cap N:Nat}{oa:Option Addr}{F M:Nat→Prop}{X:List (Nat×Obj)}{a:Act}{w:World}{S:ai}{Q:aZ}
theorem Xb (hA:qQ X N oa len)(hlen:len≤300)(hn1:1≤n)(hn:n≤256)(hm1:1≤m)(hm:m≤256)(h:St Try.prog GV N F X (fun a _=>B0 (n:Nat) (m:Nat) oa len cap a) M a w)(hk:∀ M a w,St Try.prog GV N F X (fun a v=>a.tmps.size=143∧a.defers=[]∧a.eval (.tmp 6)=.bool true) M a w→Q .ret S M a w) :
  aM Try.prog true 3 .normal (.seq (.region 5 (aL 5 Try.f3.body) false) (.seq (.region 6 (aL 6 Try.f3.body) false) (.seq (.seq (.region 7 (aL 7 Try.f3.body) false) (.cond (.tmp 74) (.seq (.region 8 (aL 8 Try.f3.body) false) .ret) .skip)) (.seq (.seq (.region 9 (aL 9 Try.f3.body) false) (.cond (.tmp 82) (.seq (.region 10 (aL 10 Try.f3.body) false) .ret) .skip)) (.seq (.region 11 (aL 11 Try.f3.body) true) (.seq (.seq (.region 12 (aL 12 Try.f3.body) false) (.block 0 (.loop (.seq (.seq (.region 13 (aL 13 Try.f3.body) false) (.cond (.tmp 90) .skip (.exit 0))) (.seq (.block 1 (.seq (.region 15 (aL 15 Try.f3.body) false) (.seq (.seq (.region 16 (aL 16 Try.f3.body) false) (.cond (.tmp 100) (.region 17 (aL 17 Try.f3.body) false) .skip)) (.seq (.region 18 (aL 18 Try.f3.body) false) (.cond (.tmp 110) (.seq (.region 19 (aL 19 Try.f3.body) false) .ret) .skip))))) (.region 14 (aL 14 Try.f3.body) false)))))) (.seq (.region 20 (aL 20 Try.f3.body) false) (.seq (ug Try.f3.body [1,1,1,1,1,1,1,1,1,1,0]) (.seq (.region 25 (aL 25 Try.f3.body) false) .ret))))))))) Q S M a w:=by
 refine ak (gF gu gG (gY ah) h (Ψ:=fun a v=>B0 (n:Nat) (m:Nat) oa len cap a∧a.eval (.tmp 8)=.int .i64 0∧∃ xb b,a.eval (.tmp 7)=.pointer (some ⟨xb,0,none⟩)∧CA v xb b n (madeCells #[.int .i64 0] n)∧b≠xb) (fun a v τ q=>?_) fun M a w g1=>?_)
 ·exact IV q.s q.d q.x0 q.x1 q.x2 hn1 hn fun a' s d e0 e1 e2 e7 e8=>⟨rfl,⟨s,d,e0,e1,e2⟩,e8,_,_,e7,Ja _ _,ag⟩
 refine ak (gF gu gG (gY ah) g1 (Ψ:=fun a v=>B0 (n:Nat) (m:Nat) oa len cap a∧a.eval (.tmp 8)=.int .i64 0∧a.eval (.tmp 10)=.int .i64 0∧C6 n m a v) (fun a v τ q=>?_) fun M a w g2=>?_)
 ·obtain ⟨q,q8,xb,b,q7,hC,hne⟩:=q
  have l1:=lt_of_heap hC.x
  have l2:=lt_of_heap hC.c
  refine IW q.s q.d q.x0 q.x1 q.x2 q7 q8 hm1 hm fun a' s d e0 e1 e2 e7 e8 e9 e10=>⟨rfl,⟨s,d,e0,e1,e2⟩,e8,e10,xb,b,_,_,e7,e9,(hC.tp τ).still (((au.refl _ _).alloc _).alloc _),Ja _ _,hne,ag,?_,?_,?_,?_⟩
  ·exact Nat.ne_of_lt (Nat.lt_succ_of_lt l1)
  ·exact Nat.ne_of_lt l1
  ·exact Nat.ne_of_lt (Nat.lt_succ_of_lt l2)
  ·exact Nat.ne_of_lt l2
 refine ak (ak (gF gu gG (gY ah) g2 (Ψ:=fun a v=>B0 (n:Nat) (m:Nat) oa len cap a∧a.eval (.tmp 8)=.int .i64 0∧a.eval (.tmp 10)=.int .i64 0∧C6 n m a v∧a.eval (.tmp 74)=.bool false) (fun a v τ q=>?_) fun M a w g3=>?_))
 ·obtain ⟨q,q8,fq,xb,b,yb,c,q7,q9,r1,r2,r3⟩:=q
  exact VK q.s q.d q.x0 q.x1 q.x2 q7 q9 q8 fq ag ag ag ag fun a' s d e0 e1 e2 e7 e9 e8 e10 iD=>⟨rfl,⟨s,d,e0,e1,e2⟩,e8,e10,⟨xb,b,yb,c,e7,e9,r1.tp τ,r2.tp τ,r3⟩,iD⟩
 refine lH (t:=false) (g3.eval (k:=74) (fG.bool _) fun a v q=>q.2.2.2.2) ?_
 refine bS (ak (ak (gF gu gG (gY ah) g3 (Ψ:=fun a v=>B0 (n:Nat) (m:Nat) oa len cap a∧C6 n m a v∧a.eval (.tmp 82)=.bool false) (fun a v τ q=>?_) fun M a w g4=>?_)))
 ·obtain ⟨q,q8,fq,⟨xb,b,yb,c,q7,q9,r1,r2,r3⟩,_⟩:=q
  exact VV q.s q.d q.x0 q.x1 q.x2 q7 q9 q8 fq fun a' s d e0 e1 e2 e7 e9 qR=>⟨rfl,⟨s,d,e0,e1,e2⟩,⟨xb,b,yb,c,e7,e9,r1.tp τ,r2.tp τ,r3⟩,qR⟩
 refine lH (t:=false) (g4.eval (k:=82) (fG.bool _) fun a v q=>q.2.2) ?_
 refine bS (ak (gF gu gG WN g4 (Ψ:=fun a v=>∃ xb b ab yb c bb cs ds,qP n m oa len cap xb b ab yb c bb cs ds a v) (fun a v τ q=>?_) fun M a w g5=>W9 hA hlen hn hm g5 hk))
 obtain ⟨q,⟨xb,b,yb,c,q7,q9,r1,r2,r3,r4,r5,r6,r7,r8⟩,_⟩:=q
 have l1:=lt_of_heap r1.x
 have l2:=lt_of_heap r1.c
 have l3:=lt_of_heap r2.x
 have l4:=lt_of_heap r2.c
 refine V9 q.s q.d q.x0 q.x1 q.x2 q7 q9 hn hm fun a' v' ab bb s d e0 e1 e2 e7 e9 e11 e12 hT z1 z2 z3 z4 z5=>⟨rfl,xb,b,ab,yb,c,bb,madeCells #[.int .i64 0] n,madeCells #[.int .i64 0] m,⟨s,d,e0,e1,e2,e7,e9,e11,e12,?_⟩⟩
 have z2':v.heap.size≤ab:=z2
 have Zm:v.heap.size≤bb:=z3
 refine ⟨⟨(r1.tp τ).still hT,z4,ag,by omega,r3⟩,⟨(r2.tp τ).still hT,z5,ag,by omega,r4⟩,IQ,IQ,fun p hp q hq=>?_⟩
 simp at hp hq
 rcases hp with rfl | rfl | rfl <;> rcases hq with rfl | rfl | rfl <;> omega
end
section
variable {n m:Int}{len cap:Nat}{oa:Option Addr}{M:Nat→Prop}{L0:List (Nat×Obj)}{W:World}{Home:Nat→ai}{o:Os×Array (Nat×ByteArray)}
theorem Xc (hm:Mm Try.prog M W L0 [])(hA:∀ X N,(∀ p∈L0,p∈X)→(∀ p∈L0,p.1 < N)→qQ X N oa len) :
  aj Try.prog true (aK Try.prog (qO Try.prog (ui L0) o) (oF o Home)) M (ax (Frame.enter Try.prog 3 #[.int .i64 n,.int .i64 m,.slice oa len cap] .normal) []) W:=by
 refine WH Try.func3 WK (Post:=ui L0) (o:=o) (t:=6) rfl af ?_
 obtain ⟨a,ha,hs,hd,he⟩:=entered Try.func3 #[.int .i64 n,.int .i64 m,.slice oa len cap] .normal (N:=143) rfl (by show 3≤143;decide)
 have h0:=he 0 _ rfl
 have h1:=he 1 _ rfl
 have h2:=he 2 _ rfl
 have Xd:∀ N,(∀ p∈L0,p.1 < N)→AR (gV N [] GV) a.tmps a.tmps:=by
  intro N hN
  rw [ha]
  dsimp only
  rw [xQ Try.func3]
  refine AR.append ?_ ?_
  ·exact (((AR.nil _).push (Old.int _ _)).push (Old.int _ _)).push ((hA L0 N (fun _ h=>h) hN).old cap)
  ·refine ⟨rfl,fun i x y hx hy=>?_⟩
   rw [Array.getElem?_replicate] at hx hy
   split at hx
   ·rename_i hlt
    rw [if_pos hlt] at hy
    cases hx
    cases hy
    exact jI _
   ·cases hx
 rw [← ha]
 clear ha he
 refine ak (kG [0] (kR (v:=.bool false) (d:=some 6) (p:=.assign (.const (.bool false))) (fun o ho=>eB ho rfl) hm fun w hm=>?_))
 refine aA (ak (ak (kG [0,1] (kC (d:=some 18) (args:=#[]) (ats:=#[]) Try.func4 (ys:=#[]) ah (bG (Ub Uo (Fin:=qO Try.prog (ui L0) o) (s:=oF o Home) rfl rfl rfl hm) fun e S1 M1 w hq=>?_)))))
 obtain ⟨rfl,hq⟩:=hq
 obtain ⟨s,b,X,rfl,hE,wo,tT,hsn,hm,hup⟩:=hq.ex
 refine kR (v:=.bool false) (d:=some 19) (AL (t:=4) (x:=.tmp 18) (v:=true) (iC eO)) hm fun w hm=>?_
 refine aA (lH (t:=false) (iC eO) ?_)
 refine bS ?_
 have hN:∀ p∈L0,p.1 < w.heap.size:=fun p hp=>lt_of_heap (hm.own p (hup p hp)).2
 have g0:St Try.prog GV w.heap.size M1 X (fun a _=>B0 n m oa len cap a) M1 (((a.put (some 6) (.bool false)).put (some 18) (.bool true)).put (some 19) (.bool false)) w :=
  St.start hm ((((Xd _ hN).put (Old.bool _) (some 6)).put (Old.bool _) (some 18)).put (Old.bool _) (some 19)) hd ⟨by simp only [size_put];exact hs,hd,by rw [cz ae,cz ae,cz ae];exact h0,by rw [cz ae,cz ae,cz ae];exact h1,by rw [cz ae,cz ae,cz ae];exact h2⟩
 have Xe:=hA X w.heap.size hup hN
 have fin:∀ M' a' w',St Try.prog GV w.heap.size M1 X (fun a v=>a.tmps.size=143∧a.defers=[]∧a.eval (.tmp 6)=.bool true) M' a' w'→I7 Try.prog (ui L0) o 6 .ret (aK Try.prog (qO Try.prog (ui L0) o) s) M' a' w':=fun M' a' w' g =>
  ⟨.inl rfl,g.none fun a v q=>q.2.1,⟨s,b,rfl,hE,hsn,tT⟩,fun w1 hr=>⟨g.eval (k:=6) (fG.bool _) fun a v q=>q.2.2,fun p hp=>(hr.mine p.1 (g.known (hup p hp)).1).trans (g.known (hup p hp)).2⟩⟩
 clear hm hq hE hsn tT wo
 refine ak (ak (gF gu gG (gY ah) g0 (Ψ:=fun a _=>B0 n m oa len cap a∧a.eval (.tmp 22)=.bool (decide (300 < (len:Int)))) (fun a v τ q=>?_) fun M a w g1=>?_))
 ·exact VG q.s q.d q.x0 q.x1 q.x2 fun a' s d e0 e1 e2 e22=>⟨rfl,⟨s,d,e0,e1,e2⟩,e22⟩
 refine lH (g1.eval (k:=22) (fG.bool _) fun a v q=>q.2) ?_
 by_cases hl:300 < len
 ·rw [show decide (300 < (len:Int))=true from decide_eq_true ag,if_pos rfl]
  refine ak (gF gu gG (gY ah) g1 (Ψ:=fun a v=>a.tmps.size=143∧a.defers=[]∧a.eval (.tmp 6)=.bool true) (fun a v τ q=>?_) fun M a w g5=>eG (fin _ _ _ g5))
  exact V7 q.1.s q.1.d q.1.x0 q.1.x1 q.1.x2 fun a' s d e0 e1 e2 e6=>⟨rfl,s,d,e6⟩
 ·rw [show decide (300 < (len:Int))=false from decide_eq_false ag,if_neg ae]
  refine bS ?_
  by_cases hg:(1≤n∧n≤256)∧(1≤m∧m≤256)
  ·obtain ⟨k,rfl⟩:∃ k:Nat,n=k:=⟨n.toNat,ag⟩
   obtain ⟨j,rfl⟩:∃ k:Nat,m=k:=⟨m.toNat,ag⟩
   exact Xb Xe ag ag ag ag ag (g1.imp fun a v q=>q.1) fin
  ·exact Xa hg (g1.imp fun a v q=>q.1) fin
end
end Go.Proofs.Ytanploaffndpjaa
namespace Go.Proofs.Ytanploaffndpjaa
open Go Go.ChangeShapes Go.WideShapes Go.ChangeAt Go.RowKit Go.Deep Go.Conc Go.Blind
theorem Try.own:ownKnob Try.prog.godebug=none:=by kernel_rfl
theorem Try.laidOut:laidOutB Try.prog=true:=by kernel_rfl
theorem Xf:Try.prog.cellsOf 3=1:=by kernel_rfl
theorem Xg:Try.prog.cellsOf 32=5:=by kernel_rfl
theorem Xh:Try.prog.cellsOf 30=1:=by kernel_rfl
theorem Xi:Try.prog.cellsOf 125=2:=by kernel_rfl
def oG (W:World):List (Nat×Obj):=(List.range W.heap.size).map fun i=>(i,(W.heap[i]?).getD (.cells #[] 0 (0,0)))
theorem BU {W:World}{b:Nat}{o:Obj}(h:W.heap[b]?=some o):(b,o)∈oG W:=List.mem_map.2 ⟨b,List.mem_range.2 (lt_of_heap h),by rw [h];rfl⟩
theorem BV {W:World}{p:Nat×Obj}(hp:p∈oG W):p.1 < W.heap.size∧W.heap[p.1]?=some p.2:=by
 obtain ⟨i,hi,rfl⟩:=List.mem_map.1 hp
 have hi:=List.mem_range.1 hi
 exact ⟨hi,by simp [Array.getElem?_eq_getElem hi]⟩
theorem Xj:(begin Try.prog (fun _ _=>0) default).world.heap.size=Try.prog.globals.size+5:=by kernel_rfl
theorem Xk:((List.range Try.prog.globals.size).all fun g=>(((begin Try.prog (fun _ _=>0) default).world.heap[g]?).bind Obj.row?).isSome)=true:=by kernel_rfl
theorem Jb {W:World}(h:W.ShapedOpen Try.prog):∀ g,g < Try.prog.globals.size→∃ c e fz,W.heap[g]?=some (.cells c e fz):=fun g hg=>by
 have:=List.all_eq_true.1 Xk g (List.mem_range.2 hg)
 obtain ⟨⟨z,t⟩,hz⟩:=Option.isSome_iff_exists.1 this
 obtain ⟨cs,hh,_⟩:=h.1 g z t hg hz
 exact ⟨cs,t,_,hh⟩
theorem base_of {W:World}(h:W.ShapedOpen Try.prog):Try.prog.globals.size+5≤W.heap.size:=by
 obtain ⟨o,o0,hh,_⟩:=h.2 (Try.prog.globals.size+4) (Nat.le_add_right _ _) (by rw [Xj];omega)
 have:=lt_of_heap hh
 omega
theorem Xl {W:World}(h:W.ShapedOpen Try.prog):Mm Try.prog (yP W) W (oG W) []:=by
 refine ⟨fun p hp=>⟨⟨?_,?_⟩,(BV hp).2⟩,fun p hp=>by simp at hp,fun c hc=>hc,Jb h,base_of h,?_⟩
 ·have:=(BV hp).1
  show 2 * p.1 / 2 < W.heap.size
  omega
 ·have:=(BV hp).1
  show (2 * p.1+1) / 2 < W.heap.size
  omega
 ·rw [List.append_nil]
  have e:(oG W).map Prod.fst=List.range W.heap.size:=by
   unfold oG
   rw [List.map_map]
   exact List.map_id'' (fun _=>rfl) _
  rw [e]
  exact List.nodup_range
theorem BX {W:World}{a:Addr}{v:Value}(h:W.cell? a=some v):∃ c e fz,W.heap[a.block]?=some (.cells c e fz)∧a.spot=none∧c[a.off]?=some v:=by
 unfold World.cell? at h
 split at h
 ·rename_i c e fz hh
  split at h
  ·cases h
  ·rename_i hs
   refine ⟨c,e,fz,hh,?_,h⟩
   cases hq:a.spot with
   | none=>rfl
   | some _=>rw [hq] at hs;simp at hs
 ·cases h
section
variable {H:Type}{enc:TypeId×Value→H}{W:World}{base:Nat}{v:Value}{d:DataW H}{p:List MemPlace}
def yQ (W:World)(pv:Value):Prop:=pv=.slice none 0 0∨∃ (a:Addr)(l c:Nat),pv=.slice (some a) l c∧(a.block < W.heap.size∨(l=0∧c=0))
theorem Xm {n:Nat}{cs:List Value}{x:DataW H×List MemPlace}{v4:Value}(hc:cs=[v4])(h:DataW.trod enc Try.prog W 0 (fun _=>true) true n 30 cs=some x):yQ W v4:=by
 rcases open_slice Try.underlying30 h with ⟨hcs,_⟩ | ⟨a,len',cap',m,n,D,Pl,hcs,_,hl,_,hm,_,hel⟩
 ·rw [hc] at hcs
  simp at hcs
  exact .inl hcs
 ·rw [hc] at hcs
  simp at hcs
  refine .inr ⟨a,len',cap',hcs,?_⟩
  simp only [if_true] at hm
  rcases Nat.eq_zero_or_pos cap' with z | z
  ·exact .inr ⟨ag,z⟩
  ·obtain ⟨cs',h1,_⟩:=hel 0 ag
   rw [Xi] at h1
   obtain ⟨_,hlen,hcell⟩:=World.cells?_some h1
   obtain ⟨c,e,fz,hh,_⟩:=BX ((hcell 0 ag).trans (List.getElem?_eq_getElem (show 0 < cs'.length by omega)))
   exact .inl (lt_of_heap hh)
theorem yQ.old {pv:Value}(h:yQ W pv){N:Nat}(hN:W.heap.size≤N):pX N GV pv:=by
 rcases h with rfl | ⟨a,l,c,rfl,hb | ⟨rfl,rfl⟩⟩
 ·exact (Old.bX 0 0).v
 ·exact (Old.slice (a:=a) (Nat.lt_of_lt_of_le hb hN)).v
 ·exact pX.void af a
theorem Xn (hok:Value.okWide Try.prog W .any base 22 v)(h:DataW.Trod enc Try.prog W 0 (fun _=>true) true 22 v d p)(hW:0 < W.heap.size) :
  ∃ (oa:Option Addr) (n oc:Nat),v=.slice oa n oc∧∀ (X:List (Nat×Obj)) (N:Nat),(∀ p∈oG W,p∈X)→(∀ p∈oG W,p.1 < N)→qQ X N oa n:=by
 obtain ⟨a0,len,cap,rfl⟩:=okWide_slice Try.underlying22 hok
 have hN:∀ N,(∀ p∈oG W,p.1 < N)→W.heap.size≤N:=fun N hN=>by
  have h1:=hN _ (BU (Array.getElem?_eq_getElem (show W.heap.size - 1 < W.heap.size by omega)))
  have h2:W.heap.size - 1 < N:=h1
  omega
 obtain ⟨fuel,hf⟩:=h
 rcases open_slice Try.underlying22 hf with ⟨hcs,_⟩ | ⟨a,len',cap',m,n,D,Pl,hcs,_,hl,_,hm,_,hel⟩
 ·simp [Value.cells] at hcs
  obtain ⟨rfl,rfl,rfl⟩:=hcs
  exact ⟨none,0,0,rfl,fun X N hX hN=>⟨fun c=>Old.bX _ _,fun c=>fG.bX _ _,fun k hk=>absurd hk (Nat.not_lt_zero _)⟩⟩
 ·simp [Value.cells] at hcs
  obtain ⟨rfl,rfl,rfl⟩:=hcs
  have hblk:a.block < W.heap.size:=by
   simp only [Value.okWide,Try.underlying22,Cell.okWide,Cell.ok] at hok
   obtain ⟨_,_,_,_,row,cells,hs,_⟩:=hok
   unfold World.shape? at hs
   split at hs
   ·rename_i hh
    exact lt_of_heap hh
   ·cases hs
  simp only [if_true] at hm
  have each:∀ i,i < cap→∃ (q0 q1 q2 q3:Int) (pv:Value),yQ W pv∧W.cell? (a.add (i * 5))=some (.int .i64 q0)∧W.cell? (a.add (i * 5+1))=some (.int .i64 q1)∧W.cell? (a.add (i * 5+2))=some (.int .i64 q2)∧W.cell? (a.add (i * 5+3))=some (.int .i64 q3)∧W.cell? (a.add (i * 5+4))=some pv:=by
   intro i hi
   obtain ⟨cs',h1,h2⟩:=hel i ag
   rw [Xg] at h1
   obtain ⟨_,hlen,hcell⟩:=World.cells?_some h1
   obtain ⟨xs,k,_,_,_,hxl,hfs⟩:=DataW.trod_struct Try.underlying32 h2
   match xs,hxl,cs',hlen with
   | [y0,y1,y2,y3,y4],_,[v0,v1,v2,v3,v4],_ =>
    have g0:=hfs 0 _ rfl
    have g1:=hfs 1 _ rfl
    have g2:=hfs 2 _ rfl
    have g3:=hfs 3 _ rfl
    have g4:=hfs 4 _ rfl
    simp [Xf,Xh] at g0 g1 g2 g3 g4
    obtain ⟨z0,e0,_⟩:=DataW.trod_int Try.underlying3 g0
    obtain ⟨z1,e1,_⟩:=DataW.trod_int Try.underlying3 g1
    obtain ⟨z2,e2,_⟩:=DataW.trod_int Try.underlying3 g2
    obtain ⟨z3,e3,_⟩:=DataW.trod_int Try.underlying3 g3
    have Xo:=Xm rfl g4
    have t0:=hcell 0 ag
    have t1:=hcell 1 ag
    have t2:=hcell 2 ag
    have t3:=hcell 3 ag
    have t4:=hcell 4 ag
    rw [add_add] at t0 t1 t2 t3 t4
    simp at e0 e1 e2 e3 t0 t1 t2 t3 t4
    exact ⟨z0,z1,z2,z3,v4,Xo,by rw [t0,e0],by rw [t1,e1],by rw [t2,e2],by rw [t3,e3],t4⟩
  refine ⟨some a,len,cap,rfl,fun X N hX yR=>⟨fun c=>Old.slice (Nat.lt_of_lt_of_le hblk (hN N yR)),fun c=>fG.slice (Nat.lt_of_lt_of_le hblk (hN N yR)),fun k hk=>?_⟩⟩
  obtain ⟨q0,q1,q2,q3,pv,hpv,c0,c1,c2,c3,c4⟩:=each k ag
  obtain ⟨ca,e,fz,hh,hsp,hc0⟩:=BX c0
  have wK:a.spot=none:=by
   obtain ⟨_,_,_,_,_,_,d0,_⟩:=each 0 ag
   simpa [Addr.add] using World.cell?_spot d0
  obtain ⟨mb,mo,sp⟩:=a
  have hsp:sp=none:=wK
  subst hsp
  have hh:W.heap[mb]?=some (.cells ca e fz):=by simpa [add_plain] using hh
  refine ⟨mb,mo,ca,e,fz,q0,q1,q2,q3,pv,rfl,Nat.lt_of_lt_of_le hblk (hN N yR),hX _ (BU hh),hpv.old (hN N yR),?_⟩
  have get:∀ {j:Nat} {y:Value},W.cell? ((⟨mb,mo,none⟩:Addr).add j)=some y→ca[mo+j]?=some y:=fun {j y} hy=>by
   rw [add_plain] at hy
   obtain ⟨Xp,e',BC,hh',_,hc'⟩:=BX hy
   have e2:some (Obj.cells ca e fz)=some (Obj.cells Xp e' BC):=hh.symm.trans hh'
   cases e2
   exact hc'
  intro j y hj
  match j,hj with
  | 0,hj=>cases hj;exact get c0
  | 1,hj=>cases hj;rw [Nat.add_assoc];exact get c1
  | 2,hj=>cases hj;rw [Nat.add_assoc];exact get c2
  | 3,hj=>cases hj;rw [Nat.add_assoc];exact get c3
  | 4,hj=>cases hj;rw [Nat.add_assoc];exact get c4
  | j+5,hj=>simp at hj
end
section
variable {H:Type}{enc:TypeId×Value→H}
theorem Xq (W:World)(base:Nat)(args:Array Value)(ds gs:List (DataW H))(before:List MemPlace)(hsh:W.ShapedOpen Try.prog)
  (hval:∀ (j:Nat) t v,Try.f3.params[j]?=some t→args[j]?=some v→Value.okWide Try.prog W .any base t v)(hW:DataW.Whole enc Try.prog Try.f3.params.toList [] false W args.toList ds gs before) :
  ∃ M last o w' t',runNT Try.prog (M+1) (solo (G (Frame.enter Try.prog 3 args .normal) []) W) #[]=(.ended o w',t')∧runN Try.prog M (solo (G (Frame.enter Try.prog 3 args .normal) []) W)=.next last ∧
   step Try.prog last=.ended o w'∧Conc.Good Try.prog (fun v W'=>Rows.cellAloneSpec.post enc Try.prog Try.f3 false true false false W args v W') last o w' t':=by
 have BZ:=hW
 obtain ⟨p,q,hA,hV,rfl,_,_⟩:=hW
 rw [Try.params3] at hA hval
 obtain ⟨v0,v1,v2,d0,d1,d2,p0,p1,p2,rfl,rfl,rfl,h0,h1,h2⟩:=trodAll_three hA
 obtain ⟨rfl,rfl⟩:=trodVars_none hV
 simp only [List.append_nil] at BZ
 have hlt:∀ x∈p0 ++ p1 ++ p2,x.block < W.heap.size:=fun x hx=>BZ.lt x hx
 obtain ⟨n,rfl⟩:=okWide_int Try.underlying3 (hval 0 3 v0 rfl rfl)
 obtain ⟨m,rfl⟩:=okWide_int Try.underlying3 (hval 1 3 v1 rfl rfl)
 have hb0:=base_of hsh
 obtain ⟨oa,len,cap,rfl,Xr⟩:=Xn (hval 2 22 v2 rfl rfl) h2 ag
 have hR:=Xc (n:=n) (m:=m) (len:=len) (cap:=cap) (oa:=oa) (Home:=fun _=>fun _ _ _=>False) (o:=ic W) (Xl hsh) Xr
 obtain ⟨N,last,o,w',t',r1,r2,r3,r4⟩:=WG (Post:=ui (oG W)) (Jb hsh) hR
 refine ⟨N,last,o,w',t',r1,r2,r3,r4.mono fun v hp=>?_⟩
 obtain ⟨⟨rfl,hblk⟩,hout⟩:=hp
 have hos:w'.os=W.os:=congrArg Prod.fst hout
 have hop:w'.output=W.output:=congrArg Prod.snd hout
 have hblk':∀ k,k < W.heap.size→w'.heap[k]?=W.heap[k]?:=fun k hk=>by
  have e:W.heap[k]?=some W.heap[k]:=Array.getElem?_eq_getElem hk
  rw [e]
  exact hblk _ (BU e)
 have hsz:W.heap.size≤w'.heap.size:=by
  have e:=hblk' (W.heap.size - 1) ag
  rw [Array.getElem?_eq_getElem (show W.heap.size - 1 < W.heap.size by omega)] at e
  have:=lt_of_heap e
  omega
 have hb:Below W.heap.size W { w' with tape:=W.tape }:=⟨hos,rfl,hop,hsz,hblk'⟩
 refine ⟨_,_,_,[],p0 ++ (p1 ++ p2),[],BZ,?_,?_,rfl,?_,fun h=>by cases h⟩
 ·exact trodAll_mk1 (shut_bool Try.underlying4 _)
 ·refine DataW.TrodAll.of_heap (w:={ w' with tape:=W.tape }) (w':=w') rfl (trodAll_mk3 (Below.trod Try.laidOut af (of_decide_eq_true af) h0 hb (fun x hx=>hlt x (by simp [hx]))) (Below.trod Try.laidOut af (of_decide_eq_true af) h1 hb (fun x hx=>hlt x (by simp [hx]))) (Below.trod Try.laidOut af (of_decide_eq_true af) h2 hb (fun x hx=>hlt x (by simp [hx]))))
 ·have:=hb.frame (fun p=>p∈p0 ++ p1 ++ p2∧(p∈([]:List MemPlace)∨p∈p0 ++ (p1 ++ p2)∨p∈([]:List MemPlace)))
  exact ⟨this.1,this.2.1,this.2.2⟩
theorem Xt (os:Os)(started:os.Started)(H:Type)(enc:TypeId×Value→H) :
  ReturnsInLeavingWide {} Try.checked os 3 .any (Rows.cellAloneSpec.pre6 enc Try.prog Try.f3 Rows.cellAloneRow.domain false) (Rows.cellAloneSpec.post enc Try.prog Try.f3 false true false false):=by
 refine returnsInLeavingWide_of_good (C:=Try.checked) Try.own started
  (ChangeSpec.witness6 (enc:=enc) (C:=Try.checked) false ⟨#[],#[.int .i64 0,.int .i64 0,.slice none 0 0],[]⟩ 8 af af af af) ?_
 intro w tape i _ hsh _ hok hpre _
 obtain ⟨_,_,_,fn',hfn',_,_,_,_,hval⟩:=hok
 have e:fn'=Try.f3:=Option.some.inj (hfn'.symm.trans Try.func3)
 subst e
 obtain ⟨⟨ds,gs,before,hw,_⟩,_⟩:=hpre
 have hw':=DataW.Whole.of_heap (w':=w.forCall tape i) (by rfl) hw
 obtain ⟨M,last,o,w',t',h1,h2,h3,h4⟩:=Xq (w.forCall tape i) w.heap.size i.args ds gs before hsh hval hw'
 exact ⟨M,last,o,w',t',h1,h2,h3,h4.mono fun v hp=>ChangeSpec.post_blind hp⟩
end
theorem cellAlone_holds:Rows.CellAloneSaid :=
 OpenClaim.holds_of_wide_leaving 3 Try.f3 rfl rfl rfl rfl rfl rfl rfl ⟨rfl,rfl,rfl,rfl,rfl⟩ rfl rfl rfl rfl rfl af Try.func3 af
  (of_decide_eq_true af) (by unfold Func.isWrapper;rw [if_neg (of_decide_eq_false af)];exact ⟨rfl,rfl⟩)
  (fun os started H enc _=>Xt os started H enc)
#print axioms cellAlone_holds
end Go.Proofs.Ytanploaffndpjaa

/- The way down a tree: its steps, and slices of them. -/
import Derived.Test.YtloljphbdfjgdaaGreatDoorK22
import Derived.Deep.AppendLies
import Derived.OwnWalk
import Derived.Test.YtloljphbdfjgdaaGreatDoorK03
namespace Go.Proofs.YtloljphbdfjgdaaGreatDoor
open Go.RowKit
namespace Tr
def way (k:Int):Tr→List (Tr × Int)
 | leaf _ _ _=>[]
 | node h q c l r=>if c≤k∧k < c+2 ^ q then (node h q c l r,0) :: way k l else if c+2 ^ q≤k∧k < c+2 * 2 ^ q then (node h q c l r,1) :: way k r else []
theorem way_len (k:Int):∀ {t:Tr},t.WF→(way k t).length+(stop k t).deep≤t.deep
 | leaf _ _ _,_=>by simp [way,stop]
 | node h q c l r,hw=>by
  have hd:=hw.deep_lt
  obtain ⟨_,_,_,_,_,_,_,_,hl,hr⟩:=hw
  have h1:=way_len k hl
  have h2:=way_len k hr
  have hd0:(node h q c l r).deep=q+1:=rfl
  rw [hd0]
  by_cases a1:c≤k∧k < c+2 ^ q
  ·rw [show way k (node h q c l r)=(node h q c l r,0) :: way k l by simp only [way]; rw [if_pos a1],show stop k (node h q c l r)=stop k l by simp only [stop]; rw [if_pos a1],List.length_cons]; omega
  ·by_cases a2:c+2 ^ q≤k∧k < c+2 * 2 ^ q
   ·rw [show way k (node h q c l r)=(node h q c l r,1) :: way k r by simp only [way]; rw [if_neg a1,if_pos a2],show stop k (node h q c l r)=stop k r by simp only [stop]; rw [if_neg a1,if_pos a2],List.length_cons]; omega
   ·rw [show way k (node h q c l r)=[] by simp only [way]; rw [if_neg a1,if_neg a2],show stop k (node h q c l r)=node h q c l r by simp only [stop]; rw [if_neg a1,if_neg a2],hd0]; simp
end Tr
def stepC:Tr × Int→List Value
 | (.leaf h k v,sd)=>[.int .i64 h,.int .i64 k,.int .i64 v,.int .i64 0,.int .i64 0,.int .i64 0,.int .i64 sd]
 | (.node h p b l r,sd)=>[.int .i64 h,.int .i64 b,.int .i64 p,.int .i64 l.hd,.int .i64 r.hd,.int .i64 (l.cnt+r.cnt:Nat),.int .i64 sd]
theorem stepC_len (x:Tr × Int):(stepC x).length=7:=by
 obtain ⟨t,sd⟩:=x
 cases t <;> rfl
theorem stepC_one (x:Tr × Int):∀ u∈stepC x,u.oneCell'=true:=by
 obtain ⟨t,sd⟩:=x
 cases t <;> (intro u hu; simp only [stepC,List.mem_cons,List.not_mem_nil,or_false] at hu; rcases hu with rfl | rfl | rfl | rfl | rfl | rfl | rfl <;> rfl)
structure SR (B:Nat) (w:World) (v:Value) (l:List (Tr × Int)):Prop where
 own:w.ownsRow B 153 7 v l.length (l.flatMap stepC)
theorem SR.nil (B:Nat) (w:World):SR B w (.slice none 0 0) []:=⟨World.ownsRow_nil _ _ _ _⟩
theorem SR.keep {B:Nat} {w w':World} {v:Value} {l:List (Tr × Int)} {F:List Nat} (h:SR B w v l) (ht:Turned F w w') (hF:∀ g,v.ownBlock=some g→g∉F):SR B w' v l:=by
 refine ⟨h.own.1,?_⟩
 rcases h.own.2 with h0 | ⟨g,c,cs,rfl,hb,hg,h3⟩
 ·exact .inl h0
 ·exact .inr ⟨g,c,cs,rfl,hb,ht.heap hg (hF g rfl),h3⟩
theorem SR.still {B:Nat} {w w':World} {v:Value} {l:List (Tr × Int)} (h:SR B w v l) (ht:Turned [] w w'):SR B w' v l:=h.keep ht (by simp)
theorem SR.form {B:Nat} {w:World} {v:Value} {l:List (Tr × Int)} (h:SR B w v l):∃ a c,v=.slice a l.length c:=by
 rcases h.own.2 with ⟨rfl,h0⟩ | ⟨g,c,cs,rfl,_⟩
 ·exact ⟨none,0,by rw [h0]⟩
 ·exact ⟨_,_,rfl⟩
theorem SR.fresh {B:Nat} {w:World} {v:Value} {l:List (Tr × Int)} (h:SR B w v l) {g:Nat} (hg:v.ownBlock=some g):B≤g∧g < w.heap.size:=h.own.lt g hg
theorem infoStep:(Tryz.prog.info? 153).map (fun i=>(i.zero,i.size,i.bytes))=some (some (.agg #[.int .i64 0,.int .i64 0,.int .i64 0,.int .i64 0,.int .i64 0,.int .i64 0,.int .i64 0]),7,56):=by kernel_rfl
theorem undSteps:Tryz.prog.underlying 130=some (.slice 153):=by kernel_rfl
theorem wpList_apStep {w:World} {ops:Array Oper} {rest:List Oper} {o:Oper} {a:Act} {Q:Exit→Act→World→Prop} {B:Nat} {v:Value} {l:List (Tr × Int)} {x:Tr × Int} {g c:Nat} (hgd:o.guard=none) (p q:Operand) (ho:o.op=.call { callee:=.builtin .append,args:=#[p,q],argTypes:=#[130,130] })
  (hs:a.eval p=v) (hr:SR B w v l) (hy:a.eval q=.slice (some ⟨g,0,none⟩) 1 c) (hcell:∀ j u,(stepC x)[j]?=some u→w.cell? ⟨g,j,none⟩=some u) (hm:l.length≤4000) (hB:B≤w.heap.size)
  (h:∀ v' w',SR B w' v' (l ++ [x])→Turned v.ownBlock.toList w w'→(v'.ownBlock=v.ownBlock∨v'.ownBlock=some w.heap.size)→wpList Tryz.prog ops Q rest (a.put o.dst v') w'):wpList Tryz.prog ops Q (o :: rest) a w:=by
 obtain ⟨i,hi,hzz⟩:=Option.map_eq_some_iff.1 infoStep
 simp only [Prod.mk.injEq] at hzz
 obtain ⟨hz,hs1,hb⟩:=hzz
 refine wpList_plain hgd fun K hK=>?_
 obtain ⟨v',w',hrun,h2,h3,h4,h5⟩:=run_append_own_at (P:=Tryz.prog) w B 130 o.type 153 i _ 7 56 undSteps hi hz hs1 hb rfl (by decide) v l.length (l.flatMap stepC) hr.own ⟨g,0,none⟩ 1 c (stepC x) (stepC_len x) (fun j u hj=>by
  have hadd:(⟨g,0,none⟩:Addr).add j=⟨g,j,none⟩:=by unfold Addr.add; split <;> simp_all
  rw [hadd]
  exact hcell j u hj) (stepC_one x) (by unfold maxLen; omega) (by omega) hB
 unfold Oper.wp execOp
 simp only [ho,resolve,invoke,builtin,Sem.run_bind,Sem.run_pure,Result.andThen_ok,List.map_toArray,List.map_cons,List.map_nil,hs,hy,hrun]
 refine hK _ _ (h v' w' ⟨by rw [List.length_append,List.flatMap_append]; simpa using h2⟩ ⟨h3.os,h3.tape,h3.output,h3.size,fun k hk hn=>h3.block k hk fun e=>hn (by rw [← e]; simp)⟩ h5)
theorem cReadT {w:World} {tb p:Nat} {F:List Nat} {s:PSt} {t:Tr} {a b:Int} (hT:TrieB w tb p) (hA:PoolAt w p F s) (hO:s.Ok) (hc:Rep s t) (hw:t.WF) (ha:a≤t.lo) (hb:t.hi≤b) :
  Calls Tryz.prog 53 #[pt tb,.pointer none,.agg #[.int .i64 t.hd,.int .i64 a,.int .i64 b,.nilIface]] w fun e w'=>e=.returned (.tuple #[.agg #[.int .i64 t.hd,.int .i64 a,.int .i64 b,nv t],.int .i64 0])∧Turned [] w w':=by
 cases t with
 | leaf h k v=>exact cReadLeaf hT hA hO hc hw.1 hw.2 ha hb
 | node h q c l r=>exact cReadInner hT hA hO hc.1 hw.2.1 hw.2.2.1 hw.1 hw.2.2.2.1 ha hb
end Go.Proofs.YtloljphbdfjgdaaGreatDoor
/- Package trie's down: what stands at the head of a round. -/
namespace Go.Proofs.YtloljphbdfjgdaaGreatDoor
open Go.RowKit
def sub:List Nat→Code→Code
 | [],c=>c
 | 0 :: p,.seq a _=>sub p a
 | _ :: p,.seq _ b=>sub p b
 | 0 :: p,.cond _ a _=>sub p a
 | _ :: p,.cond _ _ b=>sub p b
 | _ :: p,.block _ c=>sub p c
 | _ :: p,.scope c=>sub p c
 | _ :: p,.loop c=>sub p c
 | _,_=>.skip
def atc (b:Option Code) (p:List Nat):Code:=sub p (b.getD .skip)
def lenAt (w:World) (b:Nat):Nat:=match w.cell? ⟨b,0,none⟩ with | some (.slice _ n _)=>n | _=>0
structure DI (w:World) (k:Int) (t:Tr) (s:PSt) (sb:Nat) (u:Tr) (a b:Int) (dn:List (Tr × Int)) (v n:Value) (x:World):Prop where
 turned:Turned [] w x
 res:x.heap[w.heap.size]?=some (.cells #[.slice none 0 0,.int .i64 0,.int .i64 0,.int .i64 0,.nilIface] 132 (0,0))
 d:x.heap[w.heap.size+1]?=some (.cells #[v,.int .i64 0,.int .i64 0,.int .i64 0,.nilIface] 132 (0,0))
 sp:x.heap[sb]?=some (.cells #[.int .i64 u.hd,.int .i64 a,.int .i64 b,n] 120 (0,0))
 row:SR (sb+1) x v dn
 wf:u.WF
 rep:Rep s u
 lo:a≤u.lo
 hi:u.hi≤b
 way:t.way k=dn ++ u.way k
 stop:t.stop k=u.stop k
 len:dn.length+u.deep≤32
 sb:w.heap.size+1 < sb
structure DG (w:World) (k:Int) (t:Tr) (s:PSt) (sb:Nat) (u:Tr) (a b:Int) (dn:List (Tr × Int)) (v n:Value) (x:World):Prop where
 turned:Turned [] w x
 res:x.heap[w.heap.size]?=some (.cells #[.slice none 0 0,.int .i64 0,.int .i64 0,.int .i64 0,.nilIface] 132 (0,0))
 d:x.heap[w.heap.size+1]?=some (.cells #[v,.int .i64 0,.int .i64 0,.int .i64 0,.nilIface] 132 (0,0))
 sp:x.heap[sb]?=some (.cells #[.int .i64 u.hd,.int .i64 a,.int .i64 b,n] 120 (0,0))
 row:SR (sb+1) x v dn
 sb:w.heap.size+1 < sb
structure DX (w:World) (k:Int) (t:Tr) (s:PSt) (sb:Nat) (x:World):Prop where
 ex:∃ u a b dn v,DI w k t s sb u a b dn v .nilIface x
theorem set4 {w:World} {b:Nat} {T:TypeId} {a0 a1 a2 a3:Value} (h:w.heap[b]?=some (.cells #[a0,a1,a2,a3] T (0,0))) (v0 v1 v2 v3:Value):((((w.setCell ⟨b,0,none⟩ v0).setCell ⟨b,1,none⟩ v1).setCell ⟨b,2,none⟩ v2).setCell ⟨b,3,none⟩ v3).heap[b]?=some (.cells #[v0,v1,v2,v3] T (0,0))∧Turned [b] w ((((w.setCell ⟨b,0,none⟩ v0).setCell ⟨b,1,none⟩ v1).setCell ⟨b,2,none⟩ v2).setCell ⟨b,3,none⟩ v3) :=
 ⟨blk_set (blk_set (blk_set (blk_set h 0 v0) 1 v1) 2 v2) 3 v3,((((Turned.refl _ _).set (.inl (by simp)) _ _).set (.inl (by simp)) _ _).set (.inl (by simp)) _ _).set (.inl (by simp)) _ _⟩
theorem SR.lower {B B':Nat} {w:World} {v:Value} {l:List (Tr × Int)} (h:SR B w v l) (hb:B'≤B):SR B' w v l:=by
 refine ⟨h.own.1,?_⟩
 rcases h.own.2 with h0 | ⟨g,c,cs,rfl,hb2,hg,h3⟩
 ·exact .inl h0
 ·exact .inr ⟨g,c,cs,rfl,by omega,hg,h3⟩
section
variable {w x y:World} {k:Int} {t:Tr} {s:PSt} {sb:Nat} {u u':Tr} {a b a' b':Int} {dn:List (Tr × Int)} {v n:Value}
theorem DI.still (h:DI w k t s sb u a b dn v n x) (ht:Turned [] x y):DI w k t s sb u a b dn v n y :=
 ⟨h.turned.trans ht,ht.heap h.res (by simp),ht.heap h.d (by simp),ht.heap h.sp (by simp),h.row.still ht,h.wf,h.rep,h.lo,h.hi,h.way,h.stop,h.len,h.sb⟩
theorem DI.spot {n':Value} (h:DI w k t s sb u a b dn v n x) (ht:Turned [sb] x y) (hs:y.heap[sb]?=some (.cells #[.int .i64 u.hd,.int .i64 a,.int .i64 b,n'] 120 (0,0))):DI w k t s sb u a b dn v n' y:=by
 have:=h.sb
 exact ⟨h.turned.inner ht (by simp; omega),ht.heap h.res (by simp; omega),ht.heap h.d (by simp; omega),hs,h.row.keep ht (fun g hg=>by have:=(h.row.fresh hg).1; simp; omega),h.wf,h.rep,h.lo,h.hi,h.way,h.stop,h.len,h.sb⟩
theorem DI.grow {v':Value} {dn':List (Tr × Int)} {o:Obj} (h:DI w k t s sb u a b dn v n x) (ht:Turned v.ownBlock.toList (x.alloc o) y) (hr:SR (sb+1) y v' dn'):DG w k t s sb u a b dn' v' n (y.setCell ⟨w.heap.size+1,0,none⟩ v')∧∀ ib o',x.heap[ib]?=some o'→sb < ib→(∀ g,v.ownBlock=some g→g≠ib)→(y.setCell ⟨w.heap.size+1,0,none⟩ v').heap[ib]?=some o':=by
 have hsb:=h.sb
 have hv:∀ g,g∈v.ownBlock.toList→sb+1≤g:=fun g hg=>(h.row.fresh (Option.mem_toList.1 hg)).1
 have t1:Turned v.ownBlock.toList x y:=(((Turned.refl [] x).alloc o).mono (by simp)).trans ht
 have hd:=t1.heap h.d (fun hm=>by have:=hv _ hm; omega)
 have ts:Turned [w.heap.size+1] y (y.setCell ⟨w.heap.size+1,0,none⟩ v'):=(Turned.refl _ _).set (.inl (by simp)) _ _
 refine ⟨⟨(h.turned.inner t1 (fun z hz=>.inr (by have:=hv z hz; omega))).inner ts (by simp),ts.heap (t1.heap h.res (fun hm=>by have:=hv _ hm; omega)) (by simp),blk_set hd 0 v',ts.heap (t1.heap h.sp (fun hm=>by have:=hv _ hm; omega)) (by simp; omega),hr.keep ts (fun g hg=>by have:=(hr.fresh hg).1; simp; omega),hsb⟩,fun ib o' hb hlt hne=>ts.heap (t1.heap hb (fun hm=>hne ib (Option.mem_toList.1 hm) rfl)) (by simp; omega)⟩
theorem DG.next (h:DG w k t s sb u a b dn v n x) (ht:Turned [sb] x y) (hs:y.heap[sb]?=some (.cells #[.int .i64 u'.hd,.int .i64 a',.int .i64 b',.nilIface] 120 (0,0))) (hw:u'.WF) (hp:Rep s u') (hlo:a'≤u'.lo) (hhi:u'.hi≤b') (hwy:t.way k=dn ++ u'.way k) (hst:t.stop k=u'.stop k) (hl:dn.length+u'.deep≤32):DI w k t s sb u' a' b' dn v .nilIface y:=by
 have:=h.sb
 exact ⟨h.turned.inner ht (by simp; omega),ht.heap h.res (by simp; omega),ht.heap h.d (by simp; omega),hs,h.row.keep ht (fun g hg=>by have:=(h.row.fresh hg).1; simp; omega),hw,hp,hlo,hhi,hwy,hst,hl,h.sb⟩
theorem DG.still (h:DG w k t s sb u a b dn v n x) (ht:Turned [] x y):DG w k t s sb u a b dn v n y :=
 ⟨h.turned.trans ht,ht.heap h.res (by simp),ht.heap h.d (by simp),ht.heap h.sp (by simp),h.row.still ht,h.sb⟩
end
end Go.Proofs.YtloljphbdfjgdaaGreatDoor
/- A frame, spelled out. -/
namespace Go.Proofs.YtloljphbdfjgdaaGreatDoor
open Go.RowKit
def lit63 (c:Nat→Value):Array Value:=#[c 0,c 1,c 2,c 3,c 4,c 5,c 6,c 7,c 8,c 9,c 10,c 11,c 12,c 13,c 14,c 15,c 16,c 17,c 18,c 19,c 20,c 21,c 22,c 23,c 24,c 25,c 26,c 27,c 28,c 29,c 30,c 31,c 32,c 33,c 34,c 35,c 36,c 37,c 38,c 39,c 40,c 41,c 42,c 43,c 44,c 45,c 46,c 47,c 48,c 49,c 50,c 51,c 52,c 53,c 54,c 55,c 56,c 57,c 58,c 59,c 60,c 61,c 62]
set_option maxRecDepth 100000 in
theorem lit63_eq (c:Nat→Value):lit63 c=((List.range 63).map c).toArray:=by rfl
theorem expand63 {a:Act} (hs:a.tmps.size=63) (hd:a.defers=[]):∃ c:Nat→Value,a=⟨lit63 c,[]⟩∧∀ s,c s=a.eval (.tmp s):=by
 refine ⟨fun s=>a.tmps.getD s undef,?_,fun s=>rfl⟩
 obtain ⟨t,d⟩:=a
 simp only at hs hd
 subst hd
 congr 1
 rw [lit63_eq]
 refine Array.ext (by simp [hs]) fun i h1 h2=>?_
 simp [Array.getD,h1]
end Go.Proofs.YtloljphbdfjgdaaGreatDoor
/- The ways through a round of package trie's down. (Written by tools/gen/gendown.py.) -/
namespace Go.Proofs.YtloljphbdfjgdaaGreatDoor
open Go.RowKit
section
variable {w x:World} {tb p sb ib:Nat} {F:List Nat} {s:PSt} {t u:Tr} {k a1 b1:Int} {dn:List (Tr × Int)} {v nvv:Value} {T:TypeId} {q:Nat} {c lh rh cn:Int} {R:Ending→World→Prop} {a:Act} {K:Act→World→Prop} {Q:Exit→Act→World→Prop}
set_option maxRecDepth 100000 in
set_option maxHeartbeats 1600000 in
theorem down_r3 (hs:a.tmps.size=63) (hd:a.defers=[]) (x0:a.eval (.tmp 0)=pt tb) (x1:a.eval (.tmp 1)=.pointer none) (x3:a.eval (.tmp 3)=.int .i64 k) (x8:a.eval (.tmp 8)=.pointer (some ⟨w.heap.size,0,none⟩)) (x10:a.eval (.tmp 10)=.pointer (some ⟨w.heap.size+1,0,none⟩)) (x11:a.eval (.tmp 11)=.pointer (some ⟨sb,0,none⟩))
  
  (hK:∀ a',a'.tmps.size=63→a'.defers=[]→a'.eval (.tmp 0)=pt tb→a'.eval (.tmp 1)=.pointer none→a'.eval (.tmp 3)=.int .i64 k→a'.eval (.tmp 8)=.pointer (some ⟨w.heap.size,0,none⟩)→a'.eval (.tmp 10)=.pointer (some ⟨w.heap.size+1,0,none⟩)→a'.eval (.tmp 11)=.pointer (some ⟨sb,0,none⟩)→K a' x):(atc Tryz.f45.body [1,1,1,1,1,1,0]).wp Tryz.prog (Exit.then K Q) a x:=by
 obtain ⟨cc,hcc,hce⟩:=expand63 hs hd
 have g0:=(hce 0).trans x0
 have g1:=(hce 1).trans x1
 have g3:=(hce 3).trans x3
 have g8:=(hce 8).trans x8
 have g10:=(hce 10).trans x10
 have g11:=(hce 11).trans x11
 clear hce hs hd x0 x1 x3 x8 x10 x11
 subst hcc
 conv=>arg 2; whnf
 simp only [lit63,g0,g1,g3,g8,g10,g11]
 clear g0 g1 g3 g8 g10 g11
 go_wp2
 exact hK _ rfl rfl rfl rfl rfl rfl rfl rfl
set_option maxRecDepth 100000 in
set_option maxHeartbeats 1600000 in
theorem down_rd (hs:a.tmps.size=63) (hd:a.defers=[]) (x0:a.eval (.tmp 0)=pt tb) (x1:a.eval (.tmp 1)=.pointer none) (x3:a.eval (.tmp 3)=.int .i64 k) (x8:a.eval (.tmp 8)=.pointer (some ⟨w.heap.size,0,none⟩)) (x10:a.eval (.tmp 10)=.pointer (some ⟨w.heap.size+1,0,none⟩)) (x11:a.eval (.tmp 11)=.pointer (some ⟨sb,0,none⟩))
  (hI:DI w k t s sb u a1 b1 dn v .nilIface x) (hN:nv u=.iface T nvv) (hT:TrieB w tb p) (hA:PoolAt w p F s) (hO:s.Ok)
  (hK:∀ a' y,a'.tmps.size=63→a'.defers=[]→a'.eval (.tmp 0)=pt tb→a'.eval (.tmp 1)=.pointer none→a'.eval (.tmp 3)=.int .i64 k→a'.eval (.tmp 8)=.pointer (some ⟨w.heap.size,0,none⟩)→a'.eval (.tmp 10)=.pointer (some ⟨w.heap.size+1,0,none⟩)→a'.eval (.tmp 11)=.pointer (some ⟨sb,0,none⟩)→DI w k t s sb u a1 b1 dn v (.iface T nvv) y→K a' y):(atc Tryz.f45.body [1,1,1,1,1,1,1,0]).wp Tryz.prog (Exit.then K Q) a x:=by
 obtain ⟨cc,hcc,hce⟩:=expand63 hs hd
 have g0:=(hce 0).trans x0
 have g1:=(hce 1).trans x1
 have g3:=(hce 3).trans x3
 have g8:=(hce 8).trans x8
 have g10:=(hce 10).trans x10
 have g11:=(hce 11).trans x11
 clear hce hs hd x0 x1 x3 x8 x10 x11
 subst hcc
 conv=>arg 2; whnf
 simp only [lit63,g0,g1,g3,g8,g10,g11]
 clear g0 g1 g3 g8 g10 g11
 have HI:Hid _:=hI
 have HR:Hid (Calls Tryz.prog 53 #[pt tb,.pointer none,.agg #[.int .i64 u.hd,.int .i64 a1,.int .i64 b1,.nilIface]] x fun e w'=>e=.returned (.tuple #[.agg #[.int .i64 u.hd,.int .i64 a1,.int .i64 b1,.iface T nvv],.int .i64 0])∧Turned [] x w'):=by
  rw [← hN]; exact cReadT (hT.still hI.turned) (hA.still hI.turned) hO hI.rep hI.wf hI.lo hI.hi
 obtain ⟨⟨e0,e1,e2,e3⟩,-⟩:=cells4 hI.sp
 generalize hU:u.hd=uh at *
 have HK:Hid (∀ a' y,a'.tmps.size=63→a'.defers=[]→a'.eval (.tmp 0)=pt tb→a'.eval (.tmp 1)=.pointer none→a'.eval (.tmp 3)=.int .i64 k→a'.eval (.tmp 8)=.pointer (some ⟨w.heap.size,0,none⟩)→a'.eval (.tmp 10)=.pointer (some ⟨w.heap.size+1,0,none⟩)→a'.eval (.tmp 11)=.pointer (some ⟨sb,0,none⟩)→DI w k t s sb u a1 b1 dn v (.iface T nvv) y→K a' y):=hK
 clear hI hT hA hO hN hK
 go_wp2_with (go_at_call 53; refine HR.out.mono ?_; rintro e w2 ⟨rfl,ht2⟩; have h2:=ht2.heap HI.out.sp (by simp); rw [hU] at h2; obtain ⟨⟨c0,c1,c2,c3⟩,y0,y1,y2,y3⟩:=cells4 h2; have HT2:Hid (Turned [] x w2):=ht2; have HS2:Hid _:=h2; clear ht2 h2)
 have h5:=set4 HS2.out (.int .i64 uh) (.int .i64 a1) (.int .i64 b1) (.iface T nvv)
 have hJ:=(HI.out.still HT2.out).spot h5.2 (by rw [hU]; exact h5.1)
 exact HK.out _ _ rfl rfl rfl rfl rfl rfl rfl rfl hJ
set_option maxRecDepth 100000 in
set_option maxHeartbeats 1600000 in
theorem down_r7L (hs:a.tmps.size=63) (hd:a.defers=[]) (x0:a.eval (.tmp 0)=pt tb) (x1:a.eval (.tmp 1)=.pointer none) (x3:a.eval (.tmp 3)=.int .i64 k) (x8:a.eval (.tmp 8)=.pointer (some ⟨w.heap.size,0,none⟩)) (x10:a.eval (.tmp 10)=.pointer (some ⟨w.heap.size+1,0,none⟩)) (x11:a.eval (.tmp 11)=.pointer (some ⟨sb,0,none⟩))
  (hI:DI w k t s sb u a1 b1 dn v (.iface 128 nvv) x)
  (hK:∀ a' y,a'.tmps.size=63→a'.defers=[]→a'.eval (.tmp 0)=pt tb→a'.eval (.tmp 1)=.pointer none→a'.eval (.tmp 3)=.int .i64 k→a'.eval (.tmp 8)=.pointer (some ⟨w.heap.size,0,none⟩)→a'.eval (.tmp 10)=.pointer (some ⟨w.heap.size+1,0,none⟩)→a'.eval (.tmp 11)=.pointer (some ⟨sb,0,none⟩)→a'.eval (.tmp 14)=.bool false→DI w k t s sb u a1 b1 dn v (.iface 128 nvv) y→K a' y):(atc Tryz.f45.body [1,1,1,1,1,1,1,1,0]).wp Tryz.prog (Exit.then K Q) a x:=by
 obtain ⟨cc,hcc,hce⟩:=expand63 hs hd
 have g0:=(hce 0).trans x0
 have g1:=(hce 1).trans x1
 have g3:=(hce 3).trans x3
 have g8:=(hce 8).trans x8
 have g10:=(hce 10).trans x10
 have g11:=(hce 11).trans x11
 clear hce hs hd x0 x1 x3 x8 x10 x11
 subst hcc
 conv=>arg 2; whnf
 simp only [lit63,g0,g1,g3,g8,g10,g11]
 clear g0 g1 g3 g8 g10 g11
 have as1:=as_leaf_inner
 have HI:Hid _:=hI
 obtain ⟨⟨e0,e1,e2,e3⟩,-⟩:=cells4 hI.sp
 have HK:Hid (∀ a' y,a'.tmps.size=63→a'.defers=[]→a'.eval (.tmp 0)=pt tb→a'.eval (.tmp 1)=.pointer none→a'.eval (.tmp 3)=.int .i64 k→a'.eval (.tmp 8)=.pointer (some ⟨w.heap.size,0,none⟩)→a'.eval (.tmp 10)=.pointer (some ⟨w.heap.size+1,0,none⟩)→a'.eval (.tmp 11)=.pointer (some ⟨sb,0,none⟩)→a'.eval (.tmp 14)=.bool false→DI w k t s sb u a1 b1 dn v (.iface 128 nvv) y→K a' y):=hK
 clear hI hK
 go_wp2
 exact HK.out _ _ rfl rfl rfl rfl rfl rfl rfl rfl rfl (HI.out.still ((Turned.refl _ _).alloc _))
set_option maxRecDepth 100000 in
set_option maxHeartbeats 1600000 in
theorem down_r7I (hs:a.tmps.size=63) (hd:a.defers=[]) (x0:a.eval (.tmp 0)=pt tb) (x1:a.eval (.tmp 1)=.pointer none) (x3:a.eval (.tmp 3)=.int .i64 k) (x8:a.eval (.tmp 8)=.pointer (some ⟨w.heap.size,0,none⟩)) (x10:a.eval (.tmp 10)=.pointer (some ⟨w.heap.size+1,0,none⟩)) (x11:a.eval (.tmp 11)=.pointer (some ⟨sb,0,none⟩))
  (hI:DI w k t s sb u a1 b1 dn v (.iface 151 (.agg #[.int .i64 c,.int .i64 q,.int .i64 lh,.int .i64 rh,.int .i64 cn])) x)
  (hK:∀ a' y ib,a'.tmps.size=63→a'.defers=[]→a'.eval (.tmp 0)=pt tb→a'.eval (.tmp 1)=.pointer none→a'.eval (.tmp 3)=.int .i64 k→a'.eval (.tmp 8)=.pointer (some ⟨w.heap.size,0,none⟩)→a'.eval (.tmp 10)=.pointer (some ⟨w.heap.size+1,0,none⟩)→a'.eval (.tmp 11)=.pointer (some ⟨sb,0,none⟩)→a'.eval (.tmp 13)=.pointer (some ⟨ib,0,none⟩)→a'.eval (.tmp 14)=.bool true→DI w k t s sb u a1 b1 dn v (.iface 151 (.agg #[.int .i64 c,.int .i64 q,.int .i64 lh,.int .i64 rh,.int .i64 cn])) y→y.heap[ib]?=some (.cells #[.int .i64 c,.int .i64 q,.int .i64 lh,.int .i64 rh,.int .i64 cn] 151 (0,0))→sb < ib→(∀ g,v.ownBlock=some g→g≠ib)→K a' y):(atc Tryz.f45.body [1,1,1,1,1,1,1,1,0]).wp Tryz.prog (Exit.then K Q) a x:=by
 obtain ⟨cc,hcc,hce⟩:=expand63 hs hd
 have g0:=(hce 0).trans x0
 have g1:=(hce 1).trans x1
 have g3:=(hce 3).trans x3
 have g8:=(hce 8).trans x8
 have g10:=(hce 10).trans x10
 have g11:=(hce 11).trans x11
 clear hce hs hd x0 x1 x3 x8 x10 x11
 subst hcc
 conv=>arg 2; whnf
 simp only [lit63,g0,g1,g3,g8,g10,g11]
 clear g0 g1 g3 g8 g10 g11
 have as1:=as_inner_inner
 have HI:Hid _:=hI
 obtain ⟨⟨e0,e1,e2,e3⟩,-⟩:=cells4 hI.sp
 have HK:Hid (∀ a' y ib,a'.tmps.size=63→a'.defers=[]→a'.eval (.tmp 0)=pt tb→a'.eval (.tmp 1)=.pointer none→a'.eval (.tmp 3)=.int .i64 k→a'.eval (.tmp 8)=.pointer (some ⟨w.heap.size,0,none⟩)→a'.eval (.tmp 10)=.pointer (some ⟨w.heap.size+1,0,none⟩)→a'.eval (.tmp 11)=.pointer (some ⟨sb,0,none⟩)→a'.eval (.tmp 13)=.pointer (some ⟨ib,0,none⟩)→a'.eval (.tmp 14)=.bool true→DI w k t s sb u a1 b1 dn v (.iface 151 (.agg #[.int .i64 c,.int .i64 q,.int .i64 lh,.int .i64 rh,.int .i64 cn])) y→y.heap[ib]?=some (.cells #[.int .i64 c,.int .i64 q,.int .i64 lh,.int .i64 rh,.int .i64 cn] 151 (0,0))→sb < ib→(∀ g,v.ownBlock=some g→g≠ib)→K a' y):=hK
 clear hI hK
 go_wp2
 exact HK.out _ _ _ rfl rfl rfl rfl rfl rfl rfl rfl rfl rfl (HI.out.still ((Turned.refl _ _).alloc _)) (blk_new _ _) (lt_of_heap HI.out.sp) (fun g hg=>by have:=(HI.out.row.fresh hg).2; omega)
set_option maxRecDepth 100000 in
set_option maxHeartbeats 1600000 in
theorem down_zL (hs:a.tmps.size=63) (hd:a.defers=[]) (x0:a.eval (.tmp 0)=pt tb) (x1:a.eval (.tmp 1)=.pointer none) (x3:a.eval (.tmp 3)=.int .i64 k) (x8:a.eval (.tmp 8)=.pointer (some ⟨w.heap.size,0,none⟩)) (x10:a.eval (.tmp 10)=.pointer (some ⟨w.heap.size+1,0,none⟩)) (x11:a.eval (.tmp 11)=.pointer (some ⟨sb,0,none⟩)) (x14:a.eval (.tmp 14)=.bool false)
  (hI:DI w k t s sb u a1 b1 dn v (.iface 128 nvv) x) 
  (hQ:∀ a' y,bodyPost Tryz.prog Tryz.f45 R .ret a' y→Q .ret a' y) (hR:∀ y,Turned [] w y→SR w.heap.size y v dn→R (.returned (.tuple #[.agg #[v,.int .i64 u.hd,.int .i64 a1,.int .i64 b1,.iface 128 nvv],.int .i64 0])) y):(atc Tryz.f45.body [1,1,1,1,1,1,1,1,1,0]).wp Tryz.prog (Exit.then K Q) a x:=by
 obtain ⟨cc,hcc,hce⟩:=expand63 hs hd
 have g0:=(hce 0).trans x0
 have g1:=(hce 1).trans x1
 have g3:=(hce 3).trans x3
 have g8:=(hce 8).trans x8
 have g10:=(hce 10).trans x10
 have g11:=(hce 11).trans x11
 have g14:=(hce 14).trans x14
 clear hce hs hd x0 x1 x3 x8 x10 x11 x14
 subst hcc
 conv=>arg 2; whnf
 simp only [lit63,g0,g1,g3,g8,g10,g11,g14]
 clear g0 g1 g3 g8 g10 g11 g14
 obtain ⟨va,vc,rfl⟩:=hI.row.form
 generalize hU:u.hd=uh at *
 have HI:Hid _:=hI
 have HR:Hid _:=hR
 have HQ:Hid _:=hQ
 clear hI hR hQ
 obtain ⟨y0w,hy⟩:∃ y,x=y:=⟨_,rfl⟩
 rw [hy] at HI ⊢
 have HJ:Hid _:=HI
 clear hy HI
 have m1:¬ w.heap.size=sb:=by have:=HJ.out.sb; omega
 have m2:¬ w.heap.size+1=sb:=by have:=HJ.out.sb; omega
 have hcs:=HJ.out.sp
 rw [hU] at hcs
 obtain ⟨⟨c0,c1,c2,c3⟩,-⟩:=cells4 hcs
 obtain ⟨⟨d0,d1,d2,d3,d4⟩,z0,z1,z2,z3,z4⟩:=cells5 HJ.out.d
 obtain ⟨⟨r0,r1,r2,r3,r4⟩,q0,q1,q2,q3,q4⟩:=cells5 HJ.out.res
 clear hcs
 go_wp2
 have hRes:=HJ.out.res
 refine HQ.out _ _ (bodyPost_ret (v:=.tuple #[.agg #[.slice va dn.length vc,.int .i64 uh,.int .i64 a1,.int .i64 b1,.iface 128 nvv],.int .i64 0]) (by simp [results,Tryz.results45,go_sem,r0,r1,r2,r3,r4]) rfl (HR.out _ (HJ.out.turned.inner (m:=[w.heap.size,w.heap.size+1]) ?_ (by simp)) (SR.lower (SR.keep (w:=y0w) (F:=[w.heap.size,w.heap.size+1]) HJ.out.row ?_ (fun g hg=>by have:=(HJ.out.row.fresh hg).1; have:=HJ.out.sb; simp; omega)) (by have:=HJ.out.sb; omega))))
 all_goals
  iterate 9 (refine Turned.set ?_ (.inl (by simp)) _ _)
  exact Turned.refl _ _
set_option maxRecDepth 100000 in
set_option maxHeartbeats 1600000 in
theorem down_zI {X:Int} (hs:a.tmps.size=63) (hd:a.defers=[]) (x0:a.eval (.tmp 0)=pt tb) (x1:a.eval (.tmp 1)=.pointer none) (x3:a.eval (.tmp 3)=.int .i64 k) (x8:a.eval (.tmp 8)=.pointer (some ⟨w.heap.size,0,none⟩)) (x10:a.eval (.tmp 10)=.pointer (some ⟨w.heap.size+1,0,none⟩)) (x11:a.eval (.tmp 11)=.pointer (some ⟨sb,0,none⟩)) (x13:a.eval (.tmp 13)=.pointer (some ⟨ib,0,none⟩)) (x14:a.eval (.tmp 14)=.bool true)
  (hI:DI w k t s sb u a1 b1 dn v (.iface 151 (.agg #[.int .i64 c,.int .i64 q,.int .i64 lh,.int .i64 rh,.int .i64 cn])) x) (hSp:∀ x,Calls Tryz.prog 76 #[.agg #[.int .i64 c,.int .i64 q,.int .i64 lh,.int .i64 rh,.int .i64 cn]] x fun e w'=>e=.returned (.agg #[.int .i64 c,.int .i64 X])∧Turned [] x w') (hHas:∀ x,Calls Tryz.prog 70 #[.agg #[.int .i64 c,.int .i64 X],.int .i64 k] x fun e w'=>e=.returned (.bool false)∧Turned [] x w') (hib:x.heap[ib]?=some (.cells #[.int .i64 c,.int .i64 q,.int .i64 lh,.int .i64 rh,.int .i64 cn] 151 (0,0)))
  (hQ:∀ a' y,bodyPost Tryz.prog Tryz.f45 R .ret a' y→Q .ret a' y) (hR:∀ y,Turned [] w y→SR w.heap.size y v dn→R (.returned (.tuple #[.agg #[v,.int .i64 u.hd,.int .i64 a1,.int .i64 b1,.iface 151 (.agg #[.int .i64 c,.int .i64 q,.int .i64 lh,.int .i64 rh,.int .i64 cn])],.int .i64 0])) y):(atc Tryz.f45.body [1,1,1,1,1,1,1,1,1,0]).wp Tryz.prog (Exit.then K Q) a x:=by
 obtain ⟨cc,hcc,hce⟩:=expand63 hs hd
 have g0:=(hce 0).trans x0
 have g1:=(hce 1).trans x1
 have g3:=(hce 3).trans x3
 have g8:=(hce 8).trans x8
 have g10:=(hce 10).trans x10
 have g11:=(hce 11).trans x11
 have g13:=(hce 13).trans x13
 have g14:=(hce 14).trans x14
 clear hce hs hd x0 x1 x3 x8 x10 x11 x13 x14
 subst hcc
 conv=>arg 2; whnf
 simp only [lit63,g0,g1,g3,g8,g10,g11,g13,g14]
 clear g0 g1 g3 g8 g10 g11 g13 g14
 obtain ⟨va,vc,rfl⟩:=hI.row.form
 generalize hU:u.hd=uh at *
 have HI:Hid _:=hI
 have HR:Hid _:=hR
 have HQ:Hid _:=hQ
 clear hI hR hQ
 have HSp:Hid _:=hSp
 have HHas:Hid _:=hHas
 obtain ⟨⟨i0,i1,i2,i3,i4⟩,-⟩:=cells5 hib
 clear hSp hHas
 go_wp2_with (first
  | (go_at_call 76; refine (HSp.out _).mono ?_; rintro e w7 ⟨rfl,ht7⟩; have HT7:Hid (Turned [] x w7):=ht7; clear ht7)
  | (go_at_call 70; refine (HHas.out _).mono ?_; rintro e y0w ⟨rfl,ht8⟩; have HT8:Hid (Turned [] x y0w):=HT7.out.trans ht8; clear ht8; have HJ:Hid _:=HI.out.still HT8.out; have m1:¬ w.heap.size=sb:=(by have:=HJ.out.sb; omega); have m2:¬ w.heap.size+1=sb:=(by have:=HJ.out.sb; omega); have hcs:=HJ.out.sp; rw [hU] at hcs; obtain ⟨⟨c0,c1,c2,c3⟩,-⟩:=cells4 hcs; obtain ⟨⟨d0,d1,d2,d3,d4⟩,z0,z1,z2,z3,z4⟩:=cells5 HJ.out.d; obtain ⟨⟨r0,r1,r2,r3,r4⟩,q0,q1,q2,q3,q4⟩:=cells5 HJ.out.res; clear hcs))
 have hRes:=HJ.out.res
 refine HQ.out _ _ (bodyPost_ret (v:=.tuple #[.agg #[.slice va dn.length vc,.int .i64 uh,.int .i64 a1,.int .i64 b1,.iface 151 (.agg #[.int .i64 c,.int .i64 q,.int .i64 lh,.int .i64 rh,.int .i64 cn])],.int .i64 0]) (by simp [results,Tryz.results45,go_sem,r0,r1,r2,r3,r4]) rfl (HR.out _ (HJ.out.turned.inner (m:=[w.heap.size,w.heap.size+1]) ?_ (by simp)) (SR.lower (SR.keep (w:=y0w) (F:=[w.heap.size,w.heap.size+1]) HJ.out.row ?_ (fun g hg=>by have:=(HJ.out.row.fresh hg).1; have:=HJ.out.sb; simp; omega)) (by have:=HJ.out.sb; omega))))
 all_goals
  iterate 9 (refine Turned.set ?_ (.inl (by simp)) _ _)
  exact Turned.refl _ _
set_option maxRecDepth 100000 in
set_option maxHeartbeats 1600000 in
theorem down_zK {X:Int} (hs:a.tmps.size=63) (hd:a.defers=[]) (x0:a.eval (.tmp 0)=pt tb) (x1:a.eval (.tmp 1)=.pointer none) (x3:a.eval (.tmp 3)=.int .i64 k) (x8:a.eval (.tmp 8)=.pointer (some ⟨w.heap.size,0,none⟩)) (x10:a.eval (.tmp 10)=.pointer (some ⟨w.heap.size+1,0,none⟩)) (x11:a.eval (.tmp 11)=.pointer (some ⟨sb,0,none⟩)) (x13:a.eval (.tmp 13)=.pointer (some ⟨ib,0,none⟩)) (x14:a.eval (.tmp 14)=.bool true)
  (hI:DI w k t s sb u a1 b1 dn v (.iface 151 (.agg #[.int .i64 c,.int .i64 q,.int .i64 lh,.int .i64 rh,.int .i64 cn])) x) (hSp:∀ x,Calls Tryz.prog 76 #[.agg #[.int .i64 c,.int .i64 q,.int .i64 lh,.int .i64 rh,.int .i64 cn]] x fun e w'=>e=.returned (.agg #[.int .i64 c,.int .i64 X])∧Turned [] x w') (hHas:∀ x,Calls Tryz.prog 70 #[.agg #[.int .i64 c,.int .i64 X],.int .i64 k] x fun e w'=>e=.returned (.bool true)∧Turned [] x w') (hib:x.heap[ib]?=some (.cells #[.int .i64 c,.int .i64 q,.int .i64 lh,.int .i64 rh,.int .i64 cn] 151 (0,0)))
  (hK:∀ a' y,a'.tmps.size=63→a'.defers=[]→a'.eval (.tmp 0)=pt tb→a'.eval (.tmp 1)=.pointer none→a'.eval (.tmp 3)=.int .i64 k→a'.eval (.tmp 8)=.pointer (some ⟨w.heap.size,0,none⟩)→a'.eval (.tmp 10)=.pointer (some ⟨w.heap.size+1,0,none⟩)→a'.eval (.tmp 11)=.pointer (some ⟨sb,0,none⟩)→a'.eval (.tmp 13)=.pointer (some ⟨ib,0,none⟩)→DI w k t s sb u a1 b1 dn v (.iface 151 (.agg #[.int .i64 c,.int .i64 q,.int .i64 lh,.int .i64 rh,.int .i64 cn])) y→y.heap[ib]?=some (.cells #[.int .i64 c,.int .i64 q,.int .i64 lh,.int .i64 rh,.int .i64 cn] 151 (0,0))→K a' y):(atc Tryz.f45.body [1,1,1,1,1,1,1,1,1,0]).wp Tryz.prog (Exit.then K Q) a x:=by
 obtain ⟨cc,hcc,hce⟩:=expand63 hs hd
 have g0:=(hce 0).trans x0
 have g1:=(hce 1).trans x1
 have g3:=(hce 3).trans x3
 have g8:=(hce 8).trans x8
 have g10:=(hce 10).trans x10
 have g11:=(hce 11).trans x11
 have g13:=(hce 13).trans x13
 have g14:=(hce 14).trans x14
 clear hce hs hd x0 x1 x3 x8 x10 x11 x13 x14
 subst hcc
 conv=>arg 2; whnf
 simp only [lit63,g0,g1,g3,g8,g10,g11,g13,g14]
 clear g0 g1 g3 g8 g10 g11 g13 g14
 have HI:Hid _:=hI
 have HIB:Hid _:=hib
 have HSp:Hid _:=hSp
 have HHas:Hid _:=hHas
 obtain ⟨⟨i0,i1,i2,i3,i4⟩,-⟩:=cells5 hib
 clear hSp hHas
 have HK:Hid _:=hK
 clear hI hK hib
 go_wp2_with (first
  | (go_at_call 76; refine (HSp.out _).mono ?_; rintro e w7 ⟨rfl,ht7⟩; have HT7:Hid (Turned [] x w7):=ht7; clear ht7)
  | (go_at_call 70; refine (HHas.out _).mono ?_; rintro e y0w ⟨rfl,ht8⟩; have HT8:Hid (Turned [] x y0w):=HT7.out.trans ht8; clear ht8))
 exact HK.out _ _ rfl rfl rfl rfl rfl rfl rfl rfl rfl (HI.out.still HT8.out) (HT8.out.heap HIB.out (by simp))
set_option maxRecDepth 100000 in
set_option maxHeartbeats 1600000 in
theorem down_r11 {sd:Int} (hs:a.tmps.size=63) (hd:a.defers=[]) (x0:a.eval (.tmp 0)=pt tb) (x1:a.eval (.tmp 1)=.pointer none) (x3:a.eval (.tmp 3)=.int .i64 k) (x8:a.eval (.tmp 8)=.pointer (some ⟨w.heap.size,0,none⟩)) (x10:a.eval (.tmp 10)=.pointer (some ⟨w.heap.size+1,0,none⟩)) (x11:a.eval (.tmp 11)=.pointer (some ⟨sb,0,none⟩)) (x13:a.eval (.tmp 13)=.pointer (some ⟨ib,0,none⟩))
  (hI:DI w k t s sb u a1 b1 dn v (.iface 151 (.agg #[.int .i64 c,.int .i64 q,.int .i64 lh,.int .i64 rh,.int .i64 cn])) x) (hSd:∀ y,Turned [] x y→Calls Tryz.prog 77 #[.agg #[.int .i64 c,.int .i64 q,.int .i64 lh,.int .i64 rh,.int .i64 cn],.int .i64 k] y fun e w'=>e=.returned (.int .i64 sd)∧Turned [] y w') (hib:x.heap[ib]?=some (.cells #[.int .i64 c,.int .i64 q,.int .i64 lh,.int .i64 rh,.int .i64 cn] 151 (0,0)))
  (hK:∀ a' y,a'.tmps.size=63→a'.defers=[]→a'.eval (.tmp 0)=pt tb→a'.eval (.tmp 1)=.pointer none→a'.eval (.tmp 3)=.int .i64 k→a'.eval (.tmp 8)=.pointer (some ⟨w.heap.size,0,none⟩)→a'.eval (.tmp 10)=.pointer (some ⟨w.heap.size+1,0,none⟩)→a'.eval (.tmp 11)=.pointer (some ⟨sb,0,none⟩)→a'.eval (.tmp 13)=.pointer (some ⟨ib,0,none⟩)→a'.eval (.tmp 15)=.int .i64 sd→DI w k t s sb u a1 b1 dn v (.iface 151 (.agg #[.int .i64 c,.int .i64 q,.int .i64 lh,.int .i64 rh,.int .i64 cn])) y→y.heap[ib]?=some (.cells #[.int .i64 c,.int .i64 q,.int .i64 lh,.int .i64 rh,.int .i64 cn] 151 (0,0))→K a' y):(atc Tryz.f45.body [1,1,1,1,1,1,1,1,1,1,0]).wp Tryz.prog (Exit.then K Q) a x:=by
 obtain ⟨cc,hcc,hce⟩:=expand63 hs hd
 have g0:=(hce 0).trans x0
 have g1:=(hce 1).trans x1
 have g3:=(hce 3).trans x3
 have g8:=(hce 8).trans x8
 have g10:=(hce 10).trans x10
 have g11:=(hce 11).trans x11
 have g13:=(hce 13).trans x13
 clear hce hs hd x0 x1 x3 x8 x10 x11 x13
 subst hcc
 conv=>arg 2; whnf
 simp only [lit63,g0,g1,g3,g8,g10,g11,g13]
 clear g0 g1 g3 g8 g10 g11 g13
 have HI:Hid _:=hI
 have HIB:Hid _:=hib
 have HSd:Hid _:=hSd
 obtain ⟨⟨i0,i1,i2,i3,i4⟩,-⟩:=cells5 hib
 have HK:Hid _:=hK
 clear hI hK hib hSd
 go_wp2_with (go_at_call 77; refine (HSd.out _ (Turned.refl _ _)).mono ?_; rintro e w9 ⟨rfl,ht9⟩; have HT9:Hid (Turned [] x w9):=ht9; clear ht9)
 exact HK.out _ _ rfl rfl rfl rfl rfl rfl rfl rfl rfl rfl (HI.out.still HT9.out) (HT9.out.heap HIB.out (by simp))
set_option maxRecDepth 100000 in
set_option maxHeartbeats 1600000 in
theorem down_r12 {sd:Int} {tn:Tr} (hs:a.tmps.size=63) (hd:a.defers=[]) (x0:a.eval (.tmp 0)=pt tb) (x1:a.eval (.tmp 1)=.pointer none) (x3:a.eval (.tmp 3)=.int .i64 k) (x8:a.eval (.tmp 8)=.pointer (some ⟨w.heap.size,0,none⟩)) (x10:a.eval (.tmp 10)=.pointer (some ⟨w.heap.size+1,0,none⟩)) (x11:a.eval (.tmp 11)=.pointer (some ⟨sb,0,none⟩)) (x13:a.eval (.tmp 13)=.pointer (some ⟨ib,0,none⟩)) (x15:a.eval (.tmp 15)=.int .i64 sd)
  (hI:DI w k t s sb u a1 b1 dn v (.iface 151 (.agg #[.int .i64 c,.int .i64 q,.int .i64 lh,.int .i64 rh,.int .i64 cn])) x) (hlt:sb < ib) (hst:stepC (tn,sd)=[.int .i64 u.hd,.int .i64 c,.int .i64 q,.int .i64 lh,.int .i64 rh,.int .i64 cn,.int .i64 sd]) (hib:x.heap[ib]?=some (.cells #[.int .i64 c,.int .i64 q,.int .i64 lh,.int .i64 rh,.int .i64 cn] 151 (0,0))) (hiv:∀ g,v.ownBlock=some g→g≠ib)
  (hK:∀ a' y v',a'.tmps.size=63→a'.defers=[]→a'.eval (.tmp 0)=pt tb→a'.eval (.tmp 1)=.pointer none→a'.eval (.tmp 3)=.int .i64 k→a'.eval (.tmp 8)=.pointer (some ⟨w.heap.size,0,none⟩)→a'.eval (.tmp 10)=.pointer (some ⟨w.heap.size+1,0,none⟩)→a'.eval (.tmp 11)=.pointer (some ⟨sb,0,none⟩)→a'.eval (.tmp 13)=.pointer (some ⟨ib,0,none⟩)→a'.eval (.tmp 15)=.int .i64 sd→DG w k t s sb u a1 b1 (dn ++ [(tn,sd)]) v' (.iface 151 (.agg #[.int .i64 c,.int .i64 q,.int .i64 lh,.int .i64 rh,.int .i64 cn])) y→y.heap[ib]?=some (.cells #[.int .i64 c,.int .i64 q,.int .i64 lh,.int .i64 rh,.int .i64 cn] 151 (0,0))→K a' y):(atc Tryz.f45.body [1,1,1,1,1,1,1,1,1,1,1,0]).wp Tryz.prog (Exit.then K Q) a x:=by
 obtain ⟨cc,hcc,hce⟩:=expand63 hs hd
 have g0:=(hce 0).trans x0
 have g1:=(hce 1).trans x1
 have g3:=(hce 3).trans x3
 have g8:=(hce 8).trans x8
 have g10:=(hce 10).trans x10
 have g11:=(hce 11).trans x11
 have g13:=(hce 13).trans x13
 have g15:=(hce 15).trans x15
 clear hce hs hd x0 x1 x3 x8 x10 x11 x13 x15
 subst hcc
 conv=>arg 2; whnf
 simp only [lit63,g0,g1,g3,g8,g10,g11,g13,g15]
 clear g0 g1 g3 g8 g10 g11 g13 g15
 obtain ⟨va,vc,rfl⟩:=hI.row.form
 have HST:Hid _:=hst
 have HIV:Hid _:=hiv
 obtain ⟨⟨i0,i1,i2,i3,i4⟩,-⟩:=cells5 hib
 obtain ⟨⟨c0,c1,c2,c3⟩,-⟩:=cells4 hI.sp
 obtain ⟨⟨d0,d1,d2,d3,d4⟩,z0,z1,z2,z3,z4⟩:=cells5 hI.d
 have n2:w.heap.size+1 < x.heap.size:=lt_of_heap hI.d
 have n3:sb < x.heap.size:=lt_of_heap hI.sp
 have n4:ib < x.heap.size:=lt_of_heap hib
 have HI:Hid _:=hI
 have HIB:Hid _:=hib
 have HK:Hid _:=hK
 generalize hU:u.hd=uh at *
 clear hI hK hib hst hiv
 go_wp2_with (at_builtin; refine wpList_apStep (x:=(tn,sd)) (g:=x.heap.size) (l:=dn) (B:=sb+1) rfl _ _ rfl rfl (HI.out.row.still ((Turned.refl _ _).alloc _)) rfl (fun j z hj=>by rw [cell_at (blk_new _ _)]; rw [HST.out] at hj; simpa using hj) (by have:=HI.out.len; omega) (by simp; omega) ?_; intro v' w11 hsr ht11 hor; obtain ⟨va2,vc2,rfl⟩:=hsr.form; have hd2:w11.heap[w.heap.size+1]?=_:=ht11.heap (blk_old HI.out.d _) (fun hm=>by have:=(HI.out.row.fresh (Option.mem_toList.1 hm)).1; have:=HI.out.sb; omega); obtain ⟨⟨e0,e1,e2,e3,e4⟩,f0,f1,f2,f3,f4⟩:=cells5 hd2; have HSR:Hid _:=hsr; have HT11:Hid _:=ht11; have HOR:Hid _:=hor; have HD2:Hid _:=hd2; clear hsr ht11 hor hd2)
 have hsl:(Value.slice va2 (dn.length+1) vc2)=.slice va2 (dn ++ [(tn,sd)]).length vc2:=by simp
 rw [hsl]
 have hg:=HI.out.grow HT11.out HSR.out
 exact HK.out _ _ _ rfl rfl rfl rfl rfl rfl rfl rfl rfl rfl hg.1 (hg.2 _ _ HIB.out hlt HIV.out)
set_option maxRecDepth 100000 in
set_option maxHeartbeats 1600000 in
theorem down_r13 {sd a2 b2:Int} {u':Tr} (hs:a.tmps.size=63) (hd:a.defers=[]) (x0:a.eval (.tmp 0)=pt tb) (x1:a.eval (.tmp 1)=.pointer none) (x3:a.eval (.tmp 3)=.int .i64 k) (x8:a.eval (.tmp 8)=.pointer (some ⟨w.heap.size,0,none⟩)) (x10:a.eval (.tmp 10)=.pointer (some ⟨w.heap.size+1,0,none⟩)) (x11:a.eval (.tmp 11)=.pointer (some ⟨sb,0,none⟩)) (x13:a.eval (.tmp 13)=.pointer (some ⟨ib,0,none⟩)) (x15:a.eval (.tmp 15)=.int .i64 sd)
  (hI:DG w k t s sb u a1 b1 dn v (.iface 151 (.agg #[.int .i64 c,.int .i64 q,.int .i64 lh,.int .i64 rh,.int .i64 cn])) x) (hib:x.heap[ib]?=some (.cells #[.int .i64 c,.int .i64 q,.int .i64 lh,.int .i64 rh,.int .i64 cn] 151 (0,0))) (hCh:∀ y,Calls Tryz.prog 78 #[.agg #[.int .i64 c,.int .i64 q,.int .i64 lh,.int .i64 rh,.int .i64 cn],.int .i64 sd] y fun e w'=>e=.returned (.agg #[.int .i64 u'.hd,.int .i64 a2,.int .i64 b2,.nilIface])∧Turned [] y w') (hw:u'.WF) (hp:Rep s u') (hlo:a2≤u'.lo) (hhi:u'.hi≤b2) (hwy:t.way k=dn ++ u'.way k) (hst:t.stop k=u'.stop k) (hl:dn.length+u'.deep≤32)
  (hK:∀ a' y,a'.tmps.size=63→a'.defers=[]→a'.eval (.tmp 0)=pt tb→a'.eval (.tmp 1)=.pointer none→a'.eval (.tmp 3)=.int .i64 k→a'.eval (.tmp 8)=.pointer (some ⟨w.heap.size,0,none⟩)→a'.eval (.tmp 10)=.pointer (some ⟨w.heap.size+1,0,none⟩)→a'.eval (.tmp 11)=.pointer (some ⟨sb,0,none⟩)→DI w k t s sb u' a2 b2 dn v .nilIface y→K a' y):(atc Tryz.f45.body [1,1,1,1,1,1,1,1,1,1,1,1]).wp Tryz.prog (Exit.then K Q) a x:=by
 obtain ⟨cc,hcc,hce⟩:=expand63 hs hd
 have g0:=(hce 0).trans x0
 have g1:=(hce 1).trans x1
 have g3:=(hce 3).trans x3
 have g8:=(hce 8).trans x8
 have g10:=(hce 10).trans x10
 have g11:=(hce 11).trans x11
 have g13:=(hce 13).trans x13
 have g15:=(hce 15).trans x15
 clear hce hs hd x0 x1 x3 x8 x10 x11 x13 x15
 subst hcc
 conv=>arg 2; whnf
 simp only [lit63,g0,g1,g3,g8,g10,g11,g13,g15]
 clear g0 g1 g3 g8 g10 g11 g13 g15
 have HI:Hid _:=hI
 have HK:Hid _:=hK
 have HCh:Hid _:=hCh
 have HX:Hid (u'.WF∧Rep s u'∧a2≤u'.lo∧u'.hi≤b2∧t.way k=dn ++ u'.way k∧t.stop k=u'.stop k∧dn.length+u'.deep≤32):=⟨hw,hp,hlo,hhi,hwy,hst,hl⟩
 obtain ⟨⟨i0,i1,i2,i3,i4⟩,-⟩:=cells5 hib
 generalize hU:u'.hd=uh at *
 clear hI hK hCh hib hw hp hlo hhi hwy hst hl
 go_wp2_with (go_at_call 78; refine (HCh.out _).mono ?_; rintro e w2 ⟨rfl,ht2⟩; have h2:=ht2.heap HI.out.sp (by simp); obtain ⟨⟨c0,c1,c2,c3⟩,y0,y1,y2,y3⟩:=cells4 h2; have HT2:Hid (Turned [] x w2):=ht2; have HS2:Hid _:=h2; clear ht2 h2)
 have h5:=set4 HS2.out (.int .i64 uh) (.int .i64 a2) (.int .i64 b2) .nilIface
 obtain ⟨j1,j2,j3,j4,j5,j6,j7⟩:=HX.out
 exact HK.out _ _ rfl rfl rfl rfl rfl rfl rfl rfl ((HI.out.still HT2.out).next h5.2 (by rw [hU]; exact h5.1) j1 j2 j3 j4 j5 j6 j7)
end
end Go.Proofs.YtloljphbdfjgdaaGreatDoor
/- Package trie's down, alone, by contract. -/
namespace Go.Proofs.YtloljphbdfjgdaaGreatDoor
open Go.RowKit
theorem nv_form (u:Tr):∃ T x,nv u=.iface T x:=by cases u <;> exact ⟨_,_,rfl⟩
theorem wp_last {P:Program} {c:Code} {M:Act→World→Prop} {Q:Exit→Act→World→Prop} {id:Nat} {a:Act} {x:World} (h:c.wp P (Exit.then M (fun _ _ _=>False)) a x):c.wp P (Exit.inBlock id (Exit.then M Q)) a x :=
 wp_mono h fun e _ _ h=>by cases e <;> first | exact h | exact h.elim
structure DF (w:World) (tb sb:Nat) (k:Int) (t:Tr) (s:PSt) (a:Act) (x:World):Prop where
 hs:a.tmps.size=63
 hd:a.defers=[]
 x0:a.eval (.tmp 0)=pt tb
 x1:a.eval (.tmp 1)=.pointer none
 x3:a.eval (.tmp 3)=.int .i64 k
 x8:a.eval (.tmp 8)=.pointer (some ⟨w.heap.size,0,none⟩)
 x10:a.eval (.tmp 10)=.pointer (some ⟨w.heap.size+1,0,none⟩)
 x11:a.eval (.tmp 11)=.pointer (some ⟨sb,0,none⟩)
 ex:DX w k t s sb x
def DownR (w:World) (k:Int) (t:Tr) (e:Ending) (y:World):Prop:=∃ v a b,e=.returned (.tuple #[.agg #[v,.int .i64 (t.stop k).hd,.int .i64 a,.int .i64 b,nv (t.stop k)],.int .i64 0])∧Turned [] w y∧SR w.heap.size y v (t.way k)∧a≤(t.stop k).lo∧(t.stop k).hi≤b
theorem lenAt_of {w x:World} {k:Int} {t u:Tr} {s:PSt} {sb:Nat} {a b:Int} {dn:List (Tr × Int)} {v n:Value} (h:DI w k t s sb u a b dn v n x):lenAt x (w.heap.size+1)=dn.length:=by
 obtain ⟨va,vc,rfl⟩:=h.row.form
 unfold lenAt
 rw [(cells5 h.d).1.1]
set_option maxRecDepth 100000 in
set_option maxHeartbeats 1600000 in
theorem down_round {w x:World} {tb p sb:Nat} {F:List Nat} {s:PSt} {t:Tr} {k:Int} {a:Act} {Q:Exit→Act→World→Prop} (hT:TrieB w tb p) (hA:PoolAt w p F s) (hO:s.Ok) (h0:0≤k) (h1:k≤4294967295) (h:DF w tb sb k t s a x)
  (hQ:∀ a' y,bodyPost Tryz.prog Tryz.f45 (DownR w k t) .ret a' y→Q .ret a' y) :
  (atc Tryz.f45.body [1,1,1,1,1]).wp Tryz.prog (Exit.then (fun a' y=>DF w tb sb k t s a' y∧33 - lenAt y (w.heap.size+1) < 33 - lenAt x (w.heap.size+1)) Q) a x:=by
 obtain ⟨hs,hd,x0,x1,x3,x8,x10,x11,⟨u,a1,b1,dn,v,hI⟩⟩:=h
 have hlen:=lenAt_of hI
 have hl32:=hI.len
 refine wp_block ?_
 refine wp_seq (down_r3 hs hd x0 x1 x3 x8 x10 x11 ?_)
 clear hs hd x0 x1 x3 x8 x10 x11
 intro a2 hs hd x0 x1 x3 x8 x10 x11
 obtain ⟨T,nvv,hN⟩:=nv_form u
 refine wp_seq (down_rd hs hd x0 x1 x3 x8 x10 x11 hI hN hT hA hO ?_)
 clear hs hd x0 x1 x3 x8 x10 x11 hI
 intro a3 y hs hd x0 x1 x3 x8 x10 x11 hI
 cases u with
 | leaf h kk vv =>
  cases hN
  refine wp_seq (down_r7L hs hd x0 x1 x3 x8 x10 x11 hI ?_)
  clear hs hd x0 x1 x3 x8 x10 x11 hI
  intro a4 y hs hd x0 x1 x3 x8 x10 x11 x14 hI
  refine wp_seq (down_zL hs hd x0 x1 x3 x8 x10 x11 x14 hI (fun a' y h=>hQ a' y h) fun z hz hr=>⟨v,a1,b1,?_,hz,?_,?_,?_⟩)
  ·rw [hI.stop]; rfl
  ·rw [hI.way]; simpa [Tr.way] using hr
  ·rw [hI.stop]; exact hI.lo
  ·rw [hI.stop]; exact hI.hi
 | node h q c l r =>
  obtain ⟨g1,g2,g3,g4,g5,g6,g7,g8,g9,g10⟩:=id hI.wf
  have hpow:=Tr.pow_pos' q
  have hdp:=hI.wf.deep_lt
  have hdd:(Tr.node h q c l r).deep=q+1:=rfl
  rw [hdd] at hl32
  cases hN
  refine wp_seq (down_r7I hs hd x0 x1 x3 x8 x10 x11 hI ?_)
  clear hs hd x0 x1 x3 x8 x10 x11 hI
  intro a4 y ib hs hd x0 x1 x3 x8 x10 x11 x13 x14 hI hib hlt hiv
  rcases (by omega:(c≤k∧k < c+2 ^ q)∨(c+2 ^ q≤k∧k < c+2 * 2 ^ q)∨(k < c∨c+2 * 2 ^ q≤k)) with ⟨k1,k2⟩ | ⟨k1,k2⟩ | kx
  ·refine wp_seq (down_zK hs hd x0 x1 x3 x8 x10 x11 x13 x14 hI (cInnerSpan _ _ _ g2 g3 g1) (cSpHas _ _ _ (decide_eq_true (by omega))) hib ?_)
   clear hs hd x0 x1 x3 x8 x10 x11 x13 x14 hI hib
   intro a5 y hs hd x0 x1 x3 x8 x10 x11 x13 hI hib
   refine wp_seq (down_r11 (sd:=0) hs hd x0 x1 x3 x8 x10 x11 x13 hI (fun z hz=>cSide _ _ ((hT.still hI.turned).still hz).tab h0 h1 g1 (bit_low h0 g4 k1 k2)) hib ?_)
   clear hs hd x0 x1 x3 x8 x10 x11 x13 hI hib
   intro a6 y hs hd x0 x1 x3 x8 x10 x11 x13 x15 hI hib
   refine wp_seq (down_r12 (tn:=.node h q c l r) hs hd x0 x1 x3 x8 x10 x11 x13 x15 hI hlt rfl hib hiv ?_)
   clear hs hd x0 x1 x3 x8 x10 x11 x13 x15 hib
   intro a7 y v' hs hd x0 x1 x3 x8 x10 x11 x13 x15 hG hib
   refine wp_last (down_r13 (u':=l) (K:=fun a' y=>DF w tb sb k t s a' y∧33 - lenAt y (w.heap.size+1) < 33 - lenAt x (w.heap.size+1)) hs hd x0 x1 x3 x8 x10 x11 x13 x15 hG hib (cChild0 _ _ _ g2 g3 g1) g9 hI.rep.2.1 g5 (by omega) ?_ ?_ (by simp only [List.length_append,List.length_cons,List.length_nil]; have:=hdp.1; omega) ?_)
   ·rw [hI.way,show Tr.way k (.node h q c l r)=(.node h q c l r,0) :: Tr.way k l by simp only [Tr.way]; rw [if_pos ⟨k1,k2⟩]]; simp
   ·rw [hI.stop]; simp only [Tr.stop]; rw [if_pos ⟨k1,k2⟩]
   ·intro a8 z hs hd x0 x1 x3 x8 x10 x11 hJ
    refine ⟨⟨hs,hd,x0,x1,x3,x8,x10,x11,⟨_,_,_,_,_,hJ⟩⟩,?_⟩
    rw [lenAt_of hJ,hlen]
    simp only [List.length_append,List.length_cons,List.length_nil]
    omega
  ·refine wp_seq (down_zK hs hd x0 x1 x3 x8 x10 x11 x13 x14 hI (cInnerSpan _ _ _ g2 g3 g1) (cSpHas _ _ _ (decide_eq_true (by omega))) hib ?_)
   clear hs hd x0 x1 x3 x8 x10 x11 x13 x14 hI hib
   intro a5 y hs hd x0 x1 x3 x8 x10 x11 x13 hI hib
   refine wp_seq (down_r11 (sd:=1) hs hd x0 x1 x3 x8 x10 x11 x13 hI (fun z hz=>cSide _ _ ((hT.still hI.turned).still hz).tab h0 h1 g1 (bit_high h0 g4 k1 k2)) hib ?_)
   clear hs hd x0 x1 x3 x8 x10 x11 x13 hI hib
   intro a6 y hs hd x0 x1 x3 x8 x10 x11 x13 x15 hI hib
   refine wp_seq (down_r12 (tn:=.node h q c l r) hs hd x0 x1 x3 x8 x10 x11 x13 x15 hI hlt rfl hib hiv ?_)
   clear hs hd x0 x1 x3 x8 x10 x11 x13 x15 hib
   intro a7 y v' hs hd x0 x1 x3 x8 x10 x11 x13 x15 hG hib
   refine wp_last (down_r13 (u':=r) (K:=fun a' y=>DF w tb sb k t s a' y∧33 - lenAt y (w.heap.size+1) < 33 - lenAt x (w.heap.size+1)) hs hd x0 x1 x3 x8 x10 x11 x13 x15 hG hib (cChild1 _ _ _ g2 g3 g1) g10 hI.rep.2.2 g7 (by omega) ?_ ?_ (by simp only [List.length_append,List.length_cons,List.length_nil]; have:=hdp.2; omega) ?_)
   ·rw [hI.way,show Tr.way k (.node h q c l r)=(.node h q c l r,1) :: Tr.way k r by simp only [Tr.way]; rw [if_neg (by omega),if_pos ⟨k1,k2⟩]]; simp
   ·rw [hI.stop]; simp only [Tr.stop]; rw [if_neg (by omega),if_pos ⟨k1,k2⟩]
   ·intro a8 z hs hd x0 x1 x3 x8 x10 x11 hJ
    refine ⟨⟨hs,hd,x0,x1,x3,x8,x10,x11,⟨_,_,_,_,_,hJ⟩⟩,?_⟩
    rw [lenAt_of hJ,hlen]
    simp only [List.length_append,List.length_cons,List.length_nil]
    omega
  ·have e1:Tr.stop k (.node h q c l r)=.node h q c l r:=by simp only [Tr.stop]; rw [if_neg (by omega),if_neg (by omega)]
   have e2:Tr.way k (.node h q c l r)=[]:=by simp only [Tr.way]; rw [if_neg (by omega),if_neg (by omega)]
   refine wp_seq (down_zI hs hd x0 x1 x3 x8 x10 x11 x13 x14 hI (cInnerSpan _ _ _ g2 g3 g1) (cSpHas _ _ _ (decide_eq_false (by omega))) hib (fun a' y h=>hQ a' y h) fun z hz hr=>⟨v,a1,b1,?_,hz,?_,?_,?_⟩)
   ·rw [hI.stop,e1]; rfl
   ·rw [hI.way,e2]; simpa using hr
   ·rw [hI.stop,e1]; exact hI.lo
   ·rw [hI.stop,e1]; exact hI.hi
set_option maxRecDepth 100000 in
set_option maxHeartbeats 1600000 in
theorem cDown {w:World} {tb p:Nat} {F:List Nat} {s:PSt} {t:Tr} {k:Int} (hT:TrieB w tb p) (hA:PoolAt w p F s) (hO:s.Ok) (hc:Rep s t) (hw:t.WF) (h0:0≤k) (h1:k≤4294967295) :
  Calls Tryz.prog 45 #[pt tb,.pointer none,.int .i64 t.hd,.int .i64 k] w (DownR w k t):=by
 have HT:Hid (TrieB w tb p):=hT
 have HA:Hid (PoolAt w p F s):=hA
 have HO:Hid s.Ok:=hO
 have hsp:=hw.span
 have HC:Hid (Rep s t∧t.WF):=⟨hc,hw⟩
 have HL:Hid (t.deep≤32):=hw.deep32
 clear hT hA hO hc hw
 go_enter Tryz.func45,Tryz.ntmps45
 go_wp2_with (go_at_call 39; refine (cRootSpot _ _).mono ?_; rintro e w1 ⟨rfl,ht1⟩; obtain ⟨hb0,hb1,htw⟩:=two_cells ht1; have hsz:w.heap.size+1 < w1.heap.size:=lt_of_heap hb1; have HB0:Hid _:=hb0; have HB1:Hid _:=hb1; have HT1:Hid (Turned [] w w1):=htw; clear ht1 htw hb0 hb1)
 refine wp_loop (fun a x=>DF w tb w1.heap.size k t s a x) (fun _ x=>33 - lenAt x (w.heap.size+1)) ⟨rfl,rfl,rfl,rfl,rfl,rfl,rfl,rfl,⟨⟨t,0,4294967295,[],.slice none 0 0,HT1.out.alloc _,blk_old HB0.out _,blk_old HB1.out _,blk_new _ _,SR.nil _ _,HC.out.2,HC.out.1,hsp.1,hsp.2.2,by simp,rfl,by simpa using HL.out,hsz⟩⟩⟩ (fun a x hx=>?_)
 exact down_round HT.out HA.out HO.out h0 h1 hx (fun a' y h=>h)
end Go.Proofs.YtloljphbdfjgdaaGreatDoor
/- Package trie's Find and Count, alone, by contract. -/
namespace Go.Proofs.YtloljphbdfjgdaaGreatDoor
open Go.RowKit
theorem cDFindL {va:Option Addr} {vn vc:Nat} (h a b kk vv k:Int) (w:World):Calls Tryz.prog 46 #[.agg #[.slice va vn vc,.int .i64 h,.int .i64 a,.int .i64 b,.iface 128 (.agg #[.int .i64 kk,.int .i64 vv])],.int .i64 k] w fun e w'=>e=.returned (.tuple #[.int .i64 (if kk=k then vv else 0),.bool (decide (kk=k))])∧Turned [] w w':=by
 have as1:=as_leaf_leaf
 by_cases hk:kk=k
 ·subst hk
  rw [if_pos rfl,decide_eq_true rfl]
  go_enter Tryz.func46,Tryz.ntmps46
  go_wp2
  go_ret2
  exact ⟨rfl,((Turned.refl _ _).alloc _).alloc _⟩
 ·have hk2:(kk == k)=false:=by simpa using hk
  rw [if_neg hk,decide_eq_false hk]
  clear hk
  go_enter Tryz.func46,Tryz.ntmps46
  go_wp2
  go_ret2
  exact ⟨rfl,((Turned.refl _ _).alloc _).alloc _⟩
theorem cDFindI {va:Option Addr} {vn vc:Nat} {x:Value} (h a b k:Int) (w:World):Calls Tryz.prog 46 #[.agg #[.slice va vn vc,.int .i64 h,.int .i64 a,.int .i64 b,.iface 151 x],.int .i64 k] w fun e w'=>e=.returned (.tuple #[.int .i64 0,.bool false])∧Turned [] w w':=by
 have as1:=as_inner_leaf
 go_enter Tryz.func46,Tryz.ntmps46
 go_wp2
 go_ret2
 exact ⟨rfl,(Turned.refl _ _).alloc _⟩
theorem cDFind {va:Option Addr} {vn vc:Nat} (u:Tr) (h a b k:Int) (w:World):Calls Tryz.prog 46 #[.agg #[.slice va vn vc,.int .i64 h,.int .i64 a,.int .i64 b,nv u],.int .i64 k] w fun e w'=>e=.returned (.tuple #[.int .i64 ((Tr.val k u).getD 0),.bool (Tr.val k u).isSome])∧Turned [] w w':=by
 cases u with
 | leaf h' kk vv =>
  refine (cDFindL h a b kk vv k w).mono ?_
  rintro e w' ⟨rfl,ht⟩
  refine ⟨?_,ht⟩
  by_cases hk:kk=k
  ·simp [Tr.val,hk]
  ·simp [Tr.val,hk]
 | node h' q c l r =>
  refine (cDFindI h a b k w).mono ?_
  rintro e w' ⟨rfl,ht⟩
  exact ⟨by simp [Tr.val],ht⟩
end Go.Proofs.YtloljphbdfjgdaaGreatDoor
/- Package trie's Count, alone, by contract; methods called on a node. -/
namespace Go.Proofs.YtloljphbdfjgdaaGreatDoor
open Go.RowKit
theorem m_leaf_count (v:Value) (w:World):(method 351 128 v "skein/trie.count").run Tryz.prog w=.ok (139,v) w:=by kernel_rfl
theorem m_inner_count (v:Value) (w:World):(method 351 151 v "skein/trie.count").run Tryz.prog w=.ok (141,v) w:=by kernel_rfl
theorem m_leaf_span (v:Value) (w:World):(method 351 128 v "skein/trie.span").run Tryz.prog w=.ok (140,v) w:=by kernel_rfl
theorem m_inner_span (v:Value) (w:World):(method 351 151 v "skein/trie.span").run Tryz.prog w=.ok (76,v) w:=by kernel_rfl
theorem Tr.cnt_leaf (h k v:Int):(Tr.leaf h k v).cnt=1:=rfl
theorem Tr.cnt_node (h:Int) (q:Nat) (c:Int) (l r:Tr):(Tr.node h q c l r).cnt=l.cnt+r.cnt:=by simp [Tr.cnt,Tr.pairs]
end Go.Proofs.YtloljphbdfjgdaaGreatDoor
/- Package trie's leftmost: what stands at the head of a round; a spot that has its node. -/
namespace Go.Proofs.YtloljphbdfjgdaaGreatDoor
open Go.RowKit
theorem cReadD {tb:Nat} {h a b:Int} {T:TypeId} {nvv:Value} (w:World):Calls Tryz.prog 53 #[pt tb,.pointer none,.agg #[.int .i64 h,.int .i64 a,.int .i64 b,.iface T nvv]] w fun e w'=>e=.returned (.tuple #[.agg #[.int .i64 h,.int .i64 a,.int .i64 b,.iface T nvv],.int .i64 0])∧Turned [] w w':=by
 go_enter Tryz.func53,Tryz.ntmps53
 go_wp2
 exact bodyPost_ret (v:=.tuple #[.agg #[.int .i64 h,.int .i64 a,.int .i64 b,.iface T nvv],.int .i64 0]) (by simp [results,Tryz.results53,go_sem]) rfl ⟨rfl,((Turned.refl _ _).alloc _).alloc _⟩
structure LI (w:World) (t:Tr) (s:PSt) (u:Tr) (a b:Int) (n:Value) (x:World):Prop where
 turned:Turned [] w x
 sp:x.heap[w.heap.size]?=some (.cells #[.int .i64 u.hd,.int .i64 a,.int .i64 b,n] 120 (0,0))
 res:x.heap[w.heap.size+1]?=some (.cells #[.int .i64 0,.int .i64 0] 60 (0,0))
 wf:u.WF
 rep:Rep s u
 lo:a≤u.lo
 hi:u.hi≤b
 first:t.pairs.head?=u.pairs.head?
section
variable {w x y:World} {t:Tr} {s:PSt} {u u':Tr} {a b a' b':Int} {n n':Value}
theorem LI.still (h:LI w t s u a b n x) (ht:Turned [] x y):LI w t s u a b n y :=
 ⟨h.turned.trans ht,ht.heap h.sp (by simp),ht.heap h.res (by simp),h.wf,h.rep,h.lo,h.hi,h.first⟩
theorem LI.spot (h:LI w t s u a b n x) (ht:Turned [w.heap.size] x y) (hs:y.heap[w.heap.size]?=some (.cells #[.int .i64 u.hd,.int .i64 a,.int .i64 b,n'] 120 (0,0))):LI w t s u a b n' y :=
 ⟨h.turned.inner ht (by simp),hs,ht.heap h.res (by simp),h.wf,h.rep,h.lo,h.hi,h.first⟩
theorem LI.next (h:LI w t s u a b n x) (ht:Turned [w.heap.size] x y) (hs:y.heap[w.heap.size]?=some (.cells #[.int .i64 u'.hd,.int .i64 a',.int .i64 b',.nilIface] 120 (0,0))) (hw:u'.WF) (hp:Rep s u') (hlo:a'≤u'.lo) (hhi:u'.hi≤b') (hf:t.pairs.head?=u'.pairs.head?):LI w t s u' a' b' .nilIface y :=
 ⟨h.turned.inner ht (by simp),hs,ht.heap h.res (by simp),hw,hp,hlo,hhi,hf⟩
end
def spanAt (x:World) (b:Nat):Nat:=match x.cell? ⟨b,1,none⟩,x.cell? ⟨b,2,none⟩ with | some (.int _ l),some (.int _ h)=>(h - l+1).toNat | _,_=>0
theorem spanAt_of {x:World} {b:Nat} {h n:Value} {l r:Int} {T:TypeId} (hb:x.heap[b]?=some (.cells #[h,.int .i64 l,.int .i64 r,n] T (0,0))):spanAt x b=(r - l+1).toNat:=by
 unfold spanAt
 rw [(cells4 hb).1.2.1,(cells4 hb).1.2.2.1]
end Go.Proofs.YtloljphbdfjgdaaGreatDoor
/- A frame, spelled out. -/
namespace Go.Proofs.YtloljphbdfjgdaaGreatDoor
open Go.RowKit
def lit34 (c:Nat→Value):Array Value:=#[c 0,c 1,c 2,c 3,c 4,c 5,c 6,c 7,c 8,c 9,c 10,c 11,c 12,c 13,c 14,c 15,c 16,c 17,c 18,c 19,c 20,c 21,c 22,c 23,c 24,c 25,c 26,c 27,c 28,c 29,c 30,c 31,c 32,c 33]
set_option maxRecDepth 100000 in
theorem lit34_eq (c:Nat→Value):lit34 c=((List.range 34).map c).toArray:=by rfl
theorem expand34 {a:Act} (hs:a.tmps.size=34) (hd:a.defers=[]):∃ c:Nat→Value,a=⟨lit34 c,[]⟩∧∀ s,c s=a.eval (.tmp s):=by
 refine ⟨fun s=>a.tmps.getD s undef,?_,fun s=>rfl⟩
 obtain ⟨t,d⟩:=a
 simp only at hs hd
 subst hd
 congr 1
 rw [lit34_eq]
 refine Array.ext (by simp [hs]) fun i h1 h2=>?_
 simp [Array.getD,h1]
end Go.Proofs.YtloljphbdfjgdaaGreatDoor

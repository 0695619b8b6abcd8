/- Package trie's Diff: alike, by contract. (Written by tools/gen/gendifk.py.) -/
import Derived.Test.YtloljphbdfjgdaaGreatDoorK45
import Derived.Test.YtloljphbdfjgdaaGreatDoorK03
namespace Go.Proofs.YtloljphbdfjgdaaGreatDoor
open Go.RowKit
section
variable {tb p j0 q:Nat} {h h' c k v v' a1 b1 a2 b2:Int} {l r l' r':Tr} {F:List Nat} {s:PSt} {W:World} {J:Nat→List Nat→World→Prop} {G:List Nat} {fy:FuncId} {cy:Array Value} {L:List Chn}
abbrev lfN (k v:Int):Value:=.iface 128 (.agg #[.int .i64 k,.int .i64 v])
set_option maxRecDepth 100000 in
set_option maxHeartbeats 1600000 in
theorem cAlikeE (hT:TakerC Tryz.prog L J fy cy) (hD:DP tb p F s J j0 G W) :
  Calls Tryz.prog 95 #[dfV tb fy cy,spV h a1 b1 (lfN k v),spV h' a2 b2 (lfN k v)] W (DR J W G j0):=by
 have HD:Hid (∀ x,Turned [] W x→DR J W G j0 (.returned (.bool true)) x):=fun x hx=>(DW.start (hD.still hT hx)).done hx
 have as1:=as_leaf_leaf
 clear hT hD
 go_enter Tryz.func95,Tryz.ntmps95
 go_wp2
 go_ret
 refine HD.out _ ?_
 exact ((((((Turned.refl _ _).alloc _).alloc _).alloc _).alloc _).alloc _)
set_option maxRecDepth 100000 in
set_option maxHeartbeats 1600000 in
theorem cAlikeD (hne:v≠v') (hT:TakerC Tryz.prog L J fy cy) (hS:Seg L j0 [⟨k,some v,some v'⟩]) (hD:DP tb p F s J j0 G W) :
  Calls Tryz.prog 95 #[dfV tb fy cy,spV h a1 b1 (lfN k v),spV h' a2 b2 (lfN k v')] W (DR J W G (j0+1)):=by
 obtain ⟨hlt,hget⟩:=hS.get (i:=0) (by simp)
 simp only [Nat.add_zero,List.getElem_cons_zero] at hlt hget
 have HD:Hid (∀ x,Turned [] W x→Calls Tryz.prog fy (#[.agg #[.int .i64 k,.int .i64 v,.int .i64 v',.bool true,.bool true],.int .i64 0] ++ cy) x fun e z=>e=.returned (.bool true)∧DR J W G (j0+1) (.returned (.bool true)) z):=fun x hx=>by
  refine ((DW.start (hD.still hT hx)).call (k:=j0+1) (fun G' d=>?_)).mono fun e z hz=>⟨hz.1,hz.2.done hx⟩
  have h1:=hT.takes j0 hlt G' x d.jj
  rw [hget] at h1
  exact h1
 have HN:Hid (Enterable Tryz.prog fy):=hT.ent
 have hn1:(v != v')=true:=by simpa using hne
 have as1:=as_leaf_leaf
 clear hT hD hS hlt hget hne
 go_enter Tryz.func95,Tryz.ntmps95
 obtain ⟨fn1,cq,f1,f2,f3⟩:=HN.out
 have hcf:∀ (args:Array Value) (w:World),(callFunc fy args).run Tryz.prog w=.ok (.enter fy args) w:=fun args w=>Go.MuLone.run_callFunc_enter f1 f2 f3 args w
 have HCF:Hid _:=hcf
 clear f1 f2 f3 hcf
 go_wp2
 rw [HCF.out,Oper.upon_enter]
 refine (HD.out _ ?_).mono ?_
 ·exact ((((((Turned.refl _ _).alloc _).alloc _).alloc _).alloc _).alloc _)
 ·rintro e z ⟨rfl,hz⟩
  have HZ:Hid (DR J W G (j0+1) (.returned (.bool true)) z):=hz
  clear hz HCF HD
  go_wp2
  go_ret
  exact HZ.out
set_option maxRecDepth 100000 in
set_option maxHeartbeats 1600000 in
theorem cAlikeN {n1 n2:Nat} (h1:0≤c) (h2:c+2 * 2 ^ q≤4294967296) (h3:q≤31) (hT:TakerC Tryz.prog L J fy cy) (hD:DP tb p F s J j0 G W)
  (hB0:∀ x G',DP tb p F s J j0 G' x→Calls Tryz.prog 38 #[dfV tb fy cy,spV l.hd c (c+2 ^ q - 1) .nilIface,spV l'.hd c (c+2 ^ q - 1) .nilIface] x (DR J x G' (j0+n1)))
  (hB1:∀ x G',DP tb p F s J (j0+n1) G' x→Calls Tryz.prog 38 #[dfV tb fy cy,spV r.hd (c+2 ^ q) (c+2 * 2 ^ q - 1) .nilIface,spV r'.hd (c+2 ^ q) (c+2 * 2 ^ q - 1) .nilIface] x (DR J x G' (j0+n1+n2))) :
  Calls Tryz.prog 95 #[dfV tb fy cy,spV h a1 b1 (nv (.node h q c l r)),spV h' a2 b2 (nv (.node h' q c l' r'))] W (DR J W G (j0+n1+n2)):=by
 have HC0:Hid (∀ (x y n:Int) w,Calls Tryz.prog 78 #[inV c q x y n,.int .i64 0] w fun e w'=>e=.returned (spV x c (c+2 ^ q - 1) .nilIface)∧Turned [] w w'):=fun x y n w=>cChild0 x y n h1 h2 h3 w
 have HC1:Hid (∀ (x y n:Int) w,Calls Tryz.prog 78 #[inV c q x y n,.int .i64 1] w fun e w'=>e=.returned (spV y (c+2 ^ q) (c+2 * 2 ^ q - 1) .nilIface)∧Turned [] w w'):=fun x y n w=>cChild1 x y n h1 h2 h3 w
 have HT:Hid (TakerC Tryz.prog L J fy cy):=hT
 have HD:Hid (DP tb p F s J j0 G W):=hD
 have HB:Hid _:=And.intro hB0 hB1
 have as1:=as_inner_inner
 have as2:=as_inner_leaf
 rw [show nv (.node h q c l r)=.iface 151 (inV c q l.hd r.hd ((l.cnt+r.cnt:Nat):Int)) from rfl,show nv (.node h' q c l' r')=.iface 151 (inV c q l'.hd r'.hd ((l'.cnt+r'.cnt:Nat):Int)) from rfl]
 obtain ⟨n,hn⟩:∃ n:Int,n=((l.cnt+r.cnt:Nat):Int):=⟨_,rfl⟩
 obtain ⟨n',hn'⟩:∃ n:Int,n=((l'.cnt+r'.cnt:Nat):Int):=⟨_,rfl⟩
 obtain ⟨qI,hqI⟩:∃ qI:Int,qI=(q:Int):=⟨_,rfl⟩
 have HQ:Hid (qI=(q:Int)):=hqI
 rw [← hn,← hn',← hqI]
 clear hn hn' hqI hT hD hB0 hB1 h1 h2 h3
 go_enter Tryz.func95,Tryz.ntmps95
 go_wp2
 rename_i K1 hK1 K0 hK0
 clear hK1
 have H0:Hid _:=hK0
 clear hK0
 have tA:Turned [] W (((((W.alloc (dfO tb fy cy)).alloc (spO h a1 b1 (.iface 151 (inV c qI l.hd r.hd n)))).alloc (spO h' a2 b2 (.iface 151 (inV c qI l'.hd r'.hd n')))).alloc (inO c qI l.hd r.hd n)).alloc (inO c qI l'.hd r'.hd n')):=(((((Turned.refl _ _).alloc _).alloc _).alloc _).alloc _).alloc _
 have z:∀ (w:World) (o:Obj) {n:Nat},w.heap.size=n→(w.alloc o).heap[n]?=some o:=fun w o n h=>by rw [← h]; exact blk_new w o
 have q0:(((((W.alloc (dfO tb fy cy)).alloc (spO h a1 b1 (.iface 151 (inV c qI l.hd r.hd n)))).alloc (spO h' a2 b2 (.iface 151 (inV c qI l'.hd r'.hd n')))).alloc (inO c qI l.hd r.hd n)).alloc (inO c qI l'.hd r'.hd n')).heap[W.heap.size]?=some (dfO tb fy cy):=blk_old (blk_old (blk_old (blk_old (blk_new _ _) _) _) _) _
 have q3:(((((W.alloc (dfO tb fy cy)).alloc (spO h a1 b1 (.iface 151 (inV c qI l.hd r.hd n)))).alloc (spO h' a2 b2 (.iface 151 (inV c qI l'.hd r'.hd n')))).alloc (inO c qI l.hd r.hd n)).alloc (inO c qI l'.hd r'.hd n')).heap[W.heap.size+1+1+1]?=some (inO c qI l.hd r.hd n):=blk_old (z _ _ (by simp)) _
 have q4:(((((W.alloc (dfO tb fy cy)).alloc (spO h a1 b1 (.iface 151 (inV c qI l.hd r.hd n)))).alloc (spO h' a2 b2 (.iface 151 (inV c qI l'.hd r'.hd n')))).alloc (inO c qI l.hd r.hd n)).alloc (inO c qI l'.hd r'.hd n')).heap[W.heap.size+1+1+1+1]?=some (inO c qI l'.hd r'.hd n'):=z _ _ (by simp)
 generalize hw1:(World.alloc (World.alloc (World.alloc (World.alloc (World.alloc W _) _) _) _) _)=w1 at tA q0 q3 q4 ⊢
 clear hw1 z
 have hGlt:=HT.out.lt HD.out.jj
 have nG:∀ b,W.heap.size≤b→b∉G:=fun b hb hm=>by have:=hGlt b hm; omega
 have dP:=HD.out.still HT.out tA
 refine alike_r11 (db:=W.heap.size) (ba:=W.heap.size+1+1+1) (bb:=W.heap.size+1+1+1+1) (tb:=tb) (qq:=q) (f:=c) (q:=qI) (la:=l.hd) (ra:=r.hd) (ca:=n) (lb:=l'.hd) (rb:=r'.hd) (cb:=n') (fy:=fy) (cy:=cy)
  (Ph:=fun g _ x=>DW tb p F s J G w1 (if g=0 then j0 else if g=1 then j0+n1 else j0+n1+n2) x) rfl rfl rfl rfl (fun g u x hx=>⟨load_df (hx.heap q0 (nG _ (by omega))),load_in (hx.heap q3 (nG _ (by omega))),load_in (hx.heap q4 (nG _ (by omega)))⟩) ((DW.start dP).still HT.out (Turned.refl _ _).drew) (fun g u x hx=>?c0) (fun g u x hx=>?c1) (fun g u x hx=>?c2) (fun g u x hx=>?c3) (fun u x hx=>hx.call fun G' d=>HB.out.1 x G' d) (fun u x hx=>hx.call fun G' d=>HB.out.2 x G' d) ?fin
 case c0 =>
  have h:=HC0.out l.hd r.hd n x
  rw [← HQ.out] at h
  exact h.mono fun e w' hh=>⟨hh.1,hx.still HT.out hh.2⟩
 case c1 =>
  have h:=HC0.out l'.hd r'.hd n' x
  rw [← HQ.out] at h
  exact h.mono fun e w' hh=>⟨hh.1,hx.still HT.out hh.2⟩
 case c2 =>
  have h:=HC1.out l.hd r.hd n x
  rw [← HQ.out] at h
  exact h.mono fun e w' hh=>⟨hh.1,hx.still HT.out hh.2⟩
 case c3 =>
  have h:=HC1.out l'.hd r'.hd n' x
  rw [← HQ.out] at h
  exact h.mono fun e w' hh=>⟨hh.1,hx.still HT.out hh.2⟩
 case fin =>
  intro a' x u hs hd hoff x6 hx
  have hd2:a'.defers=[]:=hd
  have hr:=hx.done tA
  rw [← x6] at hr
  refine H0.out _ _ ?_
  refine wp_ret ?_
  exact bodyPost_ret (results_tmp rfl _ _ _) hd2 hr
end
end Go.Proofs.YtloljphbdfjgdaaGreatDoor
/- Package trie's Diff: the drawn region of spans. (Written by tools/gen/gendifs.py.) -/
namespace Go.Proofs.YtloljphbdfjgdaaGreatDoor
open Go.RowKit
abbrev spnO (a b:Int):Obj:=.cells #[.int .i64 a,.int .i64 b] 116 (0,0)
structure GS where
 na:Option Nat
 nb:Option Nat
 sa:Bool
 sb:Bool
def doneS (g:GS) (i:Nat):Bool:=if i=6 then g.na.isSome else if i=7 then g.nb.isSome else if i=8 then g.sa else if i=9 then g.sb else false
def spans_r1V (sa sb:Nat) (na nb:Value) (xl xh yl yh:Int) (g:GS):Nat→Value:=fun j=>match j with | 0=>(pa sa 3) | 1=>na | 2=>(Value.agg #[.int .i64 xl,.int .i64 xh]) | 3=>(pa sb 3) | 4=>nb | 5=>(Value.agg #[.int .i64 yl,.int .i64 yh]) | 6=>(pa (g.na.getD 0) 0) | 7=>(pa (g.nb.getD 0) 0) | 8=>undef | 9=>undef | _=>undef
set_option maxRecDepth 100000 in
set_option maxHeartbeats 1600000 in
theorem spans_r1 {sa sb:Nat} {na nb va vb:Value} {fa fb:FuncId} {xl xh yl yh h1 a1 b1 h2 a2 b2:Int} {K:Act→World→Prop} {Q:Exit→Act→World→Prop} {a0:Act} {w:World} (hs:a0.tmps.size=67) (x4:a0.eval (.tmp 4)=pa sa 0) (x5:a0.eval (.tmp 5)=pa sb 0) (hSA:w.heap[sa]?=some (spO h1 a1 b1 na)) (hSB:w.heap[sb]?=some (spO h2 a2 b2 nb))
  (hIa:∀ (ρ:Operand→Value) (o:Oper) (x:World) (y:Operand),o.op=.call { callee:=.invoke y "skein/trie.span",args:=#[],argTypes:=#[] }→ρ y=na→(execOp ρ o).run Tryz.prog x=.ok (.enter fa #[va]) x)
  (hIb:∀ (ρ:Operand→Value) (o:Oper) (x:World) (y:Operand),o.op=.call { callee:=.invoke y "skein/trie.span",args:=#[],argTypes:=#[] }→ρ y=nb→(execOp ρ o).run Tryz.prog x=.ok (.enter fb #[vb]) x)
  (hCa:∀ x,Calls Tryz.prog fa #[va] x fun e w'=>e=.returned (Value.agg #[.int .i64 xl,.int .i64 xh])∧Turned [] x w') (hCb:∀ x,Calls Tryz.prog fb #[vb] x fun e w'=>e=.returned (Value.agg #[.int .i64 yl,.int .i64 yh])∧Turned [] x w')
  (hEnd:∀ a' x q q',a'.tmps.size=a0.tmps.size→a'.defers=a0.defers→(∀ s,some s∉([some 9,some 10,some 11,some 12,some 13,some 14,some 7,some 8,none,none]:List (Option Nat))→a'.eval (.tmp s)=a0.eval (.tmp s))→a'.eval (.tmp 7)=pa q 0→a'.eval (.tmp 8)=pa q' 0→Turned [] w x→x.heap[q]?=some (spnO xl xh)→x.heap[q']?=some (spnO yl yh)→w.heap.size≤q→w.heap.size≤q'→K a' x):(Code.region 1 (opsOf 1 Tryz.f69.body) true).wp Tryz.prog (Exit.then K Q) a0 w:=by
 refine wp_region_ghost3 (G:=GS) (by kernel_rfl) [some 9,some 10,some 11,some 12,some 13,some 14,some 7,some 8,none,none] (by rw [hs]; kernel_rfl) (spans_r1V sa sb na nb xl xh yl yh) [6,7,8,9] ?_ (doneS) (fun g x=>Turned [] w x∧(∀ q,g.na=some q→w.heap.size≤q∧x.heap[q]?=some (if g.sa=true then spnO xl xh else spnO 0 0))∧(∀ q,g.nb=some q→w.heap.size≤q∧x.heap[q]?=some (if g.sb=true then spnO yl yh else spnO 0 0))∧(∀ q q',g.na=some q→g.nb=some q'→q≠q')) (⟨none,none,false,false⟩) (⟨(Turned.refl _ _).drew,(fun q hq=>by cases hq),(fun q hq=>by cases hq),(fun q q' hq=>by cases hq)⟩) (by intro x hx; simp at hx; rcases hx with rfl | rfl | rfl | rfl <;> rfl) (by decide) ?_ ?_
 ·exact fun i g b h _=>absurd h (noG (by kernel_rfl) i g b)
 ·intro i hi hgd
  rcases (by simp at hi; omega:i=0∨i=1∨i=2∨i=3∨i=4∨i=5∨i=6∨i=7∨i=8∨i=9) with rfl | rfl | rfl | rfl | rfl | rfl | rfl | rfl | rfl | rfl
  ·refine soft (by decide) ?_
   intro o ac wa g ho hoff hv hS hdn
   exact x_field (op_is rfl ho) (by rw [((hoff 4 (by decide)).trans x4)]; show (Instr.fieldAt _ (pa _ _) _).run _ _=.ok (pa _ _) _; unfold pa; go_simp)
  ·refine soft (by decide) ?_
   intro o ac wa g ho hoff hv hS hdn
   have hc:=cell_at (hS.1.heap hSA (by simp)) 3
   simp at hc
   exact x_load (op_is rfl ho) (by rw [(hv 0 9 rfl (by kernel_rfl))]; show (Instr.loadAt _ (pa _ _)).run _ _=_; unfold pa; go_simp; first | rfl | skip)
  ·intro o ac wa g K ho hd _ hoff hv hS _ _ _ hK
   refine l_enterE (hIa _ _ _ _ (op_is rfl ho) ((hv 1 10 rfl (by kernel_rfl)))) (hCa wa) ?_
   rintro e w2 ⟨rfl,ht⟩
   exact ⟨_,rfl,by rw [hd]; exact hK g w2 ⟨hS.1.trans ht,fun q hq=>⟨(hS.2.1 q hq).1,ht.heap (hS.2.1 q hq).2 (by simp)⟩,fun q hq=>⟨(hS.2.2.1 q hq).1,ht.heap (hS.2.2.1 q hq).2 (by simp)⟩,hS.2.2.2⟩ (fun x hx=>by have hx2:¬ x=2:=fun e=>absurd (e ▸ hx) (by decide); simp [hx2]) fun _ _ _=>rfl⟩
  ·refine soft (by decide) ?_
   intro o ac wa g ho hoff hv hS hdn
   exact x_field (op_is rfl ho) (by rw [((hoff 5 (by decide)).trans x5)]; show (Instr.fieldAt _ (pa _ _) _).run _ _=.ok (pa _ _) _; unfold pa; go_simp)
  ·refine soft (by decide) ?_
   intro o ac wa g ho hoff hv hS hdn
   have hc:=cell_at (hS.1.heap hSB (by simp)) 3
   simp at hc
   exact x_load (op_is rfl ho) (by rw [(hv 3 12 rfl (by kernel_rfl))]; show (Instr.loadAt _ (pa _ _)).run _ _=_; unfold pa; go_simp; first | rfl | skip)
  ·intro o ac wa g K ho hd _ hoff hv hS _ _ _ hK
   refine l_enterE (hIb _ _ _ _ (op_is rfl ho) ((hv 4 13 rfl (by kernel_rfl)))) (hCb wa) ?_
   rintro e w2 ⟨rfl,ht⟩
   exact ⟨_,rfl,by rw [hd]; exact hK g w2 ⟨hS.1.trans ht,fun q hq=>⟨(hS.2.1 q hq).1,ht.heap (hS.2.1 q hq).2 (by simp)⟩,fun q hq=>⟨(hS.2.2.1 q hq).1,ht.heap (hS.2.2.1 q hq).2 (by simp)⟩,hS.2.2.2⟩ (fun x hx=>by have hx2:¬ x=5:=fun e=>absurd (e ▸ hx) (by decide); simp [hx2]) fun _ _ _=>rfl⟩
  ·intro o ac wa g K ho hd _ hoff hv hS hpre hnd hlater hK
   have hg:g.na=none:=by have:=hnd (by simp); simpa [doneS] using this
   have hst:g.sa=false:=by
    have:=hlater 8 (by simp) (by kernel_rfl)
    simpa [doneS] using this
   refine l_val hd (x_alloc (op_is rfl ho) (v:=pa wa.heap.size 0) (w':=wa.alloc (spnO 0 0)) (by unfold pa spnO; go_simp)) ?_
   refine hK { g with na:=some wa.heap.size } _ ⟨hS.1.alloc _,(fun q hq=>by cases hq; exact ⟨hS.1.size,by simp only [hst]; exact blk_new _ _⟩),(fun q hq=>⟨(hS.2.2.1 q hq).1,blk_old (hS.2.2.1 q hq).2 _⟩),(fun q q' hq hq'=>by cases hq; have:=lt_of_heap (hS.2.2.1 q' hq').2; omega)⟩ (by intro x hx; simp at hx; rcases hx with rfl | rfl | rfl | rfl <;> simp [doneS,hg]) fun j hj hr=>?_
   match j,hr with
   | 0,_=>rfl
   | 1,_=>rfl
   | 2,_=>rfl
   | 3,_=>rfl
   | 4,_=>rfl
   | 5,_=>rfl
   | 6,_=>exact absurd rfl hj
   | 7,_=>rfl
   | 8,hr=>exact absurd (hr.symm.trans (by kernel_rfl:reachB (opsOf 1 Tryz.f69.body) (opsOf 1 Tryz.f69.body).size 8 6=true)) (by decide)
   | 9,_=>rfl
   | k+10,_=>rfl
  ·intro o ac wa g K ho hd _ hoff hv hS hpre hnd hlater hK
   have hg:g.nb=none:=by have:=hnd (by simp); simpa [doneS] using this
   have hst:g.sb=false:=by
    have:=hlater 9 (by simp) (by kernel_rfl)
    simpa [doneS] using this
   refine l_val hd (x_alloc (op_is rfl ho) (v:=pa wa.heap.size 0) (w':=wa.alloc (spnO 0 0)) (by unfold pa spnO; go_simp)) ?_
   refine hK { g with nb:=some wa.heap.size } _ ⟨hS.1.alloc _,(fun q hq=>⟨(hS.2.1 q hq).1,blk_old (hS.2.1 q hq).2 _⟩),(fun q hq=>by cases hq; exact ⟨hS.1.size,by simp only [hst]; exact blk_new _ _⟩),(fun q q' hq hq'=>by cases hq'; have:=lt_of_heap (hS.2.1 q hq).2; omega)⟩ (by intro x hx; simp at hx; rcases hx with rfl | rfl | rfl | rfl <;> simp [doneS,hg]) fun j hj hr=>?_
   match j,hr with
   | 0,_=>rfl
   | 1,_=>rfl
   | 2,_=>rfl
   | 3,_=>rfl
   | 4,_=>rfl
   | 5,_=>rfl
   | 6,_=>rfl
   | 7,_=>exact absurd rfl hj
   | 8,_=>rfl
   | 9,hr=>exact absurd (hr.symm.trans (by kernel_rfl:reachB (opsOf 1 Tryz.f69.body) (opsOf 1 Tryz.f69.body).size 9 7=true)) (by decide)
   | k+10,_=>rfl
  ·intro o ac wa g K ho hd _ hoff hv hS hpre hnd hlater hK
   obtain ⟨q,hq⟩:=Option.isSome_iff_exists.1 (show g.na.isSome=true from by have:=hpre 6 (by simp) (by kernel_rfl); simpa [doneS] using this)
   have hst:g.sa=false:=by have:=hnd (by simp); simpa [doneS] using this
   have e1:=(hv 6 7 rfl (by kernel_rfl))
   have e2:=(hv 2 11 rfl (by kernel_rfl))
   have hb:=(hS.2.1 q hq).2
   have hbn:=(hS.2.1 q hq).1
   simp only [hst,Bool.false_eq_true,if_false] at hb
   have c0:wa.cell? ⟨q,0,none⟩=some (.int .i64 0):=cell_at hb 0
   have c1:wa.cell? ⟨q,1,none⟩=some (.int .i64 0):=cell_at hb 1
   have z:=froz_at hb
   refine l_skip hd (w':=((wa.setCell ⟨q,0,none⟩ (.int .i64 xl)).setCell ⟨q,1,none⟩ (.int .i64 xh))) (x_store (op_is rfl ho) (by
    rw [e1,e2]
    show (Instr.storeAt _ (pa (g.na.getD 0) 0) (Value.agg #[.int .i64 xl,.int .i64 xh])).run _ _=_
    rw [hq]
    show (Instr.storeAt _ (pa q 0) (Value.agg #[.int .i64 xl,.int .i64 xh])).run _ _=_
    unfold pa
    go_simp)) ?_
   have htn:Turned [q] wa ((wa.setCell ⟨q,0,none⟩ (.int .i64 xl)).setCell ⟨q,1,none⟩ (.int .i64 xh)):=((Turned.refl _ _).set (.inl (by simp)) _ _).set (.inl (by simp)) _ _
   refine hK { g with sa:=true } _ ⟨hS.1.inner htn (fun y hy=>by simp at hy; subst hy; exact .inr hbn),(fun q2 hq2=>by rw [hq] at hq2; cases hq2; exact ⟨hbn,by simp only; rw [if_pos trivial]; exact (blk_set (blk_set hb 0 _) 1 _).trans rfl⟩),(fun q2 hq2=>⟨(hS.2.2.1 q2 hq2).1,htn.heap (hS.2.2.1 q2 hq2).2 (by simp; exact fun e=>hS.2.2.2 q q2 hq hq2 e.symm)⟩),hS.2.2.2⟩ (by intro x hx; simp at hx; rcases hx with rfl | rfl | rfl | rfl <;> simp [doneS]) fun j hj hr=>?_
   match j,hr with
   | 0,_=>rfl
   | 1,_=>rfl
   | 2,_=>rfl
   | 3,_=>rfl
   | 4,_=>rfl
   | 5,_=>rfl
   | 6,_=>rfl
   | 7,_=>rfl
   | 8,_=>exact absurd rfl hj
   | 9,_=>rfl
   | k+10,_=>rfl
  ·intro o ac wa g K ho hd _ hoff hv hS hpre hnd hlater hK
   obtain ⟨q,hq⟩:=Option.isSome_iff_exists.1 (show g.nb.isSome=true from by have:=hpre 7 (by simp) (by kernel_rfl); simpa [doneS] using this)
   have hst:g.sb=false:=by have:=hnd (by simp); simpa [doneS] using this
   have e1:=(hv 7 8 rfl (by kernel_rfl))
   have e2:=(hv 5 14 rfl (by kernel_rfl))
   have hb:=(hS.2.2.1 q hq).2
   have hbn:=(hS.2.2.1 q hq).1
   simp only [hst,Bool.false_eq_true,if_false] at hb
   have c0:wa.cell? ⟨q,0,none⟩=some (.int .i64 0):=cell_at hb 0
   have c1:wa.cell? ⟨q,1,none⟩=some (.int .i64 0):=cell_at hb 1
   have z:=froz_at hb
   refine l_skip hd (w':=((wa.setCell ⟨q,0,none⟩ (.int .i64 yl)).setCell ⟨q,1,none⟩ (.int .i64 yh))) (x_store (op_is rfl ho) (by
    rw [e1,e2]
    show (Instr.storeAt _ (pa (g.nb.getD 0) 0) (Value.agg #[.int .i64 yl,.int .i64 yh])).run _ _=_
    rw [hq]
    show (Instr.storeAt _ (pa q 0) (Value.agg #[.int .i64 yl,.int .i64 yh])).run _ _=_
    unfold pa
    go_simp)) ?_
   have htn:Turned [q] wa ((wa.setCell ⟨q,0,none⟩ (.int .i64 yl)).setCell ⟨q,1,none⟩ (.int .i64 yh)):=((Turned.refl _ _).set (.inl (by simp)) _ _).set (.inl (by simp)) _ _
   refine hK { g with sb:=true } _ ⟨hS.1.inner htn (fun y hy=>by simp at hy; subst hy; exact .inr hbn),(fun q2 hq2=>⟨(hS.2.1 q2 hq2).1,htn.heap (hS.2.1 q2 hq2).2 (by simp; exact fun e=>hS.2.2.2 q2 q hq2 hq e)⟩),(fun q2 hq2=>by rw [hq] at hq2; cases hq2; exact ⟨hbn,by simp only; rw [if_pos trivial]; exact (blk_set (blk_set hb 0 _) 1 _).trans rfl⟩),hS.2.2.2⟩ (by intro x hx; simp at hx; rcases hx with rfl | rfl | rfl | rfl <;> simp [doneS]) fun j hj hr=>?_
   match j,hr with
   | 0,_=>rfl
   | 1,_=>rfl
   | 2,_=>rfl
   | 3,_=>rfl
   | 4,_=>rfl
   | 5,_=>rfl
   | 6,_=>rfl
   | 7,_=>rfl
   | 8,_=>rfl
   | 9,_=>exact absurd rfl hj
   | k+10,_=>rfl
 ·intro a' w' g hsz hdf hoff hS hdn hval
  obtain ⟨q,hq⟩:=Option.isSome_iff_exists.1 (show g.na.isSome=true from by have:=hdn 6 (by simp); simpa [doneS] using this)
  obtain ⟨q',hq'⟩:=Option.isSome_iff_exists.1 (show g.nb.isSome=true from by have:=hdn 7 (by simp); simpa [doneS] using this)
  have s1:g.sa=true:=by have:=hdn 8 (by simp); simpa [doneS] using this
  have s2:g.sb=true:=by have:=hdn 9 (by simp); simpa [doneS] using this
  have hb:=(hS.2.1 q hq).2
  have hb':=(hS.2.2.1 q' hq').2
  rw [s1,if_pos rfl] at hb
  rw [s2,if_pos rfl] at hb'
  exact hEnd a' w' q q' hsz hdf (fun s hs=>ev_same (hoff s hs)) ((hval 6 7 rfl).trans (by show pa (g.na.getD 0) 0=_; rw [hq]; rfl)) ((hval 7 8 rfl).trans (by show pa (g.nb.getD 0) 0=_; rw [hq']; rfl)) hS.1 hb hb' (hS.2.1 q hq).1 (hS.2.2.1 q' hq').1
end Go.Proofs.YtloljphbdfjgdaaGreatDoor
/- A frame, spelled out. -/
namespace Go.Proofs.YtloljphbdfjgdaaGreatDoor
open Go.RowKit
def lit67 (c:Nat→Value):Array Value:=#[c 0,c 1,c 2,c 3,c 4,c 5,c 6,c 7,c 8,c 9,c 10,c 11,c 12,c 13,c 14,c 15,c 16,c 17,c 18,c 19,c 20,c 21,c 22,c 23,c 24,c 25,c 26,c 27,c 28,c 29,c 30,c 31,c 32,c 33,c 34,c 35,c 36,c 37,c 38,c 39,c 40,c 41,c 42,c 43,c 44,c 45,c 46,c 47,c 48,c 49,c 50,c 51,c 52,c 53,c 54,c 55,c 56,c 57,c 58,c 59,c 60,c 61,c 62,c 63,c 64,c 65,c 66]
set_option maxRecDepth 100000 in
theorem lit67_eq (c:Nat→Value):lit67 c=((List.range 67).map c).toArray:=by rfl
theorem expand67 {a:Act} (hs:a.tmps.size=67) (hd:a.defers=[]):∃ c:Nat→Value,a=⟨lit67 c,[]⟩∧∀ s,c s=a.eval (.tmp s):=by
 refine ⟨fun s=>a.tmps.getD s undef,?_,fun s=>rfl⟩
 obtain ⟨t,d⟩:=a
 simp only at hs hd
 subst hd
 congr 1
 rw [lit67_eq]
 refine Array.ext (by simp [hs]) fun i h1 h2=>?_
 simp [Array.getD,h1]
end Go.Proofs.YtloljphbdfjgdaaGreatDoor
/- Package trie's Diff: the ways of spans. (Written by tools/gen/gendift.py.) -/
namespace Go.Proofs.YtloljphbdfjgdaaGreatDoor
open Go.RowKit
section
variable {x:World} {db sa sb q q' tb:Nat} {xl xh yl yh h1 a1 b1 h2 a2 b2:Int} {na nb:Value} {fy:FuncId} {cy:Array Value} {a:Act} {Q:Exit→Act→World→Prop}
set_option maxRecDepth 100000 in
set_option maxHeartbeats 1600000 in
theorem sp_alike {PP:World→Prop} (hs:a.tmps.size=67) (hd:a.defers=[]) (x3:a.eval (.tmp 3)=.pointer (some ⟨db,0,none⟩)) (x4:a.eval (.tmp 4)=.pointer (some ⟨sa,0,none⟩)) (x5:a.eval (.tmp 5)=.pointer (some ⟨sb,0,none⟩)) (x6:a.eval (.tmp 6)=.bool false) (x7:a.eval (.tmp 7)=.pointer (some ⟨q,0,none⟩)) (x8:a.eval (.tmp 8)=.pointer (some ⟨q',0,none⟩))
  (hdb:x.heap[db]?=some (dfO tb fy cy)) (hsa:x.heap[sa]?=some (spO h1 a1 b1 na)) (hsb:x.heap[sb]?=some (spO h2 a2 b2 nb)) (hq:x.heap[q]?=some (spnO xl xh)) (hq':x.heap[q']?=some (spnO yl yh)) (hl:xl=yl) (hh:xh=yh) (HP:Calls Tryz.prog 95 #[dfV tb fy cy,spV h1 a1 b1 na,spV h2 a2 b2 nb] x fun e x'=>e=.returned (.bool true)∧PP x')
  (hQ:∀ a' y,a'.tmps.size=67→a'.defers=[]→a'.eval (.tmp 6)=.bool true→PP y→Q .ret a' y):(atc Tryz.f69.body [1,1]).wp Tryz.prog Q a x:=by
 obtain ⟨cc,hcc,hce⟩:=expand67 hs hd
 have g3:=(hce 3).trans x3
 have g4:=(hce 4).trans x4
 have g5:=(hce 5).trans x5
 have g6:=(hce 6).trans x6
 have g7:=(hce 7).trans x7
 have g8:=(hce 8).trans x8
 clear hce hs hd x3 x4 x5 x6 x7 x8
 subst hcc
 conv=>arg 2; whnf
 simp only [lit67,g3,g4,g5,g6,g7,g8]
 clear g3 g4 g5 g6 g7 g8
 have c0:=cell_at hdb 0
 have c1:=cell_at hdb 1
 have c2:=cell_at hdb 2
 have d0:=cell_at hsa 0
 have d1:=cell_at hsa 1
 have d2:=cell_at hsa 2
 have d3:=cell_at hsa 3
 have e0:=cell_at hsb 0
 have e1:=cell_at hsb 1
 have e2:=cell_at hsb 2
 have e3:=cell_at hsb 3
 have f0:=cell_at hq 0
 have f1:=cell_at hq 1
 have g0:=cell_at hq' 0
 have g1:=cell_at hq' 1
 simp at c0 c1 c2 d0 d1 d2 d3 e0 e1 e2 e3 f0 f1 g0 g1
 have HK:Hid _:=hQ
 clear hQ hdb hsa hsb hq hq'
 subst hl hh
 go_wp2_with (go_at_call 95; refine HP.mono ?_; rintro e w1 ⟨rfl,hp⟩; have HPP:Hid _:=hp; clear hp HP)
 exact HK.out _ _ rfl rfl rfl HPP.out
set_option maxRecDepth 100000 in
set_option maxHeartbeats 1600000 in
theorem sp_left {PP:World→Prop} (hs:a.tmps.size=67) (hd:a.defers=[]) (x3:a.eval (.tmp 3)=.pointer (some ⟨db,0,none⟩)) (x4:a.eval (.tmp 4)=.pointer (some ⟨sa,0,none⟩)) (x5:a.eval (.tmp 5)=.pointer (some ⟨sb,0,none⟩)) (x6:a.eval (.tmp 6)=.bool false) (x7:a.eval (.tmp 7)=.pointer (some ⟨q,0,none⟩)) (x8:a.eval (.tmp 8)=.pointer (some ⟨q',0,none⟩))
  (hdb:x.heap[db]?=some (dfO tb fy cy)) (hsa:x.heap[sa]?=some (spO h1 a1 b1 na)) (hsb:x.heap[sb]?=some (spO h2 a2 b2 nb)) (hq:x.heap[q]?=some (spnO xl xh)) (hq':x.heap[q']?=some (spnO yl yh)) (hne:¬ xl=yl∨(xl=yl∧¬ xh=yh)) (h1q:xh < yl) {P1:World→Prop} (HP:Calls Tryz.prog 67 #[dfV tb fy cy,spV h1 a1 b1 na,.int .i64 0] x fun e x'=>e=.returned (.bool true)∧P1 x') (hB:∀ y,P1 y→y.heap[db]?=some (dfO tb fy cy)∧y.heap[sb]?=some (spO h2 a2 b2 nb)) (HP2:∀ y,P1 y→Calls Tryz.prog 67 #[dfV tb fy cy,spV h2 a2 b2 nb,.int .i64 1] y fun e x'=>e=.returned (.bool true)∧PP x')
  (hQ:∀ a' y,a'.tmps.size=67→a'.defers=[]→a'.eval (.tmp 6)=.bool true→PP y→Q .ret a' y):(atc Tryz.f69.body [1,1]).wp Tryz.prog Q a x:=by
 obtain ⟨cc,hcc,hce⟩:=expand67 hs hd
 have g3:=(hce 3).trans x3
 have g4:=(hce 4).trans x4
 have g5:=(hce 5).trans x5
 have g6:=(hce 6).trans x6
 have g7:=(hce 7).trans x7
 have g8:=(hce 8).trans x8
 clear hce hs hd x3 x4 x5 x6 x7 x8
 subst hcc
 conv=>arg 2; whnf
 simp only [lit67,g3,g4,g5,g6,g7,g8]
 clear g3 g4 g5 g6 g7 g8
 have c0:=cell_at hdb 0
 have c1:=cell_at hdb 1
 have c2:=cell_at hdb 2
 have d0:=cell_at hsa 0
 have d1:=cell_at hsa 1
 have d2:=cell_at hsa 2
 have d3:=cell_at hsa 3
 have e0:=cell_at hsb 0
 have e1:=cell_at hsb 1
 have e2:=cell_at hsb 2
 have e3:=cell_at hsb 3
 have f0:=cell_at hq 0
 have f1:=cell_at hq 1
 have g0:=cell_at hq' 0
 have g1:=cell_at hq' 1
 simp at c0 c1 c2 d0 d1 d2 d3 e0 e1 e2 e3 f0 f1 g0 g1
 have HK:Hid _:=hQ
 clear hQ hdb hsa hsb hq hq'
 rcases hne with hn | ⟨hn0,hn⟩
 ·have HB:Hid _:=hB
  clear hB
  go_wp2_with (first
   | (go_at_call 67; refine HP.mono ?_; rintro e w1 ⟨rfl,hp⟩; have k0:=cell_at (HB.out w1 hp).1 0; have k1:=cell_at (HB.out w1 hp).1 1; have k2:=cell_at (HB.out w1 hp).1 2; have k3:=cell_at (HB.out w1 hp).2 0; have k4:=cell_at (HB.out w1 hp).2 1; have k5:=cell_at (HB.out w1 hp).2 2; have k6:=cell_at (HB.out w1 hp).2 3; simp at k0 k1 k2 k3 k4 k5 k6; have HP3:=HP2 w1 hp; clear hp HP c0 c1 c2 d0 d1 d2 d3 e0 e1 e2 e3)
   | (go_at_call 67; refine HP3.mono ?_; rintro e w2 ⟨rfl,hp⟩; have HPP:Hid _:=hp; clear hp HP3))
  exact HK.out _ _ rfl rfl rfl HPP.out
 ·subst hn0
  have HB:Hid _:=hB
  clear hB
  go_wp2_with (first
   | (go_at_call 67; refine HP.mono ?_; rintro e w1 ⟨rfl,hp⟩; have k0:=cell_at (HB.out w1 hp).1 0; have k1:=cell_at (HB.out w1 hp).1 1; have k2:=cell_at (HB.out w1 hp).1 2; have k3:=cell_at (HB.out w1 hp).2 0; have k4:=cell_at (HB.out w1 hp).2 1; have k5:=cell_at (HB.out w1 hp).2 2; have k6:=cell_at (HB.out w1 hp).2 3; simp at k0 k1 k2 k3 k4 k5 k6; have HP3:=HP2 w1 hp; clear hp HP c0 c1 c2 d0 d1 d2 d3 e0 e1 e2 e3)
   | (go_at_call 67; refine HP3.mono ?_; rintro e w2 ⟨rfl,hp⟩; have HPP:Hid _:=hp; clear hp HP3))
  exact HK.out _ _ rfl rfl rfl HPP.out
set_option maxRecDepth 100000 in
set_option maxHeartbeats 1600000 in
theorem sp_right {PP:World→Prop} (hs:a.tmps.size=67) (hd:a.defers=[]) (x3:a.eval (.tmp 3)=.pointer (some ⟨db,0,none⟩)) (x4:a.eval (.tmp 4)=.pointer (some ⟨sa,0,none⟩)) (x5:a.eval (.tmp 5)=.pointer (some ⟨sb,0,none⟩)) (x6:a.eval (.tmp 6)=.bool false) (x7:a.eval (.tmp 7)=.pointer (some ⟨q,0,none⟩)) (x8:a.eval (.tmp 8)=.pointer (some ⟨q',0,none⟩))
  (hdb:x.heap[db]?=some (dfO tb fy cy)) (hsa:x.heap[sa]?=some (spO h1 a1 b1 na)) (hsb:x.heap[sb]?=some (spO h2 a2 b2 nb)) (hq:x.heap[q]?=some (spnO xl xh)) (hq':x.heap[q']?=some (spnO yl yh)) (hne:¬ xl=yl∨(xl=yl∧¬ xh=yh)) (h1q:¬ xh < yl) (h2q:yh < xl) {P1:World→Prop} (HP:Calls Tryz.prog 67 #[dfV tb fy cy,spV h2 a2 b2 nb,.int .i64 1] x fun e x'=>e=.returned (.bool true)∧P1 x') (hB:∀ y,P1 y→y.heap[db]?=some (dfO tb fy cy)∧y.heap[sa]?=some (spO h1 a1 b1 na)) (HP2:∀ y,P1 y→Calls Tryz.prog 67 #[dfV tb fy cy,spV h1 a1 b1 na,.int .i64 0] y fun e x'=>e=.returned (.bool true)∧PP x')
  (hQ:∀ a' y,a'.tmps.size=67→a'.defers=[]→a'.eval (.tmp 6)=.bool true→PP y→Q .ret a' y):(atc Tryz.f69.body [1,1]).wp Tryz.prog Q a x:=by
 obtain ⟨cc,hcc,hce⟩:=expand67 hs hd
 have g3:=(hce 3).trans x3
 have g4:=(hce 4).trans x4
 have g5:=(hce 5).trans x5
 have g6:=(hce 6).trans x6
 have g7:=(hce 7).trans x7
 have g8:=(hce 8).trans x8
 clear hce hs hd x3 x4 x5 x6 x7 x8
 subst hcc
 conv=>arg 2; whnf
 simp only [lit67,g3,g4,g5,g6,g7,g8]
 clear g3 g4 g5 g6 g7 g8
 have c0:=cell_at hdb 0
 have c1:=cell_at hdb 1
 have c2:=cell_at hdb 2
 have d0:=cell_at hsa 0
 have d1:=cell_at hsa 1
 have d2:=cell_at hsa 2
 have d3:=cell_at hsa 3
 have e0:=cell_at hsb 0
 have e1:=cell_at hsb 1
 have e2:=cell_at hsb 2
 have e3:=cell_at hsb 3
 have f0:=cell_at hq 0
 have f1:=cell_at hq 1
 have g0:=cell_at hq' 0
 have g1:=cell_at hq' 1
 simp at c0 c1 c2 d0 d1 d2 d3 e0 e1 e2 e3 f0 f1 g0 g1
 have HK:Hid _:=hQ
 clear hQ hdb hsa hsb hq hq'
 rcases hne with hn | ⟨hn0,hn⟩
 ·have HB:Hid _:=hB
  clear hB
  go_wp2_with (first
   | (go_at_call 67; refine HP.mono ?_; rintro e w1 ⟨rfl,hp⟩; have k0:=cell_at (HB.out w1 hp).1 0; have k1:=cell_at (HB.out w1 hp).1 1; have k2:=cell_at (HB.out w1 hp).1 2; have k3:=cell_at (HB.out w1 hp).2 0; have k4:=cell_at (HB.out w1 hp).2 1; have k5:=cell_at (HB.out w1 hp).2 2; have k6:=cell_at (HB.out w1 hp).2 3; simp at k0 k1 k2 k3 k4 k5 k6; have HP3:=HP2 w1 hp; clear hp HP c0 c1 c2 d0 d1 d2 d3 e0 e1 e2 e3)
   | (go_at_call 67; refine HP3.mono ?_; rintro e w2 ⟨rfl,hp⟩; have HPP:Hid _:=hp; clear hp HP3))
  exact HK.out _ _ rfl rfl rfl HPP.out
 ·subst hn0
  have HB:Hid _:=hB
  clear hB
  go_wp2_with (first
   | (go_at_call 67; refine HP.mono ?_; rintro e w1 ⟨rfl,hp⟩; have k0:=cell_at (HB.out w1 hp).1 0; have k1:=cell_at (HB.out w1 hp).1 1; have k2:=cell_at (HB.out w1 hp).1 2; have k3:=cell_at (HB.out w1 hp).2 0; have k4:=cell_at (HB.out w1 hp).2 1; have k5:=cell_at (HB.out w1 hp).2 2; have k6:=cell_at (HB.out w1 hp).2 3; simp at k0 k1 k2 k3 k4 k5 k6; have HP3:=HP2 w1 hp; clear hp HP c0 c1 c2 d0 d1 d2 d3 e0 e1 e2 e3)
   | (go_at_call 67; refine HP3.mono ?_; rintro e w2 ⟨rfl,hp⟩; have HPP:Hid _:=hp; clear hp HP3))
  exact HK.out _ _ rfl rfl rfl HPP.out
set_option maxRecDepth 100000 in
set_option maxHeartbeats 1600000 in
theorem sp_holds {PP:World→Prop} (hs:a.tmps.size=67) (hd:a.defers=[]) (x3:a.eval (.tmp 3)=.pointer (some ⟨db,0,none⟩)) (x4:a.eval (.tmp 4)=.pointer (some ⟨sa,0,none⟩)) (x5:a.eval (.tmp 5)=.pointer (some ⟨sb,0,none⟩)) (x6:a.eval (.tmp 6)=.bool false) (x7:a.eval (.tmp 7)=.pointer (some ⟨q,0,none⟩)) (x8:a.eval (.tmp 8)=.pointer (some ⟨q',0,none⟩))
  (hdb:x.heap[db]?=some (dfO tb fy cy)) (hsa:x.heap[sa]?=some (spO h1 a1 b1 na)) (hsb:x.heap[sb]?=some (spO h2 a2 b2 nb)) (hq:x.heap[q]?=some (spnO xl xh)) (hq':x.heap[q']?=some (spnO yl yh)) (hne:¬ xl=yl∨(xl=yl∧¬ xh=yh)) (h1q:¬ xh < yl) (h2q:¬ yh < xl) (hdc:decide (xl≤yl∧yh≤xh)=true) (HP:∀ y,Turned [] x y→Calls Tryz.prog 96 #[dfV tb fy cy,spV h1 a1 b1 na,.int .i64 0,.int .i64 yl,.func (.func 97) #[] #[.pointer (some ⟨db,0,none⟩),.pointer (some ⟨sb,0,none⟩)]] y fun e x'=>e=.returned (.bool true)∧PP x')
  (hQ:∀ a' y,a'.tmps.size=67→a'.defers=[]→a'.eval (.tmp 6)=.bool true→PP y→Q .ret a' y):(atc Tryz.f69.body [1,1]).wp Tryz.prog Q a x:=by
 obtain ⟨cc,hcc,hce⟩:=expand67 hs hd
 have g3:=(hce 3).trans x3
 have g4:=(hce 4).trans x4
 have g5:=(hce 5).trans x5
 have g6:=(hce 6).trans x6
 have g7:=(hce 7).trans x7
 have g8:=(hce 8).trans x8
 clear hce hs hd x3 x4 x5 x6 x7 x8
 subst hcc
 conv=>arg 2; whnf
 simp only [lit67,g3,g4,g5,g6,g7,g8]
 clear g3 g4 g5 g6 g7 g8
 have c0:=cell_at hdb 0
 have c1:=cell_at hdb 1
 have c2:=cell_at hdb 2
 have d0:=cell_at hsa 0
 have d1:=cell_at hsa 1
 have d2:=cell_at hsa 2
 have d3:=cell_at hsa 3
 have e0:=cell_at hsb 0
 have e1:=cell_at hsb 1
 have e2:=cell_at hsb 2
 have e3:=cell_at hsb 3
 have f0:=cell_at hq 0
 have f1:=cell_at hq 1
 have g0:=cell_at hq' 0
 have g1:=cell_at hq' 1
 simp at c0 c1 c2 d0 d1 d2 d3 e0 e1 e2 e3 f0 f1 g0 g1
 have HK:Hid _:=hQ
 clear hQ hdb hsa hsb hq hq'
 rcases hne with hn | ⟨hn0,hn⟩
 ·have HH:=cSpHolds _ _ _ _ hdc x
  have HX:Hid _:=HP
  have l3:=World.block_lt_of_cell? x ⟨q',0,none⟩ g0
  have HC:Hid _:=And.intro c0 (And.intro c1 (And.intro c2 (And.intro d0 (And.intro d1 (And.intro d2 (And.intro d3 g0))))))
  clear HP
  go_wp2_with (first
   | (go_at_call 87; refine HH.mono ?_; rintro e w1 ⟨rfl,ht⟩; have HT:Hid (Turned [] x w1):=ht; have k0:=ht.cell HC.out.1 (by simp); have k1:=ht.cell HC.out.2.1 (by simp); have k2:=ht.cell HC.out.2.2.1 (by simp); have k3:=ht.cell HC.out.2.2.2.1 (by simp); have k4:=ht.cell HC.out.2.2.2.2.1 (by simp); have k5:=ht.cell HC.out.2.2.2.2.2.1 (by simp); have k6:=ht.cell HC.out.2.2.2.2.2.2.1 (by simp); have k7:=ht.cell HC.out.2.2.2.2.2.2.2 (by simp); have HP3:=HX.out w1 ht; clear ht HH c0 c1 c2 d0 d1 d2 d3 e0 e1 e2 e3 f0 f1 g0 g1)
   | (go_at_call 96; refine HP3.mono ?_; rintro e w2 ⟨rfl,hp⟩; have HPP:Hid _:=hp; clear hp HP3))
  exact HK.out _ _ rfl rfl rfl HPP.out
 ·subst hn0
  have HH:=cSpHolds _ _ _ _ hdc x
  have HX:Hid _:=HP
  have l3:=World.block_lt_of_cell? x ⟨q',0,none⟩ g0
  have HC:Hid _:=And.intro c0 (And.intro c1 (And.intro c2 (And.intro d0 (And.intro d1 (And.intro d2 (And.intro d3 g0))))))
  clear HP
  go_wp2_with (first
   | (go_at_call 87; refine HH.mono ?_; rintro e w1 ⟨rfl,ht⟩; have HT:Hid (Turned [] x w1):=ht; have k0:=ht.cell HC.out.1 (by simp); have k1:=ht.cell HC.out.2.1 (by simp); have k2:=ht.cell HC.out.2.2.1 (by simp); have k3:=ht.cell HC.out.2.2.2.1 (by simp); have k4:=ht.cell HC.out.2.2.2.2.1 (by simp); have k5:=ht.cell HC.out.2.2.2.2.2.1 (by simp); have k6:=ht.cell HC.out.2.2.2.2.2.2.1 (by simp); have k7:=ht.cell HC.out.2.2.2.2.2.2.2 (by simp); have HP3:=HX.out w1 ht; clear ht HH c0 c1 c2 d0 d1 d2 d3 e0 e1 e2 e3 f0 f1 g0 g1)
   | (go_at_call 96; refine HP3.mono ?_; rintro e w2 ⟨rfl,hp⟩; have HPP:Hid _:=hp; clear hp HP3))
  exact HK.out _ _ rfl rfl rfl HPP.out
set_option maxRecDepth 100000 in
set_option maxHeartbeats 1600000 in
theorem sp_within {PP:World→Prop} (hs:a.tmps.size=67) (hd:a.defers=[]) (x3:a.eval (.tmp 3)=.pointer (some ⟨db,0,none⟩)) (x4:a.eval (.tmp 4)=.pointer (some ⟨sa,0,none⟩)) (x5:a.eval (.tmp 5)=.pointer (some ⟨sb,0,none⟩)) (x6:a.eval (.tmp 6)=.bool false) (x7:a.eval (.tmp 7)=.pointer (some ⟨q,0,none⟩)) (x8:a.eval (.tmp 8)=.pointer (some ⟨q',0,none⟩))
  (hdb:x.heap[db]?=some (dfO tb fy cy)) (hsa:x.heap[sa]?=some (spO h1 a1 b1 na)) (hsb:x.heap[sb]?=some (spO h2 a2 b2 nb)) (hq:x.heap[q]?=some (spnO xl xh)) (hq':x.heap[q']?=some (spnO yl yh)) (hne:¬ xl=yl∨(xl=yl∧¬ xh=yh)) (h1q:¬ xh < yl) (h2q:¬ yh < xl) (hdc:decide (xl≤yl∧yh≤xh)=false) (HP:∀ y,Turned [] x y→Calls Tryz.prog 96 #[dfV tb fy cy,spV h2 a2 b2 nb,.int .i64 1,.int .i64 xl,.func (.func 98) #[] #[.pointer (some ⟨db,0,none⟩),.pointer (some ⟨sa,0,none⟩)]] y fun e x'=>e=.returned (.bool true)∧PP x')
  (hQ:∀ a' y,a'.tmps.size=67→a'.defers=[]→a'.eval (.tmp 6)=.bool true→PP y→Q .ret a' y):(atc Tryz.f69.body [1,1]).wp Tryz.prog Q a x:=by
 obtain ⟨cc,hcc,hce⟩:=expand67 hs hd
 have g3:=(hce 3).trans x3
 have g4:=(hce 4).trans x4
 have g5:=(hce 5).trans x5
 have g6:=(hce 6).trans x6
 have g7:=(hce 7).trans x7
 have g8:=(hce 8).trans x8
 clear hce hs hd x3 x4 x5 x6 x7 x8
 subst hcc
 conv=>arg 2; whnf
 simp only [lit67,g3,g4,g5,g6,g7,g8]
 clear g3 g4 g5 g6 g7 g8
 have c0:=cell_at hdb 0
 have c1:=cell_at hdb 1
 have c2:=cell_at hdb 2
 have d0:=cell_at hsa 0
 have d1:=cell_at hsa 1
 have d2:=cell_at hsa 2
 have d3:=cell_at hsa 3
 have e0:=cell_at hsb 0
 have e1:=cell_at hsb 1
 have e2:=cell_at hsb 2
 have e3:=cell_at hsb 3
 have f0:=cell_at hq 0
 have f1:=cell_at hq 1
 have g0:=cell_at hq' 0
 have g1:=cell_at hq' 1
 simp at c0 c1 c2 d0 d1 d2 d3 e0 e1 e2 e3 f0 f1 g0 g1
 have HK:Hid _:=hQ
 clear hQ hdb hsa hsb hq hq'
 rcases hne with hn | ⟨hn0,hn⟩
 ·have HH:=cSpHolds _ _ _ _ hdc x
  have HX:Hid _:=HP
  have HC:Hid _:=And.intro c0 (And.intro c1 (And.intro c2 (And.intro e0 (And.intro e1 (And.intro e2 (And.intro e3 f0))))))
  clear HP
  go_wp2_with (first
   | (go_at_call 87; refine HH.mono ?_; rintro e w1 ⟨rfl,ht⟩; have HT:Hid (Turned [] x w1):=ht; have k0:=ht.cell HC.out.1 (by simp); have k1:=ht.cell HC.out.2.1 (by simp); have k2:=ht.cell HC.out.2.2.1 (by simp); have k3:=ht.cell HC.out.2.2.2.1 (by simp); have k4:=ht.cell HC.out.2.2.2.2.1 (by simp); have k5:=ht.cell HC.out.2.2.2.2.2.1 (by simp); have k6:=ht.cell HC.out.2.2.2.2.2.2.1 (by simp); have k7:=ht.cell HC.out.2.2.2.2.2.2.2 (by simp); have HP3:=HX.out w1 ht; clear ht HH c0 c1 c2 d0 d1 d2 d3 e0 e1 e2 e3 f0 f1 g0 g1)
   | (go_at_call 96; refine HP3.mono ?_; rintro e w2 ⟨rfl,hp⟩; have HPP:Hid _:=hp; clear hp HP3))
  exact HK.out _ _ rfl rfl rfl HPP.out
 ·subst hn0
  have HH:=cSpHolds _ _ _ _ hdc x
  have HX:Hid _:=HP
  have HC:Hid _:=And.intro c0 (And.intro c1 (And.intro c2 (And.intro e0 (And.intro e1 (And.intro e2 (And.intro e3 f0))))))
  clear HP
  go_wp2_with (first
   | (go_at_call 87; refine HH.mono ?_; rintro e w1 ⟨rfl,ht⟩; have HT:Hid (Turned [] x w1):=ht; have k0:=ht.cell HC.out.1 (by simp); have k1:=ht.cell HC.out.2.1 (by simp); have k2:=ht.cell HC.out.2.2.1 (by simp); have k3:=ht.cell HC.out.2.2.2.1 (by simp); have k4:=ht.cell HC.out.2.2.2.2.1 (by simp); have k5:=ht.cell HC.out.2.2.2.2.2.1 (by simp); have k6:=ht.cell HC.out.2.2.2.2.2.2.1 (by simp); have k7:=ht.cell HC.out.2.2.2.2.2.2.2 (by simp); have HP3:=HX.out w1 ht; clear ht HH c0 c1 c2 d0 d1 d2 d3 e0 e1 e2 e3 f0 f1 g0 g1)
   | (go_at_call 96; refine HP3.mono ?_; rintro e w2 ⟨rfl,hp⟩; have HPP:Hid _:=hp; clear hp HP3))
  exact HK.out _ _ rfl rfl rfl HPP.out
end
end Go.Proofs.YtloljphbdfjgdaaGreatDoor
/- Package trie's Diff: spans by contract, over beside of smaller trees. -/
namespace Go.Proofs.YtloljphbdfjgdaaGreatDoor
open Go.RowKit
def BOk (L:List Chn) (tb p:Nat) (F:List Nat) (s:PSt) (J:Nat→List Nat→World→Prop) (fy:FuncId) (cy:Array Value) (N:Nat):Prop :=
 ∀ (t u:Tr) (a1 b1 a2 b2:Int) (n1 n2:Value),t.cnt+u.cnt≤N→SpotOk s ⟨t,a1,b1⟩→SpotOk s ⟨u,a2,b2⟩→NzOk ⟨t,a1,b1⟩ n1→NzOk ⟨u,a2,b2⟩ n2→∀ j G W,DP tb p F s J j G W→Seg L j (diffL t.pairs u.pairs) →
  Calls Tryz.prog 38 #[dfV tb fy cy,spV t.hd a1 b1 n1,spV u.hd a2 b2 n2] W (DR J W G (j+(diffL t.pairs u.pairs).length))
section
variable {tb p j0:Nat} {h1 a1 b1 h2 a2 b2:Int} {n1 n2:Value} {F:List Nat} {s:PSt} {W:World} {J:Nat→List Nat→World→Prop} {G:List Nat} {fy:FuncId} {cy:Array Value} {L:List Chn}
set_option maxRecDepth 100000 in
set_option maxHeartbeats 800000 in
theorem cMet1 {k db sb:Nat} (hdb:W.heap[db]?=some (dfO tb fy cy)) (hsb:W.heap[sb]?=some (spO h2 a2 b2 n2))
  (hB:∀ x,Turned [] W x→Calls Tryz.prog 38 #[dfV tb fy cy,spV h1 a1 b1 n1,spV h2 a2 b2 n2] x fun e z=>e=.returned (.bool true)∧DR J W G k (.returned (.bool true)) z) :
  Calls Tryz.prog 97 (#[spV h1 a1 b1 n1] ++ #[.pointer (some ⟨db,0,none⟩),.pointer (some ⟨sb,0,none⟩)]) W (DR J W G k):=by
 have c0:=cell_at hdb 0
 have c1:=cell_at hdb 1
 have c2:=cell_at hdb 2
 have e0:=cell_at hsb 0
 have e1:=cell_at hsb 1
 have e2:=cell_at hsb 2
 have e3:=cell_at hsb 3
 have l1:=lt_of_heap hdb
 have l2:=lt_of_heap hsb
 simp at c0 c1 c2 e0 e1 e2 e3
 have HB:Hid _:=hB
 clear hB hdb hsb
 show Calls _ _ #[spV h1 a1 b1 n1,.pointer (some ⟨db,0,none⟩),.pointer (some ⟨sb,0,none⟩)] _ _
 go_enter Tryz.func97,Tryz.ntmps97
 have HP:=HB.out (W.alloc (spO h1 a1 b1 n1)) ((Turned.refl _ _).alloc _)
 go_wp2_with (go_at_call 38; refine HP.mono ?_; rintro e z ⟨rfl,hz⟩; have HZ:Hid (DR J W G k (.returned (.bool true)) z):=hz; clear hz HP)
 go_ret
 exact HZ.out
set_option maxRecDepth 100000 in
set_option maxHeartbeats 800000 in
theorem cMet2 {k db sb:Nat} (hdb:W.heap[db]?=some (dfO tb fy cy)) (hsb:W.heap[sb]?=some (spO h2 a2 b2 n2))
  (hB:∀ x,Turned [] W x→Calls Tryz.prog 38 #[dfV tb fy cy,spV h2 a2 b2 n2,spV h1 a1 b1 n1] x fun e z=>e=.returned (.bool true)∧DR J W G k (.returned (.bool true)) z) :
  Calls Tryz.prog 98 (#[spV h1 a1 b1 n1] ++ #[.pointer (some ⟨db,0,none⟩),.pointer (some ⟨sb,0,none⟩)]) W (DR J W G k):=by
 have c0:=cell_at hdb 0
 have c1:=cell_at hdb 1
 have c2:=cell_at hdb 2
 have e0:=cell_at hsb 0
 have e1:=cell_at hsb 1
 have e2:=cell_at hsb 2
 have e3:=cell_at hsb 3
 have l1:=lt_of_heap hdb
 have l2:=lt_of_heap hsb
 simp at c0 c1 c2 e0 e1 e2 e3
 have HB:Hid _:=hB
 clear hB hdb hsb
 show Calls _ _ #[spV h1 a1 b1 n1,.pointer (some ⟨db,0,none⟩),.pointer (some ⟨sb,0,none⟩)] _ _
 go_enter Tryz.func98,Tryz.ntmps98
 have HP:=HB.out (W.alloc (spO h1 a1 b1 n1)) ((Turned.refl _ _).alloc _)
 go_wp2_with (go_at_call 38; refine HP.mono ?_; rintro e z ⟨rfl,hz⟩; have HZ:Hid (DR J W G k (.returned (.bool true)) z):=hz; clear hz HP)
 go_ret
 exact HZ.out
theorem span_inv {t:Tr} (hw:t.WF):∃ fa va,(∀ (ρ:Operand→Value) (o:Oper) (x:World) (y:Operand),o.op=.call { callee:=.invoke y "skein/trie.span",args:=#[],argTypes:=#[] }→ρ y=nv t→(execOp ρ o).run Tryz.prog x=.ok (.enter fa #[va]) x)∧∀ x,Calls Tryz.prog fa #[va] x fun e w'=>e=.returned (.agg #[.int .i64 t.lo,.int .i64 t.hi])∧Turned [] x w':=by
 cases t with
 | leaf h k v=>exact ⟨_,_,fun ρ o x y h1 h2=>x_invLS h1 h2,fun x=>cLeafSpan k v x⟩
 | node h p b l r =>
  obtain ⟨w1,w2,w3,-⟩:=id hw
  exact ⟨_,_,fun ρ o x y h1 h2=>x_invIS h1 h2,fun x=>cInnerSpan l.hd r.hd ((l.cnt+r.cnt:Nat):Int) w2 w3 w1 x⟩
theorem DP.carry {P:Program} {f:FuncId} {args:Array Value} {x:World} {k:Nat} (hT:TakerC P L J fy cy) (hD:DP tb p F s J j0 G W) (hx:Turned [] W x) (hc:∀ G',DP tb p F s J j0 G' x→Calls P f args x (DR J x G' k)):Calls P f args x fun e z=>e=.returned (.bool true)∧DR J W G k (.returned (.bool true)) z :=
 ((DW.start (hD.still hT hx)).call hc).mono fun _ _ hz=>⟨hz.1,hz.2.done hx⟩
end
end Go.Proofs.YtloljphbdfjgdaaGreatDoor

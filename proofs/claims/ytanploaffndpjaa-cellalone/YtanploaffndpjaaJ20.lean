/- Of the proof. -/
import Derived.Test.YtanploaffndpjaaJ19
set_option maxRecDepth 100000
set_option linter.unusedSimpArgs false
set_option linter.unusedVariables false
namespace Go.Blind
open Go.Conc Go.RowKit
section
variable {P:Program}{main:Bool}{fn:FuncId}{kd:CallKind}{Q:aZ}{S:ai}{M:Nat→Prop}{a:Act}{w:World}{ops:Array Oper}{i:Nat}{d:Option Tmp}{rest:List Nat}{l r:List (Nat×Obj)}
theorem yJ (hkd:kd≠.early){f:FuncId}{aD:Func}{args:Array Operand}{ats:Array TypeId}(hi:bB ops a i d (.call { callee:=.value (.func f),args:=args,argTypes:=ats }))(hf:P.funcs[f]?=some aD)(hname:(aD.name == "runtime.NumGoroutine")=false)(hb:aD.body.isNone=false){ys:Array Value}(hy:args.map a.eval=ys)
  (h:bn P main f ys (fun e S' M w=>match e with | .returned y=>aG P main fn kd ops rest Q S' M (a.put d y) w | .panicked ch=>Q (.panic ch) S' M a w | .outgrown=>False) S M w):aG P main fn kd ops (i :: rest) Q S M a w:=by
 obtain ⟨o,ho,rfl,hop,hw⟩:=hi
 exact vH hkd ho hw hop hf hname hb hy h
theorem tV {t t':TypeId}{x:Operand}{c:Int}(hx:a.eval x=.int .i64 c):∀ o:Oper,o.op=.binOp .neq t x (.const (.int .i64 c)) t'→dn P a o (.bool false):=fun o hop w1=>by
 have e:execOp a.eval o=(do pure (Next.value (← (do eqGuard .neq t x (.const (.int .i64 c)) (.int .i64 c) (.int .i64 c);binOp .neq t (.int .i64 c) (.int .i64 c))))):=by
  unfold execOp
  rw [hop,← hx]
  simp only [hx]
  rfl
 have hg:eqGuard .neq t x (.const (.int .i64 c)) (.int .i64 c) (.int .i64 c)=Pure.pure ():=rfl
 have hb:binOp .neq t (.int .i64 c) (.int .i64 c)=Pure.pure (.bool false):=by simp [binOp,Op.intCmp]
 rw [e,hg,hb]
 exact ⟨rfl,rfl⟩
theorem BF {e:TypeId}{size n:Nat}{v:Value}{xs:List Value}{A:List (Nat×Obj)}(h:Row e size v n xs A)(h0:0 < n):∃ g cap cur,v=.slice (some ⟨g,0,none⟩) n cap∧(g,Obj.cells cur e (0,0))∈A∧∀ (j:Nat)(u:Value),xs[j]?=some u→cur[j]?=some u:=by
 rcases h.2 with ⟨_,q,_⟩ | ⟨g,cap,cur,rfl,rfl,_,_,_,q⟩
 ·omega
 ·refine ⟨g,cap,cur,rfl,List.mem_singleton.2 rfl,fun j u hj=>?_⟩
  rw [← q,List.getElem?_take] at hj
  split at hj
  ·rwa [Array.getElem?_toList] at hj
  ·cases hj
end
end Go.Blind
namespace Go.Proofs.Ytanploaffndpjaa
open Go Go.Blind Go.Conc
open Go.RowKit in
theorem TQ (w:World)(k:Int):Calls Try.prog 6 #[.int .i64 k] w fun e w'=>e=.returned (.int .i64 k)∧w'=w:=by
 go_enter Try.func6,Try.ntmps6
 go_wp2
 go_ret
 exact ⟨rfl,rfl⟩
structure BG (w:World)(v:Value)(xs:List Int):Prop where
 ex:∃ a c,v=.slice a xs.length c∧(xs≠[]→∃ b,a=some ⟨b,0,none⟩∧∀ i (h:i < xs.length),w.cell? ⟨b,i,none⟩=some (.int .i64 xs[i]))
open Go.RowKit in
set_option maxHeartbeats 800000 in
theorem TS {w:World}{va vb:Value}{l:List Int}(ha:BG w va l)(hb:BG w vb l)(hn:l.length≤1000000):Calls Try.prog 9 #[va,vb] w fun e w'=>e=.returned (.bool true)∧au [] w w':=by
 obtain ⟨aa,ca,rfl,fa⟩:=ha.ex
 obtain ⟨ab,cb,rfl,fb⟩:=hb.ex
 by_cases hne:l=[]
 ·subst hne
  clear ha hb fa fb hn
  simp only [List.length_nil]
  go_enter Try.func9,Try.ntmps9
  go_wp2
  refine wp_loop_once ?_
  go_wp2
  go_ret
  exact ⟨rfl,au.refl _ _⟩
 obtain ⟨ga,rfl,ka⟩:=fa hne
 obtain ⟨gb,rfl,kb⟩:=fb hne
 obtain ⟨n,hln⟩:∃ n,n=l.length:=⟨_,rfl⟩
 have HA:Hid _:=ka
 have HB:Hid _:=kb
 have HN:Hid (n=l.length):=hln
 rw [← hln] at hn ⊢
 clear ha hb hne hln fa fb ka kb
 go_enter Try.func9,Try.ntmps9
 go_wp2
 go_loopw [5] (fun i wx=>∃ k:Nat,k≤n∧i=.int .i64 k∧Hid (au [] w wx)) (fun i _=>n - (intOf i).toNat)
 case atStart=>exact ⟨0,Nat.zero_le _,rfl,au.refl _ _⟩
 case round =>
  obtain ⟨k,hk,rfl,HT⟩:=hrel
  by_cases hkn:k < n
  ·have hkl:k < l.length:=by rw [← HN.out];exact hkn
   have c1:=HT.out.cell (HA.out k hkl) ah
   have c2:=HT.out.cell (HB.out k hkl) ah
   generalize l[k]=lk at c1 c2
   have hlt:(k:Int) < (n:Int):=by omega
   clear hkl
   go_wp2
   go_quiet (fail)
   go_wp2
   exact ⟨⟨k+1,ag,by go_num,⟨HT.out.os,HT.out.tape,HT.out.output,HT.out.size,HT.out.block⟩⟩,by simp [intOf];omega⟩
  ·have:k=n:=by omega
   subst this
   go_wp2
   go_ret
   exact ⟨rfl,HT.out⟩
theorem Iu {w:World}{b c:Nat}{zs:List Int}{fz:Nat×Nat}{e:TypeId}(h:w.heap[b]?=some (.cells (Tu.ints zs).toArray e fz)):BG w (.slice (some ⟨b,0,none⟩) zs.length c) zs :=
 ⟨_,_,rfl,fun _=>⟨b,rfl,fun i hi=>cell_of h (by simp [Tu.ints,hi])⟩⟩
section
variable {M:Nat→Prop}{w:World}{L r:List (Nat×Obj)}{main:Bool}
theorem BH (hm:Mm Try.prog M w L r)(k:Int)(S:ai):bn Try.prog main 6 #[.int .i64 k] (fun e S' M' w'=>S'=S∧(e=.returned (.int .i64 k)∧Mm Try.prog M' w' L r)∧∀ c,M c→M' c) S M w :=
 sP (f:=6) af ⟨_,Try.func6⟩ (fun y hy=>by rw [Array.mem_singleton.1 hy];exact Old.int _ _) hm [] (fun b hb=>by cases hb) (Old.int _ _) (fun v _ _=>(TQ v k).mono fun e v' q=>⟨q.1,fun b hb=>by cases hb⟩) S
theorem Iv {n:Nat}{zs:List Int}:∀ u∈(Tu.ints zs).toArray,Old n GL u:=fun u hu=>by
 simp only [Tu.ints,List.mem_toArray,List.mem_map] at hu
 obtain ⟨z,_,rfl⟩:=hu
 exact Old.int _ _
theorem TT {b1 b2 c1 c2:Nat}{zs:List Int}(h1:(b1,Obj.cells (Tu.ints zs).toArray 3 (0,0))∈L)(h2:(b2,Obj.cells (Tu.ints zs).toArray 3 (0,0))∈L)(hn:zs.length≤1000000)(hm:Mm Try.prog M w L r)(S:ai):bn Try.prog main 9 #[.slice (some ⟨b1,0,none⟩) zs.length c1,.slice (some ⟨b2,0,none⟩) zs.length c2] (fun e S' M' w'=>S'=S∧(e=.returned (.bool true)∧Mm Try.prog M' w' L r)∧∀ c,M c→M' c) S M w:=by
 have k1:=(hm.own _ h1).2
 have k2:=(hm.own _ h2).2
 have l1:b1 < w.heap.size:=(Array.getElem?_eq_some_iff.1 k1).1
 have l2:b2 < w.heap.size:=(Array.getElem?_eq_some_iff.1 k2).1
 refine sP (f:=9) af ⟨_,Try.func9⟩ (fun y hy=>?_) hm [b1,b2] (fun b hb=>?_) (Old.bool _) (fun v hvs hv=>(TS (Iu ((hv b1 ah).trans k1)) (Iu ((hv b2 ah).trans k2)) hn).mono fun e v' q=>⟨q.1,fun b hb=>?_⟩) S
 ·simp only [List.mem_toArray,List.mem_cons,List.not_mem_nil,or_false] at hy
  rcases hy with rfl | rfl
  ·exact Old.slice l1
  ·exact Old.slice l2
 ·simp only [List.mem_cons,List.not_mem_nil,or_false] at hb
  rcases hb with rfl | rfl
  ·exact ⟨_,_,_,h1,Iv⟩
  ·exact ⟨_,_,_,h2,Iv⟩
 ·have hlt:b < v.heap.size:=by
   simp only [List.mem_cons,List.not_mem_nil,or_false] at hb
   rw [hvs]
   rcases hb with rfl | rfl
   ·exact l1
   ·exact l2
  exact q.2.block b hlt ah
end
theorem TU {cb ab:Nat}{hne:cb≠ab}{bs:List (Bq (cellL cb ab hne))}{R:Nat}{v:Value}{A X:List (Nat×Obj)}(hrow:Row 46 1 v bs.length (bs.map fun x=>x.k.ans) A)(hp:bs.map Bq.pure=(iO cb ab hne).bs)(hok:∀ x∈bs,x.Ok R)(hA:∀ p∈A,p∈X)(pP:∀ x∈bs,∀ p∈x.A,p∈X) :
  ∃ g cap cur g0 k0 oC g1 k1 oD,v=.slice (some ⟨g,0,none⟩) 2 cap∧(g,Obj.cells cur 46 (0,0))∈X∧cur[0]?=some (.slice (some ⟨g0,0,none⟩) 1 k0)∧cur[1]?=some (.slice (some ⟨g1,0,none⟩) 1 k1)∧(g0,Obj.cells oC 48 (0,0))∈X∧(∀ (j:Nat) u,(aW 1 5 3 false 9 0 0)[j]?=some u→oC[j]?=some u)∧(g1,Obj.cells oD 48 (0,0))∈X∧(∀ (j:Nat) u,(aW 2 3 2 false 9 0 0)[j]?=some u→oD[j]?=some u):=by
 match bs,hp,hrow,hok,pP with
 | [x0,x1],hp,hrow,hok,pP =>
  have hp:[x0.pure,x1.pure]=(iO cb ab hne).bs:=hp
  unfold iO at hp
  injection hp with p0 hp
  injection hp with p1 _
  have n0:x0.nr=1:=congrArg Pb.nr p0
  have n1:x1.nr=1:=congrArg Pb.nr p1
  have y0:x0.xs=aW 1 5 3 false 9 0 0:=congrArg Pb.xs p0
  have y1:x1.xs=aW 2 3 2 false 9 0 0:=congrArg Pb.xs p1
  have r0:=(hok x0 ah).row
  have r1:=(hok x1 ah).row
  rw [n0,y0] at r0
  rw [n1,y1] at r1
  obtain ⟨g,cap,cur,e,m,q⟩:=BF hrow ah
  obtain ⟨g0,k0,oC,e0,m0,q0⟩:=BF r0 ae
  obtain ⟨g1,k1,oD,e1,m1,q1⟩:=BF r1 ae
  exact ⟨g,cap,cur,g0,k0,oC,g1,k1,oD,e,hA _ m,q 0 _ (by simp [e0]),q 1 _ (by simp [e1]),pP x0 ah _ m0,q0,pP x1 ah _ m1,q1⟩
 | [],hp,_,_,_=>exact absurd (congrArg List.length hp) (by show ¬ 0=2;decide)
 | [_],hp,_,_,_=>exact absurd (congrArg List.length hp) (by show ¬ 1=2;decide)
 | _ :: _ :: _ :: _,hp,_,_,_ =>
  have:=congrArg List.length hp
  simp only [List.map_cons,List.length_cons] at this
  have:(iO cb ab hne).bs.length=2:=rfl
  omega
section
variable {S:ai}{M:Nat→Prop}{w:World}{X:List (Nat×Obj)}{a:Act}{b2 vb g cap g0 k0 g1 k1:Nat}{cur oC oD:Array Value}
theorem TV {Q:aZ}(hs:a.tmps.size=109)(h2:a.eval (.tmp 2)=.pointer (some ⟨b2,0,none⟩))(h3:a.eval (.tmp 3)=.slice (some ⟨vb,0,none⟩) 1 1)(h4:a.eval (.tmp 4)=.int .i64 0)(h6:a.eval (.tmp 6)=.int .i64 0)
  (hvb:(vb,Obj.cells (Tu.ints [9]).toArray 3 (0,0))∈X)(hb2:(b2,bC (.slice (some ⟨g,0,none⟩) 2 cap) 5 false)∈X)(hg:(g,Obj.cells cur 46 (0,0))∈X)(hc0:cur[0]?=some (.slice (some ⟨g0,0,none⟩) 1 k0))(hc1:cur[1]?=some (.slice (some ⟨g1,0,none⟩) 1 k1))(hm:Mm Try.prog M w X [])
  (hQ:∀ a' M' w' sb,a'.tmps.size=109→a'.defers=a.defers→a'.eval (.tmp 2)=a.eval (.tmp 2)→a'.eval (.tmp 5)=a.eval (.tmp 5)→a'.eval (.tmp 68)=.bool false→(∀ c,M c→M' c)→Mm Try.prog M' w' (X ++ [(sb,Obj.cells (Tu.ints [9]).toArray 3 (0,0))]) []→Q .normal S M' a' w') :
  aM Try.prog true 4 .normal (.region 4 (opsOf 4 Try.f4.body) false) Q S M a w:=by
 obtain ⟨jb,hjb⟩:=List.mem_iff_getElem?.1 (aO (hb2):(b2,bC (.slice (some ⟨g,0,none⟩) 2 cap) 5 false)∈X ++ [])
 obtain ⟨jg,Iw⟩:=List.mem_iff_getElem?.1 (aO (hg):(g,Obj.cells cur 46 (0,0))∈X ++ [])
 refine kG [0,1,2,3,4,5,6,7,8,9,10,11,12,13,14,15,16,17,18,19,20,21,22,23,24,25,26,27,28,29,30,31,32,33,34,35,36,37,38,39,40] (kM (v:=.int .i64 0) 28 4 hm fun w hm=>?_)
 refine yJ ae (d:=some 29) (args:=#[.tmp 28]) (ats:=#[25]) (aV.at (show aV _ _ _ _ by unfold aV;kernel_rfl) _) Try.func6 af af (ys:=#[.int .i64 0]) (by simp only [List.map_toArray,List.map_cons,List.map_nil];exact iM eV) (bG (BH hm 0 _) fun e S1 M1 w hq=>?_)
 obtain ⟨hS1,⟨rfl,hm⟩,fC⟩:=hq
 subst hS1
 refine bT ae (d:=some 30) (aV.at (show aV _ _ _ _ by unfold aV;kernel_rfl) _) (tV (t:=3) (t':=3) (x:=.tmp 29) (c:=0) eV) hm fun w hm=>?_
 refine kM (v:=.bool false) 31 30 hm fun w hm=>bT ae (v:=.int .i64 0) (d:=some 32) (p:=.move (.tmp 6)) (bB.of (j:=3) (sj:=31) (b:=false) af af eO eV) (fun o ho=>bK ho eV) hm fun w hm=>?_
 refine yJ ae (d:=some 33) (args:=#[.tmp 32]) (ats:=#[25]) (bB.of (j:=3) (sj:=31) (b:=false) af af eO eV) Try.func6 af af (ys:=#[.int .i64 0]) (by simp only [List.map_toArray,List.map_cons,List.map_nil];exact iM eV) (bG (BH hm 0 _) fun e S2 M2 w hq=>?_)
 obtain ⟨hS2,⟨rfl,hm⟩,dF⟩:=hq
 subst hS2
 refine bT ae (d:=some 34) (bB.of (j:=3) (sj:=31) (b:=false) af af eO eV) (tV (t:=3) (t':=3) (x:=.tmp 33) (c:=0) eV) hm fun w hm=>?_
 refine kR (d:=some 35) (p:=.pick (.tmp 31) (.const (.bool true)) (.tmp 34)) (fun o ho=>mY (v:=.bool false) eV eV o ho) hm fun w hm=>?_
 refine kM (v:=.bool false) 36 35 hm fun w hm=>bT ae (d:=some 37) (p:=.fieldAddr 43 (.tmp 2) 2) (bB.of (j:=8) (sj:=36) (b:=false) af af eO eV) (fun o ho=>bZ (fo:=2) (off:=0) ho eV af) hm fun w hm=>?_
 refine kZ ae (d:=some 38) (t:=3) (x:=.tmp 37) (bB.of (j:=8) (sj:=36) (b:=false) af af eO eV) (n:=jb) (b:=b2) (k:=2) (v:=.int .i64 5) eV hm hjb rfl af fun w hm=>?_
 refine bT ae (d:=some 39) (bB.of (j:=8) (sj:=36) (b:=false) af af eO eV) (tV (t:=3) (t':=3) (x:=.tmp 38) (c:=5) eV) hm fun w hm=>?_
 refine kR (d:=some 40) (p:=.pick (.tmp 36) (.const (.bool true)) (.tmp 39)) (fun o ho=>mY (v:=.bool false) eV eV o ho) hm fun w hm=>?_
 refine kM (v:=.bool false) 41 40 hm fun w hm=>bT ae (d:=some 42) (p:=.fieldAddr 43 (.tmp 2) 0) (bB.of (j:=13) (sj:=41) (b:=false) af af eO eV) (fun o ho=>bZ (fo:=0) (off:=0) ho eV af) hm fun w hm=>?_
 refine kZ ae (d:=some 43) (t:=40) (x:=.tmp 42) (bB.of (j:=13) (sj:=41) (b:=false) af af eO eV) (n:=jb) (b:=b2) (k:=0) (v:=.slice (some ⟨g,0,none⟩) 2 cap) eV hm hjb rfl af fun w hm=>?_
 refine bT ae (d:=some 44) (bB.of (j:=13) (sj:=41) (b:=false) af af eO eV) (gN (t:=40) (x:=.tmp 43) (ad:=some ⟨g,0,none⟩) (len:=2) (cap:=cap) af eV) hm fun w hm=>?_
 refine bT ae (d:=some 45) (bB.of (j:=13) (sj:=41) (b:=false) af af eO eV) (tV (t:=3) (t':=3) (x:=.tmp 44) (c:=2) eV) hm fun w hm=>?_
 refine kR (d:=some 46) (p:=.pick (.tmp 41) (.const (.bool true)) (.tmp 45)) (fun o ho=>mY (v:=.bool false) eV eV o ho) hm fun w hm=>?_
 refine kM (v:=.bool false) 47 46 hm fun w hm=>bT ae (d:=some 48) (p:=.fieldAddr 43 (.tmp 2) 0) (bB.of (j:=19) (sj:=47) (b:=false) af af eO eV) (fun o ho=>bZ (fo:=0) (off:=0) ho eV af) hm fun w hm=>?_
 refine kZ ae (d:=some 49) (t:=40) (x:=.tmp 48) (bB.of (j:=19) (sj:=47) (b:=false) af af eO eV) (n:=jb) (b:=b2) (k:=0) (v:=.slice (some ⟨g,0,none⟩) 2 cap) eV hm hjb rfl af fun w hm=>?_
 refine bT ae (d:=some 50) (p:=.indexAddr 40 (.tmp 49) (.const (.int .i64 0))) (bB.of (j:=19) (sj:=47) (b:=false) af af eO eV) (fun o ho=>iI (ad:=⟨g,0,none⟩) (len:=2) (cap:=cap) (k:=.i64) (i:=0) (sz:=1) ho eV rfl ae af af) hm fun w hm=>?_
 refine kZ ae (d:=some 51) (t:=46) (x:=.tmp 50) (bB.of (j:=19) (sj:=47) (b:=false) af af eO eV) (n:=jg) (b:=g) (k:=0) (v:=.slice (some ⟨g0,0,none⟩) 1 k0) eV hm Iw hc0 af fun w hm=>?_
 refine bT ae (d:=some 52) (bB.of (j:=19) (sj:=47) (b:=false) af af eO eV) (gN (t:=46) (x:=.tmp 51) (ad:=some ⟨g0,0,none⟩) (len:=1) (cap:=k0) af eV) hm fun w hm=>?_
 refine bT ae (d:=some 53) (bB.of (j:=19) (sj:=47) (b:=false) af af eO eV) (tV (t:=3) (t':=3) (x:=.tmp 52) (c:=1) eV) hm fun w hm=>?_
 refine kR (d:=some 54) (p:=.pick (.tmp 47) (.const (.bool true)) (.tmp 53)) (fun o ho=>mY (v:=.bool false) eV eV o ho) hm fun w hm=>?_
 refine kM (v:=.bool false) 55 54 hm fun w hm=>bT ae (d:=some 56) (p:=.fieldAddr 43 (.tmp 2) 0) (bB.of (j:=27) (sj:=55) (b:=false) af af eO eV) (fun o ho=>bZ (fo:=0) (off:=0) ho eV af) hm fun w hm=>?_
 refine kZ ae (d:=some 57) (t:=40) (x:=.tmp 56) (bB.of (j:=27) (sj:=55) (b:=false) af af eO eV) (n:=jb) (b:=b2) (k:=0) (v:=.slice (some ⟨g,0,none⟩) 2 cap) eV hm hjb rfl af fun w hm=>?_
 refine bT ae (d:=some 58) (p:=.indexAddr 40 (.tmp 57) (.const (.int .i64 1))) (bB.of (j:=27) (sj:=55) (b:=false) af af eO eV) (fun o ho=>iI (ad:=⟨g,0,none⟩) (len:=2) (cap:=cap) (k:=.i64) (i:=1) (sz:=1) ho eV rfl ae af af) hm fun w hm=>?_
 refine kZ ae (d:=some 59) (t:=46) (x:=.tmp 58) (bB.of (j:=27) (sj:=55) (b:=false) af af eO eV) (n:=jg) (b:=g) (k:=1) (v:=.slice (some ⟨g1,0,none⟩) 1 k1) eV hm Iw hc1 af fun w hm=>?_
 refine bT ae (d:=some 60) (bB.of (j:=27) (sj:=55) (b:=false) af af eO eV) (gN (t:=46) (x:=.tmp 59) (ad:=some ⟨g1,0,none⟩) (len:=1) (cap:=k1) af eV) hm fun w hm=>?_
 refine bT ae (d:=some 61) (bB.of (j:=27) (sj:=55) (b:=false) af af eO eV) (tV (t:=3) (t':=3) (x:=.tmp 60) (c:=1) eV) hm fun w hm=>?_
 refine kR (d:=some 62) (p:=.pick (.tmp 55) (.const (.bool true)) (.tmp 61)) (fun o ho=>mY (v:=.bool false) eV eV o ho) hm fun w hm=>?_
 refine kM (v:=.bool false) 63 62 hm fun w hm=>bT ae (v:=.slice (some ⟨vb,0,none⟩) 1 1) (d:=some 64) (p:=.move (.tmp 3)) (bB.of (j:=35) (sj:=63) (b:=false) af af eO eV) (fun o ho=>bK ho eV) hm fun w hm=>?_
 refine wm ae (d:=some 65) (t:=29) (e:=3) (n:=1) (ys:=#[(0,.const (.int .i64 9))]) (bB.of (j:=35) (sj:=63) (b:=false) af af eO eV) (us:=[(0,.int .i64 9)]) (z:=.int .i64 0) (size:=1) (cells:=(Tu.ints [9]).toArray) rfl af af ae ae af hm fun sb w hm=>?_
 refine yJ ae (d:=some 66) (args:=#[.tmp 64,.tmp 65]) (ats:=#[29,29]) (bB.of (j:=35) (sj:=63) (b:=false) af af eO eV) Try.func9 af af (ys:=#[.slice (some ⟨vb,0,none⟩) ([9]:List Int).length 1,.slice (some ⟨sb,0,none⟩) ([9]:List Int).length 1]) (by simp only [List.map_toArray,List.map_cons,List.map_nil];exact tK eV eV) (bG (TT (zs:=[9]) (aO (hvb)) (bR ((List.mem_singleton.2 rfl))) ae hm _) fun e S9 M9 w hq=>?_)
 obtain ⟨TW,⟨rfl,hm⟩,TX⟩:=hq
 subst TW
 refine bT ae (d:=some 67) (bB.of (j:=35) (sj:=63) (b:=false) af af eO eV) (AL (t:=4) (x:=.tmp 66) (v:=true) eV) hm fun w hm=>?_
 refine kR (d:=some 68) (p:=.pick (.tmp 63) (.const (.bool true)) (.tmp 67)) (fun o ho=>mY (v:=.bool false) eV eV o ho) hm fun w hm=>?_
 refine aA ?_
 exact hQ _ _ _ sb bJ (by simp only [bO]) (by rw [eN,eN,eN,eN,eN,eN,eN,eN,eN,eN,eN,eN,eN,eN,eN,eN,eN,eN,eN,eN,eN,eN,eN,eN,eN,eN,eN,eN,eN,eN,eN,eN,eN,eN,eN,eN,eN,eN,eN,eN,eN]) (by rw [eN,eN,eN,eN,eN,eN,eN,eN,eN,eN,eN,eN,eN,eN,eN,eN,eN,eN,eN,eN,eN,eN,eN,eN,eN,eN,eN,eN,eN,eN,eN,eN,eN,eN,eN,eN,eN,eN,eN,eN,eN]) eV (fun c hc=>TX c (.inl (dF c (fC c hc)))) hm
end
end Go.Proofs.Ytanploaffndpjaa
namespace Go.Proofs.Ytanploaffndpjaa
open Go Go.Blind Go.Conc
def TY:List (Option Nat):=[some 69,some 70,some 71,some 72,some 73,some 74,some 75,some 76,some 77,some 78,some 79,some 80,some 7,some 8,none,none]
def wu (b2 g cap g0 k0 g1 k1:Nat)(γ:Nat×Nat):Nat→Value
 | 0=>.pointer (some ⟨b2,0,none⟩)
 | 1=>.slice (some ⟨g,0,none⟩) 2 cap
 | 2=>.pointer (some ⟨g,0,none⟩)
 | 3=>.slice (some ⟨g0,0,none⟩) 1 k0
 | 4=>.pointer (some ⟨g0,0,none⟩)
 | 5=>.agg (aW 1 5 3 false 9 0 0).toArray
 | 6=>.pointer (some ⟨b2,0,none⟩)
 | 7=>.slice (some ⟨g,0,none⟩) 2 cap
 | 8=>.pointer (some ⟨g,1,none⟩)
 | 9=>.slice (some ⟨g1,0,none⟩) 1 k1
 | 10=>.pointer (some ⟨g1,0,none⟩)
 | 11=>.agg (aW 2 3 2 false 9 0 0).toArray
 | 12=>.pointer (some ⟨γ.1,0,none⟩)
 | 13=>.pointer (some ⟨γ.2,0,none⟩)
 | _=>undef
section
variable {S0:ai}{M:Nat→Prop}{w:World}{X:List (Nat×Obj)}{a0:Act}{b2 g cap g0 k0 g1 k1:Nat}{cur oC oD:Array Value}
def Iy (X:List (Nat×Obj))(S0:ai)(M0:Nat→Prop)(γ:Nat×Nat)(f:Array Bool)(S:ai)(M:Nat→Prop)(w:World):Prop :=
 Shut ((opsOf 6 Try.f4.body)) f∧S=S0∧(∀ c,M0 c→M c)∧Mm Try.prog M w ((if on f 12 then [(γ.1,if on f 14 then Obj.cells (aW 1 5 3 false 9 0 0).toArray 48 (0,0) else Obj.cells (aW 0 0 0 false 0 0 0).toArray 48 (0,0))] else []) ++ ((if on f 13 then [(γ.2,if on f 15 then Obj.cells (aW 2 3 2 false 9 0 0).toArray 48 (0,0) else Obj.cells (aW 0 0 0 false 0 0 0).toArray 48 (0,0))] else []) ++ X)) []
theorem TZ {Q:aZ}(hs:a0.tmps.size=109)(h2:a0.eval (.tmp 2)=.pointer (some ⟨b2,0,none⟩))(hb2:(b2,bC (.slice (some ⟨g,0,none⟩) 2 cap) 5 false)∈X)(hg:(g,Obj.cells cur 46 (0,0))∈X)(hc0:cur[0]?=some (.slice (some ⟨g0,0,none⟩) 1 k0))(hc1:cur[1]?=some (.slice (some ⟨g1,0,none⟩) 1 k1))(hg0:(g0,Obj.cells oC 48 (0,0))∈X)(hq0:∀ (j:Nat) u,(aW 1 5 3 false 9 0 0)[j]?=some u→oC[j]?=some u)(hg1:(g1,Obj.cells oD 48 (0,0))∈X)(hq1:∀ (j:Nat) u,(aW 2 3 2 false 9 0 0)[j]?=some u→oD[j]?=some u)(hm:Mm Try.prog M w X [])
  (hQ:∀ a w M' b7 b8,a.tmps.size=109→a.defers=a0.defers→(∀ x:Nat,x < 7→a.eval (.tmp x)=a0.eval (.tmp x))→a.eval (.tmp 7)=.pointer (some ⟨b7,0,none⟩)→a.eval (.tmp 8)=.pointer (some ⟨b8,0,none⟩)→(∀ c,M c→M' c)→Mm Try.prog M' w ([(b7,Obj.cells (aW 1 5 3 false 9 0 0).toArray 48 (0,0))] ++ ([(b8,Obj.cells (aW 2 3 2 false 9 0 0).toArray 48 (0,0))] ++ X)) []→Q .normal S0 M' a w) :
  aM Try.prog true 4 .normal (.region 6 ((opsOf 6 Try.f4.body)) true) Q S0 M a0 w:=by
 refine jy af TY (by rw [hs];kernel_rfl) (Γ:=Nat×Nat) (wu b2 g cap g0 k0 g1 k1) (fun γ f S' M' w=>Iy X S0 M γ f S' M' w) (0,0) (fun w1 hr=>?_) (fun i hi γ f S' M' a w o ho hg' hM hoi az hC=>?_) (fun γ f S' M' a w hall hM hC=>?_)
 ·refine ⟨Shut.zero,rfl,fun _ h=>h,?_⟩
  rw [kW,kW,kW,kW]
  simp only [Bool.false_eq_true,if_false,List.nil_append]
  exact oq (hm.rely hr)
 ·have hsz:f.size=16:=hM.size
  have hw:=jd (a:=a) (ops:=((opsOf 6 Try.f4.body))) hg'
  have hlt:i < 16:=hi
  obtain ⟨hsh,rfl,hup,hmm⟩:=hC
  have hsh':=hsh.step (i:=i) ag az
  have mem:∀ p∈X,∃ n,(((if on f 12 then [(γ.1,if on f 14 then Obj.cells (aW 1 5 3 false 9 0 0).toArray 48 (0,0) else Obj.cells (aW 0 0 0 false 0 0 0).toArray 48 (0,0))] else []) ++ ((if on f 13 then [(γ.2,if on f 15 then Obj.cells (aW 2 3 2 false 9 0 0).toArray 48 (0,0) else Obj.cells (aW 0 0 0 false 0 0 0).toArray 48 (0,0))] else []) ++ X)) ++ [])[n]?=some p:=fun p hp=>List.mem_iff_getElem?.1 (aO ((bR ((bR (hp))))))
  have still:∀ w1 x,i≠12→i≠13→i≠14→i≠15→x=wu b2 g cap g0 k0 g1 k1 γ i→Mm Try.prog M' w1 ((if on f 12 then [(γ.1,if on f 14 then Obj.cells (aW 1 5 3 false 9 0 0).toArray 48 (0,0) else Obj.cells (aW 0 0 0 false 0 0 0).toArray 48 (0,0))] else []) ++ ((if on f 13 then [(γ.2,if on f 15 then Obj.cells (aW 2 3 2 false 9 0 0).toArray 48 (0,0) else Obj.cells (aW 0 0 0 false 0 0 0).toArray 48 (0,0))] else []) ++ X)) []→∃ γ':Nat×Nat,a.put o.dst x=a.put o.dst (wu b2 g cap g0 k0 g1 k1 γ' i)∧(∀ j,on f j=true→wu b2 g cap g0 k0 g1 k1 γ' j=wu b2 g cap g0 k0 g1 k1 γ j)∧Iy X S' M γ' (f.setIfInBounds i true) S' M' w1:=by
   intro w1 x e1 e2 e3 e4 hx hm1
   refine ⟨γ,by rw [hx],fun _ _=>rfl,hsh',rfl,hup,?_⟩
   rw [aB e1,aB e2,aB e3,aB e4]
   exact hm1
  obtain ⟨nb,hnb⟩:=mem _ hb2
  obtain ⟨ng,Iz⟩:=mem _ hg
  obtain ⟨n0,hn0⟩:=mem _ hg0
  obtain ⟨n1,hn1⟩:=mem _ hg1
  rcases (by omega:i=0∨i=1∨i=2∨i=3∨i=4∨i=5∨i=6∨i=7∨i=8∨i=9∨i=10∨i=11∨i=12∨i=13∨i=14∨i=15) with rfl | rfl | rfl | rfl | rfl | rfl | rfl | rfl | rfl | rfl | rfl | rfl | rfl | rfl | rfl | rfl
  ·exact aS ae ho hw (bZ (t:=43) (x:=.tmp 2) (k:=0) (fo:=0) (off:=0) (aC af ho) ((hM.slot ae).trans h2) af) hmm fun w1=>still w1 _ ae ae ae ae rfl
  ·exact eU ae ho hw (t:=40) (x:=.tmp 69) (aC af ho) (n:=nb) (b:=b2) (k:=0) (v:=.slice (some ⟨g,0,none⟩) 2 cap) (hM.val 0 69 rfl (az 0 af)) hmm hnb rfl af fun w1=>still w1 _ ae ae ae ae rfl
  ·exact aS ae ho hw (iI (t:=40) (x:=.tmp 70) (y:=.const (.int .i64 0)) (ad:=⟨g,0,none⟩) (len:=2) (cap:=cap) (k:=.i64) (i:=0) (sz:=1) (aC af ho) (hM.val 1 70 rfl (az 1 af)) rfl ae af af) hmm fun w1=>still w1 _ ae ae ae ae rfl
  ·exact eU ae ho hw (t:=46) (x:=.tmp 71) (aC af ho) (n:=ng) (b:=g) (k:=0) (v:=.slice (some ⟨g0,0,none⟩) 1 k0) (hM.val 2 71 rfl (az 2 af)) hmm Iz hc0 af fun w1=>still w1 _ ae ae ae ae rfl
  ·exact aS ae ho hw (iI (t:=46) (x:=.tmp 72) (y:=.const (.int .i64 0)) (ad:=⟨g0,0,none⟩) (len:=1) (cap:=k0) (k:=.i64) (i:=0) (sz:=9) (aC af ho) (hM.val 3 72 rfl (az 3 af)) rfl ae af af) hmm fun w1=>still w1 _ ae ae ae ae rfl
  ·exact pq ae ho hw (t:=48) (x:=.tmp 73) (aC af ho) (n:=n0) (b:=g0) (off:=0) (hM.val 4 73 rfl (az 4 af)) hmm hn0 (vs:=aW 1 5 3 false 9 0 0) (fun j u hj=>by rw [Nat.zero_add];exact hq0 j u hj) af af fun w1=>still w1 _ ae ae ae ae rfl
  ·exact aS ae ho hw (bZ (t:=43) (x:=.tmp 2) (k:=0) (fo:=0) (off:=0) (aC af ho) ((hM.slot ae).trans h2) af) hmm fun w1=>still w1 _ ae ae ae ae rfl
  ·exact eU ae ho hw (t:=40) (x:=.tmp 75) (aC af ho) (n:=nb) (b:=b2) (k:=0) (v:=.slice (some ⟨g,0,none⟩) 2 cap) (hM.val 6 75 rfl (az 6 af)) hmm hnb rfl af fun w1=>still w1 _ ae ae ae ae rfl
  ·exact aS ae ho hw (iI (t:=40) (x:=.tmp 76) (y:=.const (.int .i64 1)) (ad:=⟨g,0,none⟩) (len:=2) (cap:=cap) (k:=.i64) (i:=1) (sz:=1) (aC af ho) (hM.val 7 76 rfl (az 7 af)) rfl ae af af) hmm fun w1=>still w1 _ ae ae ae ae rfl
  ·exact eU ae ho hw (t:=46) (x:=.tmp 77) (aC af ho) (n:=ng) (b:=g) (k:=1) (v:=.slice (some ⟨g1,0,none⟩) 1 k1) (hM.val 8 77 rfl (az 8 af)) hmm Iz hc1 af fun w1=>still w1 _ ae ae ae ae rfl
  ·exact aS ae ho hw (iI (t:=46) (x:=.tmp 78) (y:=.const (.int .i64 0)) (ad:=⟨g1,0,none⟩) (len:=1) (cap:=k1) (k:=.i64) (i:=0) (sz:=9) (aC af ho) (hM.val 9 78 rfl (az 9 af)) rfl ae af af) hmm fun w1=>still w1 _ ae ae ae ae rfl
  ·exact pq ae ho hw (t:=48) (x:=.tmp 79) (aC af ho) (n:=n1) (b:=g1) (off:=0) (hM.val 10 79 rfl (az 10 af)) hmm hn1 (vs:=aW 2 3 2 false 9 0 0) (fun j u hj=>by rw [Nat.zero_add];exact hq1 j u hj) af af fun w1=>still w1 _ ae ae ae ae rfl
  ·have hst:on f 14=false:=Bool.eq_false_iff.2 fun h=>by have:=hsh 14 12 h af;rw [hoi] at this;cases this
   refine qH ae ho hw (t:=48) (aC af ho) (z:=.agg (aW 0 0 0 false 0 0 0).toArray) af hmm fun b w1 hm1=>⟨(b,γ.2),rfl,fun j hj=>?_,hsh',rfl,fun c hc=>.inl (hup c hc),?_⟩
   ·match j,hj with
    | 12,hj=>rw [hoi] at hj;cases hj
    | 0,_=>rfl
    | 1,_=>rfl
    | 2,_=>rfl
    | 3,_=>rfl
    | 4,_=>rfl
    | 5,_=>rfl
    | 6,_=>rfl
    | 7,_=>rfl
    | 8,_=>rfl
    | 9,_=>rfl
    | 10,_=>rfl
    | 11,_=>rfl
    | 13,_=>rfl
    | n+14,_=>rfl
   ·rw [bP ag,aB ae,aB ae,aB ae,hst]
    rw [hoi,show (Value.agg (aW 0 0 0 false 0 0 0).toArray).cells=(aW 0 0 0 false 0 0 0).toArray from rfl] at hm1
    simp only [Bool.false_eq_true,if_false,if_true,List.nil_append] at hm1 ⊢
    exact hm1.perm (by
     classical
     exact List.perm_iff_count.2 fun u=>by
      simp only [List.count_append,List.count_cons,List.count_nil]
      omega)
  ·have hst:on f 15=false:=Bool.eq_false_iff.2 fun h=>by have:=hsh 15 13 h af;rw [hoi] at this;cases this
   refine qH ae ho hw (t:=48) (aC af ho) (z:=.agg (aW 0 0 0 false 0 0 0).toArray) af hmm fun b w1 hm1=>⟨(γ.1,b),rfl,fun j hj=>?_,hsh',rfl,fun c hc=>.inl (hup c hc),?_⟩
   ·match j,hj with
    | 13,hj=>rw [hoi] at hj;cases hj
    | 0,_=>rfl
    | 1,_=>rfl
    | 2,_=>rfl
    | 3,_=>rfl
    | 4,_=>rfl
    | 5,_=>rfl
    | 6,_=>rfl
    | 7,_=>rfl
    | 8,_=>rfl
    | 9,_=>rfl
    | 10,_=>rfl
    | 11,_=>rfl
    | 12,_=>rfl
    | n+14,_=>rfl
   ·rw [bP ag,aB ae,aB ae,aB ae,hst]
    rw [hoi,show (Value.agg (aW 0 0 0 false 0 0 0).toArray).cells=(aW 0 0 0 false 0 0 0).toArray from rfl] at hm1
    simp only [Bool.false_eq_true,if_false,if_true,List.nil_append] at hm1 ⊢
    exact hm1.perm (by
     classical
     exact List.perm_iff_count.2 fun u=>by
      simp only [List.count_append,List.count_cons,List.count_nil]
      omega)
  ·have d12:=az 12 af
   rw [hoi,d12] at hmm
   simp only [Bool.false_eq_true,if_false,if_true] at hmm
   refine qG ae ho hw (t:=48) (x:=.tmp 7) (y:=.tmp 74) (aC af ho) (n:=0) (b:=γ.1) (hM.val 12 7 rfl d12) (vs:=aW 1 5 3 false 9 0 0) (hM.val 5 74 rfl (az 5 af)) hmm rfl rfl af vS fun w1 hm1=>⟨γ,rfl,fun _ _=>rfl,hsh',rfl,hup,?_⟩
   rw [bP ag,aB ae,aB ae,aB ae,d12]
   exact hm1
  ·have d13:=az 13 af
   rw [hoi,d13] at hmm
   simp only [Bool.false_eq_true,if_false,if_true,List.cons_append,List.nil_append] at hmm
   refine qG ae ho hw (t:=48) (x:=.tmp 8) (y:=.tmp 80) (aC af ho) (n:=0) (b:=γ.2) (hM.val 13 8 rfl d13) (vs:=aW 2 3 2 false 9 0 0) (hM.val 11 80 rfl (az 11 af)) (hmm.perm List.perm_middle) rfl rfl af vS fun w1 hm1=>⟨γ,rfl,fun _ _=>rfl,hsh',rfl,hup,?_⟩
   rw [bP ag,aB ae,aB ae,aB ae,d13]
   simp only [if_true,List.cons_append,List.nil_append]
   exact Mm.perm hm1 List.perm_middle.symm
 ·obtain ⟨hsh,rfl,hup,hmm⟩:=hC
  rw [hall 12 ae,hall 13 ae,hall 14 ae,hall 15 ae] at hmm
  exact hQ a w M' γ.1 γ.2 (hM.fV.trans hs) hM.defers (fun x hx=>hM.slot (by
   rcases (by omega:x=0∨x=1∨x=2∨x=3∨x=4∨x=5∨x=6) with rfl | rfl | rfl | rfl | rfl | rfl | rfl <;> decide)) (hM.val 12 7 rfl (hall 12 ae)) (hM.val 13 8 rfl (hall 13 ae)) hup hmm
end
end Go.Proofs.Ytanploaffndpjaa
namespace Go.Blind
open Go.Conc Go.RowKit
theorem wz {P:Program}{a:Act}{x y z:Operand}{v:Value}(hx:a.eval x=.bool true)(hy:a.eval y=v):∀ o:Oper,o.op=.pick x y z→dn P a o v:=fun o hop w1=>by
 have e:execOp a.eval o=Pure.pure (Next.value v):=by
  unfold execOp
  rw [hop]
  simp only [hx,hy]
  rfl
 rw [e]
 exact ⟨rfl,rfl⟩
end Go.Blind
namespace Go.Proofs.Ytanploaffndpjaa
open Go Go.Blind Go.Conc
theorem T9:Try.f4.body=some (.seq (.region 0 (opsOf 0 Try.f4.body) false) (.seq (.region 1 (opsOf 1 Try.f4.body) false) (.seq (.region 2 (opsOf 2 Try.f4.body) false) (.seq (.region 3 (opsOf 3 Try.f4.body) false) (.seq (.seq (.region 4 (opsOf 4 Try.f4.body) false) (.cond (.tmp 68) (.seq (.region 5 (opsOf 5 Try.f4.body) false) .ret) .skip)) (.seq (.region 6 (opsOf 6 Try.f4.body) true) (.seq (.region 7 (opsOf 7 Try.f4.body) false) (.seq (.region 8 (opsOf 8 Try.f4.body) false) .ret)))))))):=by kernel_rfl
def IA:Prop:=∀ (M:Nat→Prop)(w:World)(L:List (Nat×Obj))(xb ar:Nat)(S:ai),(xb,Obj.cells #[.slice (some ⟨ar,0,none⟩) 3 3] 53 (0,0))∈L→Mm Try.prog M w L [] →
 bn Try.prog true 11 #[.pointer (some ⟨xb,0,none⟩),.pointer none,.int .i64 9] (fun e S' M' w'=>S'=S∧(∀ c,M c→M' c)∧e=.returned (.tuple #[.int .i64 0,.int .i64 41])∧∃ more,Mm Try.prog M' w' (L ++ more) []) S M w
structure Ua (Fin:bH)(L0:List (Nat×Obj))(S:ai)(M:Nat→Prop)(w:World):Prop where
 ex:∃ (s:Ring) (b:aJ) (X:List (Nat×Obj)),S=aK Try.prog Fin s∧s.E=(G2 b 0 True).env Try.prog∧b.dL∧(∀ i,i≠0→i < s.size→s.O i=none)∧s.size=b.n+1∧Mm Try.prog M w X []∧∀ p∈L0,p∈X
section
variable {Fin:bH}{s:Ring}{M:Nat→Prop}{w:World}{L0:List (Nat×Obj)}
theorem Ub (Uc:IA)(hE:s.E=oZ Fin.out)(hsz:s.size=1)(hO:s.O 0=none)(hm:Mm Try.prog M w L0 []) :
  bn Try.prog true 4 #[] (fun e S' M' w'=>e=.returned (.bool true)∧Ua Fin L0 S' M' w') (aK Try.prog Fin s) M w:=by
 refine eQ Try.func4 T9 ?_
 obtain ⟨a,ha,hs,hd,he⟩:=entered Try.func4 #[] .normal (N:=109) rfl (by show 0≤109;decide)
 rw [← ha]
 clear ha he
 refine TP hs hd hE hsz hO hm fun a S M1 w b2 vb xb v hs hd h2 h3 h4 h5 h6 hK=>?_
 obtain ⟨cb,ab,hne,s2,bg,A,bs,X,ar,hrow,BD,hok,rfl,hE2,wo,tT,hsn,hm,hold,hA,pP,hvb,hb2,hxb,har⟩:=hK.ex
 obtain ⟨g,cap,cur,g0,k0,oC,g1,k1,oD,rfl,hg,hc0,hc1,hg0,hq0,hg1,hq1⟩:=TU hrow BD hok hA pP
 refine ak (ak (TV hs h2 h3 h4 h6 hvb hb2 hg hc0 hc1 hm fun a' M2 w sb hs' hd' e2 e5 h68 dF hm=>?_))
 refine kF h68 ?_
 refine bS ?_
 have up:∀ p∈X,p∈X ++ [(sb,Obj.cells (Tu.ints [9]).toArray 3 (0,0))]:=fun p hp=>aO (hp)
 refine ak (TZ hs' (e2.trans h2) (up _ hb2) (up _ hg) hc0 hc1 (up _ hg0) hq0 (up _ hg1) hq1 hm fun a3 w M3 b7 b8 hs3 hd3 hk3 h7 h8 Hq hm=>?_)
 have h5':a3.eval (.tmp 5)=.pointer (some ⟨xb,0,none⟩):=(hk3 5 ae).trans (e5.trans h5)
 have Ud:a3.defers=[]:=hd3.trans (hd'.trans hd)
 clear hs hd h2 h3 h4 h5 h6 hs' hd' e2 e5 h68 hd3 hk3
 generalize BI:([(b7,Obj.cells (aW 1 5 3 false 9 0 0).toArray 48 (0,0))] ++ ([(b8,Obj.cells (aW 2 3 2 false 9 0 0).toArray 48 (0,0))] ++ (X ++ [(sb,Obj.cells (Tu.ints [9]).toArray 3 (0,0))])))=X3 at hm
 have m7:(b7,Obj.cells (aW 1 5 3 false 9 0 0).toArray 48 (0,0))∈X3:=by rw [← BI];simp
 have m8:(b8,Obj.cells (aW 2 3 2 false 9 0 0).toArray 48 (0,0))∈X3:=by rw [← BI];simp
 have IB:∀ p∈X,p∈X3:=fun p hp=>by rw [← BI];exact bR ((bR ((up p hp))))
 refine ak (kG [0,1,2,3,4,5,6] (kM (v:=.pointer (some ⟨xb,0,none⟩)) 82 5 hm fun w hm=>?_))
 refine kC (d:=some 83) (args:=#[.tmp 82,.const (.pointer none),.const (.int .i64 9)]) (ats:=#[24,69,3]) Try.func11 (ys:=#[.pointer (some ⟨xb,0,none⟩),.pointer none,.int .i64 9]) (by simp only [List.map_toArray,List.map_cons,List.map_nil];exact yB eV rfl rfl) (bG (Uc _ _ _ xb ar _ (IB _ hxb) hm) fun e S4 M4 w hq=>?_)
 obtain ⟨Ue,Zk,rfl,more,hm⟩:=hq
 rw [Ue]
 refine kM (v:=.tuple #[.int .i64 0,.int .i64 41]) 81 83 hm fun w hm=>kR (d:=some 84) (jY (x:=.tmp 81) (ix:=0) (vs:=#[.int .i64 0,.int .i64 41]) (v:=.int .i64 0) eV rfl) hm fun w hm=>?_
 refine kR (d:=some 85) (jY (x:=.tmp 81) (ix:=1) (vs:=#[.int .i64 0,.int .i64 41]) (v:=.int .i64 41) eV rfl) hm fun w hm=>?_
 refine kS (v:=.int .i64 0) 9 84 hm fun w hm=>kS (v:=.int .i64 41) 10 85 hm fun w hm=>aA (ak (xe ?_))
 obtain ⟨j7,yC⟩:=List.mem_iff_getElem?.1 (aO ((aO (m7))):_∈(X3 ++ more) ++ [])
 obtain ⟨j8,xX⟩:=List.mem_iff_getElem?.1 (aO ((aO (m8))):_∈(X3 ++ more) ++ [])
 rw [show List.range (opsOf 8 Try.f4.body).size=[0,1,2,3,4,5,6,7,8,9,10,11,12,13,14,15,16,17,18,19,20,21,22,23] by kernel_rfl]
 refine bT ae (d:=some 86) (p:=.fieldAddr 48 (.tmp 7) 2) (aV.at (show aV _ _ _ _ by unfold aV;kernel_rfl) _) (fun o ho=>bZ (fo:=2) (off:=0) ho eV af) hm fun w hm=>?_
 refine kZ ae (d:=some 87) (t:=3) (x:=.tmp 86) (aV.at (show aV _ _ _ _ by unfold aV;kernel_rfl) _) (n:=j7) (b:=b7) (k:=2) (v:=.int .i64 3) eV hm yC rfl af fun w hm=>?_
 refine bT ae (d:=some 88) (aV.at (show aV _ _ _ _ by unfold aV;kernel_rfl) _) (qN (t:=3) (t':=3) (x:=.tmp 87) (v:=.int .i64 3) (c:=.int .i64 3) (b:=true) (fun w1=>⟨af,af⟩) (fun w1=>⟨af,af⟩) eV) hm fun w hm=>?_
 refine kM (v:=.bool true) 89 88 hm fun w hm=>bT ae (d:=some 90) (p:=.fieldAddr 48 (.tmp 7) 4) (bB.of (j:=3) (sj:=89) (b:=true) af af eO eV) (fun o ho=>bZ (fo:=4) (off:=0) ho eV af) hm fun w hm=>?_
 refine kZ ae (d:=some 91) (t:=3) (x:=.tmp 90) (bB.of (j:=3) (sj:=89) (b:=true) af af eO eV) (n:=j7) (b:=b7) (k:=4) (v:=.int .i64 9) eV hm yC rfl af fun w hm=>?_
 refine bT ae (d:=some 92) (bB.of (j:=3) (sj:=89) (b:=true) af af eO eV) (qN (t:=3) (t':=3) (x:=.tmp 91) (v:=.int .i64 9) (c:=.int .i64 9) (b:=true) (fun w1=>⟨af,af⟩) (fun w1=>⟨af,af⟩) eV) hm fun w hm=>?_
 refine kR (d:=some 93) (p:=.pick (.tmp 89) (.tmp 92) (.const (.bool false))) (fun o ho=>wz (v:=.bool true) eV eV o ho) hm fun w hm=>?_
 refine kM (v:=.bool true) 94 93 hm fun w hm=>bT ae (d:=some 95) (p:=.fieldAddr 48 (.tmp 8) 2) (bB.of (j:=8) (sj:=94) (b:=true) af af eO eV) (fun o ho=>bZ (fo:=2) (off:=0) ho eV af) hm fun w hm=>?_
 refine kZ ae (d:=some 96) (t:=3) (x:=.tmp 95) (bB.of (j:=8) (sj:=94) (b:=true) af af eO eV) (n:=j8) (b:=b8) (k:=2) (v:=.int .i64 2) eV hm xX rfl af fun w hm=>?_
 refine bT ae (d:=some 97) (bB.of (j:=8) (sj:=94) (b:=true) af af eO eV) (qN (t:=3) (t':=3) (x:=.tmp 96) (v:=.int .i64 2) (c:=.int .i64 2) (b:=true) (fun w1=>⟨af,af⟩) (fun w1=>⟨af,af⟩) eV) hm fun w hm=>?_
 refine kR (d:=some 98) (p:=.pick (.tmp 94) (.tmp 97) (.const (.bool false))) (fun o ho=>wz (v:=.bool true) eV eV o ho) hm fun w hm=>?_
 refine kM (v:=.bool true) 99 98 hm fun w hm=>bT ae (d:=some 100) (p:=.fieldAddr 48 (.tmp 8) 4) (bB.of (j:=13) (sj:=99) (b:=true) af af eO eV) (fun o ho=>bZ (fo:=4) (off:=0) ho eV af) hm fun w hm=>?_
 refine kZ ae (d:=some 101) (t:=3) (x:=.tmp 100) (bB.of (j:=13) (sj:=99) (b:=true) af af eO eV) (n:=j8) (b:=b8) (k:=4) (v:=.int .i64 9) eV hm xX rfl af fun w hm=>?_
 refine bT ae (d:=some 102) (bB.of (j:=13) (sj:=99) (b:=true) af af eO eV) (qN (t:=3) (t':=3) (x:=.tmp 101) (v:=.int .i64 9) (c:=.int .i64 9) (b:=true) (fun w1=>⟨af,af⟩) (fun w1=>⟨af,af⟩) eV) hm fun w hm=>?_
 refine kR (d:=some 103) (p:=.pick (.tmp 99) (.tmp 102) (.const (.bool false))) (fun o ho=>wz (v:=.bool true) eV eV o ho) hm fun w hm=>?_
 refine kM (v:=.bool true) 104 103 hm fun w hm=>bT ae (v:=.int .i64 41) (d:=some 105) (p:=.move (.tmp 10)) (bB.of (j:=18) (sj:=104) (b:=true) af af eO eV) (fun o ho=>bK ho eV) hm fun w hm=>?_
 refine yJ ae (d:=some 106) (args:=#[.tmp 105]) (ats:=#[25]) (bB.of (j:=18) (sj:=104) (b:=true) af af eO eV) Try.func6 af af (ys:=#[.int .i64 41]) (by simp only [List.map_toArray,List.map_cons,List.map_nil];exact iM eV) (bG (BH hm 41 _) fun e S5 M5 w hq=>?_)
 obtain ⟨hS5,⟨rfl,hm⟩,Zl⟩:=hq
 subst hS5
 refine bT ae (d:=some 107) (bB.of (j:=18) (sj:=104) (b:=true) af af eO eV) (qN (t:=3) (t':=3) (x:=.tmp 106) (v:=.int .i64 41) (c:=.int .i64 41) (b:=true) (fun w1=>⟨af,af⟩) (fun w1=>⟨af,af⟩) eV) hm fun w hm=>?_
 refine kR (d:=some 108) (p:=.pick (.tmp 104) (.tmp 107) (.const (.bool false))) (fun o ho=>wz (v:=.bool true) eV eV o ho) hm fun w hm=>?_
 refine kS (v:=.bool true) 0 108 hm fun w hm=>aA (eG ?_)
 exact fT (pF (t:=0) rfl (by simp only [bO];exact Ud) (y:=.bool true) eV fun w1 hr=>⟨rfl,⟨⟨s2,bg,_,rfl,hE2,wo,tT,hsn,hm.rely hr,fun p hp=>aO ((IB p (hold p hp)))⟩⟩⟩)
end
end Go.Proofs.Ytanploaffndpjaa
namespace Go.Blind
open Go.Conc Go.RowKit
section
variable {P:Program}{main:Bool}{fn:FuncId}{kd:CallKind}{Q:aZ}{S:ai}{M:Nat→Prop}{a:Act}{w:World}{ops:Array Oper}{i:Nat}{d:Option Tmp}{rest:List Nat}
theorem wB {j sj:Nat}(hi:(ops[i]?).map (fun o=>(o.dst,o.guard))=some (d,some (j,false)))(hj:(ops[j]?).bind (·.dst)=some sj)(hv:a.eval (.tmp sj)=.bool true)(h:aG P main fn kd ops rest Q S M (a.put d undef) w):aG P main fn kd ops (i :: rest) Q S M a w:=by
 obtain ⟨o,ho,hq⟩:=Option.map_eq_some_iff.1 hi
 simp only [Prod.mk.injEq] at hq
 obtain ⟨rfl,hg⟩:=hq
 have hy:yielded ops a.tmps j≠some false:=by
  unfold yielded
  rw [hj]
  simp only [Option.bind_some]
  simp only [Act.eval,Array.getD_eq_getD_getElem?] at hv
  cases hs:a.tmps[sj]? with
  | none=>simp
  | some x =>
   rw [hs] at hv
   simp only [Option.getD_some] at hv
   subst hv
   simp
 refine dx (ET ho ?_ h)
 unfold Region.wanted
 rw [hg]
 simpa using hy
end
end Go.Blind
namespace Go.Proofs.Ytanploaffndpjaa
open Go Go.Blind Go.Conc
section
variable {M:Nat→Prop}{w:World}{L r:List (Nat×Obj)}{main:Bool}
theorem Uf:Try.f36.body=some (.seq (.seq (.region 0 (opsOf 0 Try.f36.body) false) (.cond (.tmp 10) .ret .skip)) (.region 1 (opsOf 1 Try.f36.body) false)):=by kernel_rfl
theorem Ug (hm:Mm Try.prog M w L r)(S:ai):bn Try.prog main 36 #[.pointer none] (fun e S' M' w'=>S'=S∧M'=M∧e=.returned (.tuple #[])∧Mm Try.prog M' w' L r) S M w:=by
 refine eQ Try.func36 Uf ?_
 obtain ⟨a,ha,hs,hd,he⟩:=entered Try.func36 #[.pointer none] .normal (N:=16) rfl (by show 1≤16;decide)
 have h0:=he 0 _ rfl
 rw [← ha]
 clear ha he
 refine ak (ak (kG [0,1,2,3,4,5,6,7,8] (kM (v:=.pointer none) 2 0 hm fun w hm=>?_)))
 refine kR (d:=some 3) (qN (t:=69) (t':=69) (x:=.tmp 2) (v:=.pointer none) (c:=.pointer none) (b:=true) (fun w1=>⟨af,af⟩) (fun w1=>⟨af,af⟩) eV) hm fun w hm=>?_
 refine kM (v:=.bool true) 4 3 hm fun w hm=>wB (d:=some 5) (j:=2) (sj:=4) af af eV ?_
 refine wB (d:=some 6) (j:=2) (sj:=4) af af eV ?_
 refine wB (d:=some 7) (j:=2) (sj:=4) af af eV ?_
 refine wB (d:=some 8) (j:=2) (sj:=4) af af eV ?_
 refine wB (d:=some 9) (j:=2) (sj:=4) af af eV ?_
 refine kR (d:=some 10) (p:=.pick (.tmp 4) (.const (.bool true)) (.tmp 9)) (fun o ho=>wz (v:=.bool true) eV rfl o ho) hm fun w hm=>?_
 refine aA (kY eV ?_)
 refine eG ?_
 simp only [Bool.false_eq_true,↓reduceIte]
 exact fT (iZ rfl bJ fun w1 hr=>⟨rfl,rfl,rfl,hm.rely hr⟩)
theorem Uh {xb ar:Nat}{dv:Value}(hx:(xb,Obj.cells #[.slice (some ⟨ar,0,none⟩) 3 3] 53 (0,0))∈L)(hm:Mm Try.prog M w L [])(S:ai):bn Try.prog main 22 #[.pointer (some ⟨xb,0,none⟩),.pointer none,.int .i64 9,dv] (fun e S' M' w'=>S'=S∧(∀ c,M c→M' c)∧e=.returned (.agg (aW 0 0 0 false 0 0 41).toArray)∧∃ b8,Mm Try.prog M' w' (L ++ [(b8,Obj.cells (aW 0 0 0 false 0 0 41).toArray 48 (0,0))]) []) S M w:=by
 refine eQ Try.func22 Hu ?_
 obtain ⟨a,ha,hs,hd,he⟩:=entered Try.func22 #[.pointer (some ⟨xb,0,none⟩),.pointer none,.int .i64 9,dv] .normal (N:=35) rfl (by show 4≤35;decide)
 have h0:=he 0 _ rfl
 have h1:=he 1 _ rfl
 have h2:=he 2 _ rfl
 have h3:=he 3 _ rfl
 rw [← ha]
 clear ha he
 refine ak (kG [0] (kX ae (d:=some 8) (t:=48) eI (z:=.agg (aW 0 0 0 false 0 0 0).toArray) af hm fun b8 w hm=>?_))
 refine aA ?_
 obtain ⟨jx,Ui⟩:=List.mem_iff_getElem?.1 (aO ((aO (hx))):(xb,Obj.cells #[.slice (some ⟨ar,0,none⟩) 3 3] 53 (0,0))∈(L ++ [(b8,Obj.cells (Value.agg (aW 0 0 0 false 0 0 0).toArray).cells 48 (0,0))]) ++ [])
 refine ak (ak (kG [0,1,2,3,4,5,6,7,8,9,10] (kM (v:=.int .i64 9) 9 2 hm fun w hm=>?_)))
 refine kR (d:=some 10) (jC (t:=3) (t':=3) (x:=.tmp 9) (y:=(.const (.int .i64 0))) (k:=9) (m:=0) eV rfl) hm fun w hm=>?_
 refine kM (v:=.bool (decide ((9:Int) < 0))) 11 10 hm fun w hm=>bT ae (v:=.int .i64 9) (d:=some 12) (p:=.move (.tmp 2)) (bB.of (j:=2) (sj:=11) (b:=false) af af eO eV) (fun o ho=>bK ho eV) hm fun w hm=>?_
 refine bT ae (v:=.pointer (some ⟨xb,0,none⟩)) (d:=some 13) (p:=.move (.tmp 0)) (bB.of (j:=2) (sj:=11) (b:=false) af af eO eV) (fun o ho=>bK ho eV) hm fun w hm=>?_
 refine bT ae (d:=some 14) (p:=.nilCheck (.tmp 13)) (bB.of (j:=2) (sj:=11) (b:=false) af af eO eV) (fun o ho=>jA ho eV) hm fun w hm=>?_
 refine bT ae (d:=some 15) (p:=.fieldAddr 53 (.tmp 14) 0) (bB.of (j:=2) (sj:=11) (b:=false) af af eO eV) (fun o ho=>bZ (fo:=0) (off:=0) ho eV af) hm fun w hm=>?_
 refine kZ ae (d:=some 16) (t:=51) (x:=.tmp 15) (bB.of (j:=2) (sj:=11) (b:=false) af af eO eV) (n:=jx) (b:=xb) (k:=0) (v:=.slice (some ⟨ar,0,none⟩) 3 3) eV hm Ui rfl af fun w hm=>?_
 refine bT ae (d:=some 17) (bB.of (j:=2) (sj:=11) (b:=false) af af eO eV) (gN (t:=51) (x:=.tmp 16) (ad:=some ⟨ar,0,none⟩) (len:=3) (cap:=3) af eV) hm fun w hm=>?_
 refine bT ae (d:=some 18) (bB.of (j:=2) (sj:=11) (b:=false) af af eO eV) (Ba (t:=3) (t':=3) (x:=.tmp 12) (y:=.tmp 17) (k:=9) (m:=((3:Nat):Int)) eV eV) hm fun w hm=>?_
 refine kR (d:=some 19) (p:=.pick (.tmp 11) (.const (.bool true)) (.tmp 18)) (fun o ho=>mY (v:=.bool true) eV eV o ho) hm fun w hm=>?_
 refine aA (kY eV ?_)
 refine ak (kG [0,1] (kM (v:=.pointer none) 20 1 hm fun w hm=>?_))
 refine kC (d:=some 21) (args:=#[.tmp 20]) (ats:=#[69]) Try.func36 (ys:=#[.pointer none]) (by simp only [List.map_toArray,List.map_cons,List.map_nil];exact iM eV) (bG (Ug hm _) fun e S1 M1 w hq=>?_)
 obtain ⟨hS1,rfl,rfl,hm⟩:=hq
 rw [hS1]
 refine aA (ak (kG [0,1] (kR (d:=some 22) (v:=.agg (aW 0 0 0 false 0 0 41).toArray) (p:=.build 48 #[(6,.const (.int .i64 41))]) (fun o ho=>ik ho (vs:=[(6,.int .i64 41)]) rfl af) hm fun w hm=>?_)))
 replace hm:=hm.perm List.perm_append_comm
 refine lX ae (d:=none) (t:=48) (x:=.tmp 8) (y:=.tmp 22) eI (n:=0) (b:=b8) eV (vs:=aW 0 0 0 false 0 0 41) eV hm rfl rfl af vS fun w hm=>?_
 rw [bV]
 refine aA (eG ?_)
 replace hm:Mm Try.prog _ _ ([(b8,Obj.cells (aW 0 0 0 false 0 0 41).toArray 48 (0,0))] ++ L) []:=hm
 simp only [Bool.false_eq_true,↓reduceIte]
 exact fT (vU (sl:=8) (t:=48) (b:=b8) (vs:=aW 0 0 0 false 0 0 41) (e:=48) (fz:=(0,0)) rfl bJ eV af af hm ah fun w1 hr=>⟨rfl,fun c hc=>.inl hc,rfl,b8,(hm.rely hr).perm List.perm_append_comm⟩)
theorem Uj:Try.f21.body=some (.seq (.region 0 (opsOf 0 Try.f21.body) false) (.seq (.region 1 (opsOf 1 Try.f21.body) false) (.seq (.region 2 (opsOf 2 Try.f21.body) true) .ret))):=by kernel_rfl
def Uk:List (Option Nat):=[some 16,some 17,some 18,some 19,some 8,some 9]
def wC (b10:Nat)(_:Unit):Nat→Value
 | 0=>.pointer (some ⟨b10,4,none⟩)
 | 1=>.int .i64 0
 | 2=>.pointer (some ⟨b10,6,none⟩)
 | 3=>.int .i64 41
 | 4=>.int .i64 0
 | 5=>.int .i64 41
 | _=>undef
theorem Ul {a0:Act}{S0:ai}{b10:Nat}{X:List (Nat×Obj)}{Q:aZ}(hs:a0.tmps.size=20)(h10:a0.eval (.tmp 10)=.pointer (some ⟨b10,0,none⟩))(hb:(b10,Obj.cells (aW 0 0 0 false 0 0 41).toArray 48 (0,0))∈X)(hm:Mm Try.prog M w X [])
  (hQ:∀ a w,a.defers=a0.defers→a.eval (.tmp 8)=.int .i64 0→a.eval (.tmp 9)=.int .i64 41→Mm Try.prog M w X []→Q .normal S0 M a w) :
  aM Try.prog main 21 .normal (.region 2 ((opsOf 2 Try.f21.body)) true) Q S0 M a0 w:=by
 refine jy af Uk (by rw [hs];kernel_rfl) (Γ:=Unit) (wC b10) (fun γ f S' M' w=>S'=S0∧M'=M∧Mm Try.prog M' w X []) () (fun w1 hr=>?_) (fun i hi γ f S' M' a w o ho hg' hM hoi az hC=>?_) (fun γ f S' M' a w hall hM hC=>?_)
 ·exact ⟨rfl,rfl,oq (hm.rely hr)⟩
 ·have hw:=jd (a:=a) (ops:=((opsOf 2 Try.f21.body))) hg'
  have hlt:i < 6:=hi
  obtain ⟨rfl,rfl,hmm⟩:=hC
  obtain ⟨j,hj⟩:=List.mem_iff_getElem?.1 (aO (hb):(b10,Obj.cells (aW 0 0 0 false 0 0 41).toArray 48 (0,0))∈X ++ [])
  have still:∀ w1 x,x=wC b10 γ i→Mm Try.prog M' w1 X []→∃ γ':Unit,a.put o.dst x=a.put o.dst (wC b10 γ' i)∧(∀ j,on f j=true→wC b10 γ' j=wC b10 γ j)∧S'=S'∧M'=M'∧Mm Try.prog M' w1 X []:=fun w1 x hx hm1=>⟨γ,by rw [hx],fun _ _=>rfl,rfl,rfl,hm1⟩
  rcases (by omega:i=0∨i=1∨i=2∨i=3∨i=4∨i=5) with rfl | rfl | rfl | rfl | rfl | rfl
  ·exact aS ae ho hw (bZ (t:=48) (x:=.tmp 10) (k:=4) (fo:=4) (off:=0) (aC af ho) ((hM.slot ae).trans h10) af) hmm fun w1=>still w1 _ rfl
  ·exact eU ae ho hw (t:=3) (x:=.tmp 16) (aC af ho) (n:=j) (b:=b10) (k:=4) (v:=.int .i64 0) (hM.val 0 16 rfl (az 0 af)) hmm hj rfl af fun w1=>still w1 _ rfl
  ·exact aS ae ho hw (bZ (t:=48) (x:=.tmp 10) (k:=6) (fo:=6) (off:=0) (aC af ho) ((hM.slot ae).trans h10) af) hmm fun w1=>still w1 _ rfl
  ·exact eU ae ho hw (t:=25) (x:=.tmp 18) (aC af ho) (n:=j) (b:=b10) (k:=6) (v:=.int .i64 41) (hM.val 2 18 rfl (az 2 af)) hmm hj rfl af fun w1=>still w1 _ rfl
  ·exact aS ae ho hw (eB (x:=.tmp 17) (aC af ho) (hM.val 1 17 rfl (az 1 af))) hmm fun w1=>still w1 _ rfl
  ·exact aS ae ho hw (eB (x:=.tmp 19) (aC af ho) (hM.val 3 19 rfl (az 3 af))) hmm fun w1=>still w1 _ rfl
 ·obtain ⟨rfl,rfl,hmm⟩:=hC
  exact hQ a w hM.defers (hM.val 4 8 rfl (hall 4 ae)) (hM.val 5 9 rfl (hall 5 ae)) hmm
theorem Um {xb ar:Nat}{dv:Value}(hx:(xb,Obj.cells #[.slice (some ⟨ar,0,none⟩) 3 3] 53 (0,0))∈L)(hm:Mm Try.prog M w L [])(S:ai):bn Try.prog main 21 #[.pointer (some ⟨xb,0,none⟩),.pointer none,.int .i64 9,dv] (fun e S' M' w'=>S'=S∧(∀ c,M c→M' c)∧e=.returned (.tuple #[.int .i64 0,.int .i64 41])∧∃ more,Mm Try.prog M' w' (L ++ more) []) S M w:=by
 refine eQ Try.func21 Uj ?_
 obtain ⟨a,ha,hs,hd,he⟩:=entered Try.func21 #[.pointer (some ⟨xb,0,none⟩),.pointer none,.int .i64 9,dv] .normal (N:=20) rfl (by show 4≤20;decide)
 have h0:=he 0 _ rfl
 have h1:=he 1 _ rfl
 have h2:=he 2 _ rfl
 have h3:=he 3 _ rfl
 rw [← ha]
 clear ha he
 refine ak (kG [0,1] (kR (d:=some 8) (p:=.assign (.const (.int .i64 0))) (fun o ho=>eB (v:=.int .i64 0) ho rfl) hm fun w hm=>?_))
 refine kR (d:=some 9) (p:=.assign (.const (.int .i64 0))) (fun o ho=>eB (v:=.int .i64 0) ho rfl) hm fun w hm=>?_
 refine aA (ak (kG [0,1,2,3,4,5,6] (kM (v:=.pointer (some ⟨xb,0,none⟩)) 11 0 hm fun w hm=>?_)))
 refine kM (v:=.pointer none) 12 1 hm fun w hm=>kM (v:=.int .i64 9) 13 2 hm fun w hm=>kM (v:=dv) 14 3 hm fun w hm=>kC (d:=some 15) (args:=#[.tmp 11,.tmp 12,.tmp 13,.tmp 14]) (ats:=#[24,69,3,109]) Try.func22 (ys:=#[.pointer (some ⟨xb,0,none⟩),.pointer none,.int .i64 9,dv]) (by simp only [List.map_toArray,List.map_cons,List.map_nil];exact Bi eV eV eV eV) (bG (Uh (dv:=dv) hx hm _) fun e S1 M1 w hq=>?_)
 obtain ⟨hS1,fC,rfl,b8,hm⟩:=hq
 rw [hS1]
 refine kX ae (d:=some 10) (t:=48) eI (z:=.agg (aW 0 0 0 false 0 0 0).toArray) af hm fun b10 w hm=>?_
 replace hm:=hm.perm List.perm_append_comm
 refine lX ae (d:=none) (t:=48) (x:=.tmp 10) (y:=.tmp 15) eI (n:=0) (b:=b10) eV (vs:=aW 0 0 0 false 0 0 41) eV hm rfl rfl af vS fun w hm=>?_
 rw [bV]
 refine aA ?_
 replace hm:Mm Try.prog _ _ ([(b10,Obj.cells (aW 0 0 0 false 0 0 41).toArray 48 (0,0))] ++ (L ++ [(b8,Obj.cells (aW 0 0 0 false 0 0 41).toArray 48 (0,0))])) []:=hm
 refine ak (Ul (b10:=b10) bJ eV ah hm fun a w gd g8 g9 hm=>?_)
 refine eG ?_
 exact fT (Bj (t:=8) (u:=9) rfl (gd.trans bJ) g8 g9 fun w1 hr=>⟨rfl,fun c hc=>.inl (fC c hc),rfl,[(b8,Obj.cells (aW 0 0 0 false 0 0 41).toArray 48 (0,0)),(b10,Obj.cells (aW 0 0 0 false 0 0 41).toArray 48 (0,0))],(hm.rely hr).perm (by
  classical
  exact List.perm_iff_count.2 fun u=>by
   simp only [List.count_append,List.count_cons,List.count_nil]
   omega)⟩)
theorem Un:Try.f11.body=some (.seq (.region 0 (opsOf 0 Try.f11.body) false) (.seq (.region 1 (opsOf 1 Try.f11.body) false) .ret)):=by kernel_rfl
end
theorem Uo:IA:=fun M w L xb ar S hx hm=>by
 refine eQ Try.func11 Un ?_
 obtain ⟨a,ha,hs,hd,he⟩:=entered Try.func11 #[.pointer (some ⟨xb,0,none⟩),.pointer none,.int .i64 9] .normal (N:=16) rfl (by show 3≤16;decide)
 have h0:=he 0 _ rfl
 have h1:=he 1 _ rfl
 have h2:=he 2 _ rfl
 rw [← ha]
 clear ha he
 refine ak (kG [0,1] (kR (d:=some 6) (p:=.assign (.const (.int .i64 0))) (fun o ho=>eB (v:=.int .i64 0) ho rfl) hm fun w hm=>?_))
 refine kR (d:=some 7) (p:=.assign (.const (.int .i64 0))) (fun o ho=>eB (v:=.int .i64 0) ho rfl) hm fun w hm=>?_
 refine aA (ak (kG [0,1,2,3,4,5,6,7,8,9] (kM (v:=.pointer (some ⟨xb,0,none⟩)) 8 0 hm fun w hm=>?_)))
 refine kM (v:=.pointer none) 9 1 hm fun w hm=>kM (v:=.int .i64 9) 10 2 hm fun w hm=>kR (d:=some 11) (v:=.agg #[]) (p:=.build 71 #[]) (fun o ho=>ik ho (vs:=[]) rfl af) hm fun w hm=>?_
 refine kR (d:=some 12) (Io (t:=71) (x:=.tmp 11) (v:=.agg #[]) eV (fun w1=>⟨af,af⟩)) hm fun w hm=>?_
 refine kC (d:=some 13) (args:=#[.tmp 8,.tmp 9,.tmp 10,.tmp 12]) (ats:=#[24,69,3,109]) Try.func21 (ys:=#[.pointer (some ⟨xb,0,none⟩),.pointer none,.int .i64 9,.iface 71 (.agg #[])]) (by simp only [List.map_toArray,List.map_cons,List.map_nil];exact Bi eV eV eV eV) (bG (Um (dv:=.iface 71 (.agg #[])) hx hm _) fun e S1 M1 w hq=>?_)
 obtain ⟨hS1,fC,rfl,more,hm⟩:=hq
 rw [hS1]
 refine kR (d:=some 14) (jY (x:=.tmp 13) (ix:=0) (vs:=#[.int .i64 0,.int .i64 41]) (v:=.int .i64 0) eV rfl) hm fun w hm=>?_
 refine kR (d:=some 15) (jY (x:=.tmp 13) (ix:=1) (vs:=#[.int .i64 0,.int .i64 41]) (v:=.int .i64 41) eV rfl) hm fun w hm=>?_
 refine kS (v:=.int .i64 0) 6 14 hm fun w hm=>kS (v:=.int .i64 41) 7 15 hm fun w hm=>aA (eG ?_)
 exact fT (Bj (t:=6) (u:=7) rfl bJ eV eV fun w1 hr=>⟨rfl,fC,rfl,more,hm.rely hr⟩)
end Go.Proofs.Ytanploaffndpjaa
namespace Go.Proofs.Ytanploaffndpjaa
open Go Go.Blind Go.Conc Go.RowKit
theorem WK:Try.f3.body=some (.seq (.region 0 (aL 0 Try.f3.body) false) (.seq (.seq (.region 1 (aL 1 Try.f3.body) false) (.cond (.tmp 19) (.seq (.region 2 (aL 2 Try.f3.body) false) .ret) .skip)) (.seq (.seq (.region 3 (aL 3 Try.f3.body) false) (.cond (.tmp 22) (.seq (.region 4 (aL 4 Try.f3.body) false) .ret) .skip)) (.seq (.region 5 (aL 5 Try.f3.body) false) (.seq (.region 6 (aL 6 Try.f3.body) false) (.seq (.seq (.region 7 (aL 7 Try.f3.body) false) (.cond (.tmp 74) (.seq (.region 8 (aL 8 Try.f3.body) false) .ret) .skip)) (.seq (.seq (.region 9 (aL 9 Try.f3.body) false) (.cond (.tmp 82) (.seq (.region 10 (aL 10 Try.f3.body) false) .ret) .skip)) (.seq (.region 11 (aL 11 Try.f3.body) true) (.seq (.seq (.region 12 (aL 12 Try.f3.body) false) (.block 0 (.loop (.seq (.seq (.region 13 (aL 13 Try.f3.body) false) (.cond (.tmp 90) .skip (.exit 0))) (.seq (.block 1 (.seq (.region 15 (aL 15 Try.f3.body) false) (.seq (.seq (.region 16 (aL 16 Try.f3.body) false) (.cond (.tmp 100) (.region 17 (aL 17 Try.f3.body) false) .skip)) (.seq (.region 18 (aL 18 Try.f3.body) false) (.cond (.tmp 110) (.seq (.region 19 (aL 19 Try.f3.body) false) .ret) .skip))))) (.region 14 (aL 14 Try.f3.body) false)))))) (.seq (.region 20 (aL 20 Try.f3.body) false) (.seq (ug Try.f3.body [1,1,1,1,1,1,1,1,1,1,0]) (.seq (.region 25 (aL 25 Try.f3.body) false) .ret)))))))))))):=by kernel_rfl
def WL:List FuncId:=[18,19,102,105,109,23,24,103,106,110,108,98,8,5,9,6,36,57,67,99,100,101,104,107,111,112,22,21,11,12,13,14,15,16,17,7,461008]
abbrev GV:FuncId→Bool:=fun g=>WL.contains g
theorem gu:Go.Blind.Good Try.prog GV:=FU (n:=8) (X:=xW) FV af af fun f hf fn hfn hb K xs ys h=>by
 simp only [xW,List.mem_cons,List.not_mem_nil,or_false] at hf
 rcases hf with rfl | rfl | rfl | rfl | rfl
 ·rw [Try.func23] at hfn;cases hfn
  exact SR.mK Try.func23 af rfl af (e:=Extern.Atomic.loadT (.int .i64)) af (fun K xs ys h=>SR.FK h) h
 ·rw [Try.func24] at hfn;cases hfn
  exact SR.mK Try.func24 af rfl af (e:=Extern.Atomic.storeT) af (fun K xs ys h=>SR.FL h) h
 ·rw [Try.func103] at hfn;cases hfn
  exact SR.mK Try.func103 af rfl af (e:=Extern.Atomic.update (Op.intArith .add) .i64 true) af (fun K xs ys h=>SR.FN h) h
 ·rw [Try.func106] at hfn;cases hfn
  exact SR.mK Try.func106 af rfl af (e:=Extern.Atomic.swapT (.int .i64)) af (fun K xs ys h=>SR.FM h) h
 ·rw [Try.func110] at hfn;cases hfn
  exact SR.mK Try.func110 af rfl af (e:=Extern.Atomic.casT (.int .i64)) af (fun K xs ys h=>SR.FQ h) h
theorem WM:([2,3,4,5,6,7,8,9,10,12,13,14,15,17,19,20,25].all fun k=>fI Try.prog GV (.region k (aL k Try.f3.body) false))=true:=by kernel_rfl
theorem gY {k:Nat}(h:k∈[2,3,4,5,6,7,8,9,10,12,13,14,15,17,19,20,25]):fI Try.prog GV (.region k (aL k Try.f3.body) false)=true:=List.all_eq_true.1 WM k h
theorem WN:fI Try.prog GV (.region 11 (aL 11 Try.f3.body) true)=true:=by kernel_rfl
theorem WO:fI Try.prog GV (ug Try.f3.body [1,1,1,1,1,1,1,1,1,1,0])=true:=by kernel_rfl
theorem gG:∃ f,Try.prog.funcs[3]?=some f:=⟨_,Try.func3⟩
theorem cz {a:Act}{d k:Nat}{y:Value}(h:k≠d):(a.put (some d) y).eval (.tmp k)=a.eval (.tmp k):=by
 simp [Act.put,Act.eval,Array.getD_eq_getD_getElem?,Ne.symm h]
theorem iC {a:Act}{d:Nat}{y:Value}(h:d < a.tmps.size):(a.put (some d) y).eval (.tmp d)=y:=by
 rw [Go.Blind.lT h,if_pos rfl]
structure B0 (n m:Int)(oa:Option Addr)(len cap:Nat)(a:Act):Prop where
 s:a.tmps.size=143
 d:a.defers=[]
 x0:a.eval (.tmp 0)=.int .i64 n
 x1:a.eval (.tmp 1)=.int .i64 m
 x2:a.eval (.tmp 2)=.slice oa len cap
structure qP (n m:Nat)(oa:Option Addr)(len cap:Nat)(xb b ab yb c bb:Nat)(cs ds:Array Value)(a:Act)(v:World):Prop where
 s:a.tmps.size=143
 d:a.defers=[]
 x0:a.eval (.tmp 0)=.int .i64 (n:Nat)
 x1:a.eval (.tmp 1)=.int .i64 (m:Nat)
 x2:a.eval (.tmp 2)=.slice oa len cap
 x7:a.eval (.tmp 7)=.pointer (some ⟨xb,0,none⟩)
 x9:a.eval (.tmp 9)=.pointer (some ⟨yb,0,none⟩)
 cO:a.eval (.tmp 11)=.slice (some ⟨ab,0,none⟩) n n
 cZ:a.eval (.tmp 12)=.slice (some ⟨bb,0,none⟩) m m
 t:jm v xb b ab n yb c bb m cs ds
section
variable {n m len cap xb b ab yb c bb:Nat}{oa:Option Addr}{cs ds:Array Value}{a:Act}{v:World}
theorem CA.tp (h:CA v xb b n cs) (τ):CA (tp τ v) xb b n cs:=⟨h.x,h.c,h.size⟩
theorem DA.tp (h:DA v xb b ab n cs) (τ):DA (tp τ v) xb b ab n cs:=⟨h.c.tp τ,h.l,h.nb,h.nx,h.bx⟩
theorem jm.tp (h:jm v xb b ab n yb c bb m cs ds) (τ):jm (tp τ v) xb b ab n yb c bb m cs ds:=⟨h.x.tp τ,h.y.tp τ,h.ix,h.iy,h.ap⟩
theorem qP.put (h:qP n m oa len cap xb b ab yb c bb cs ds a v){d:Nat}{y:Value}(hd:12 < d):qP n m oa len cap xb b ab yb c bb cs ds (a.put (some d) y) v :=
 ⟨by rw [size_put];exact h.s,by rw [bO];exact h.d,(cz ag).trans h.x0,(cz ag).trans h.x1,(cz ag).trans h.x2,(cz ag).trans h.x7,(cz ag).trans h.x9,(cz ag).trans h.cO,(cz ag).trans h.cZ,h.t⟩
end
def gH (n m:Nat)(oa:Option Addr)(len cap i:Nat):Act→World→Prop:=fun a v=>∃ xb b ab yb c bb cs ds,qP n m oa len cap xb b ab yb c bb cs ds a v∧a.eval (.tmp 13)=.int .i64 (i:Nat)
def jG (n m:Nat)(oa:Option Addr)(len cap i:Nat):Act→World→Prop:=fun a v=>∃ xb b ab yb c bb cs ds,qP n m oa len cap xb b ab yb c bb cs ds a v∧a.eval (.tmp 13)=.int .i64 (i:Nat)∧((a.eval (.tmp 14)=.pointer (some ⟨xb,0,none⟩)∧a.eval (.tmp 15)=.slice (some ⟨ab,0,none⟩) n n)∨(a.eval (.tmp 14)=.pointer (some ⟨yb,0,none⟩)∧a.eval (.tmp 15)=.slice (some ⟨bb,0,none⟩) m m))
section
variable {n m len cap i:Nat}{oa:Option Addr}{a:Act}{v:World}
theorem gH.put (h:gH n m oa len cap i a v){d:Nat}{y:Value}(hd:15 < d):gH n m oa len cap i (a.put (some d) y) v:=by
 obtain ⟨xb,b,ab,yb,c,bb,cs,ds,h1,h2⟩:=h
 exact ⟨xb,b,ab,yb,c,bb,cs,ds,h1.put ag,(cz ag).trans h2⟩
theorem jG.put (h:jG n m oa len cap i a v){d:Nat}{y:Value}(hd:15 < d):jG n m oa len cap i (a.put (some d) y) v:=by
 obtain ⟨xb,b,ab,yb,c,bb,cs,ds,h1,h2,h3⟩:=h
 refine ⟨xb,b,ab,yb,c,bb,cs,ds,h1.put ag,(cz ag).trans h2,?_⟩
 rw [cz ag,cz ag]
 exact h3
theorem jG.toI (h:jG n m oa len cap i a v):gH n m oa len cap i a v:=by
 obtain ⟨xb,b,ab,yb,c,bb,cs,ds,h1,h2,h3⟩:=h
 exact ⟨xb,b,ab,yb,c,bb,cs,ds,h1,h2⟩
theorem gH.x2 (h:gH n m oa len cap i a v):a.eval (.tmp 2)=.slice oa len cap:=by
 obtain ⟨xb,b,ab,yb,c,bb,cs,ds,h1,h2⟩:=h
 exact h1.x2
theorem gH.jF (h:gH n m oa len cap i a v):a.eval (.tmp 13)=.int .i64 (i:Nat):=by
 obtain ⟨xb,b,ab,yb,c,bb,cs,ds,h1,h2⟩:=h
 exact h2
theorem gH.s (h:gH n m oa len cap i a v):a.tmps.size=143:=by
 obtain ⟨xb,b,ab,yb,c,bb,cs,ds,h1,h2⟩:=h
 exact h1.s
end
structure qQ (X:List (Nat×Obj))(N:Nat)(oa:Option Addr)(len:Nat):Prop where
 old:∀ cap,Old N GV (.slice oa len cap)
 fix:∀ cap,fG N (.slice oa len cap)
 all:∀ k,k < len→∃ (mb mo:Nat) (ca:Array Value) (e:TypeId) (fz:Nat×Nat) (q0 q1 q2 q3:Int) (pv:Value),oa=some ⟨mb,mo,none⟩∧mb < N∧(mb,Obj.cells ca e fz)∈X∧pX N GV pv ∧
  ∀ j y,[Value.int .i64 q0,.int .i64 q1,.int .i64 q2,.int .i64 q3,pv][j]?=some y→ca[mo+k * 5+j]?=some y
section
variable {P:Program}{a:Act}
theorem I8 {t:TypeId}{x y:Operand}{b o n cp i sz:Nat}(hx:a.eval x=.slice (some ⟨b,o,none⟩) n cp)(hy:a.eval y=.int .i64 (i:Nat))(hi:i < n)(hu:P.underlying t=some (.slice (P.elem t)))(hs:(P.info? (P.elem t)).map (·.size)=some sz):∀ op:Oper,op.op=.indexAddr t x y→dn P a op (.pointer (some ⟨b,o+i * sz,none⟩)):=fun op ho=>by
 have:=iI (P:=P) (ad:=⟨b,o,none⟩) (len:=n) (cap:=cp) (k:=.i64) (i:=(i:Nat)) (sz:=sz) ho hx hy ⟨ag,ag⟩ hu hs
 rw [Int.toNat_natCast,Addr.add_mid] at this
 exact this
end
section
variable {n m len cap i N:Nat}{oa:Option Addr}{F M:Nat→Prop}{X:List (Nat×Obj)}{a:Act}{w:World}{S:ai}{Q:aZ}
set_option maxHeartbeats 1600000 in
theorem WQ (hA:qQ X N oa len)(hi:i < len)(h:St Try.prog GV N F X (jG n m oa len cap i) M a w)(hk:∀ a' (t:Bool),a'.eval (.tmp 100)=.bool t→St Try.prog GV N F X (jG n m oa len cap i) M a' w→Q .normal S M a' w):aM Try.prog true 3 .normal (.region 16 (aL 16 Try.f3.body) false) Q S M a w:=by
 obtain ⟨mb,mo,ca,e,fz,q0,q1,q2,q3,pv,rfl,hmb,hX,hpv,hc⟩:=hA.all i hi
 have h2:=h.eval (k:=2) (hA.fix cap) fun a v q=>q.toI.x2
 have jX:=h.eval (k:=13) (fG.int _ _) fun a v q=>q.toI.jF
 have hs:=h.size fun a v q=>q.toI.s
 obtain ⟨hM,hw⟩:=h.known hX
 have g1:=h.put (hA.old cap).v 95 (fun a v q=>q.put ag)
 have g2:=g1.put (Old.int .i64 (i:Nat)).v 96 (fun a v q=>q.put ag)
 have g3:=g2.put (Old.ptr (a:=⟨mb,mo+i * 5,none⟩) hmb).v 97 (fun a v q=>q.put ag)
 have g4:=g3.put (Old.ptr (a:=⟨mb,mo+i * 5+3,none⟩) hmb).v 98 (fun a v q=>q.put ag)
 have g5:=g4.put (Old.int .i64 q3).v 99 (fun a v q=>q.put ag)
 have g6:=g5.put (Old.bool (decide (q3 < 0))).v 100 (fun a v q=>q.put ag)
 refine kG [0,1,2,3,4,5] (mg ae (v:=.slice (some ⟨mb,mo,none⟩) len cap) (d:=some 95) (p:=.move (.tmp 2)) eI (fun o ho=>bK ho h2) ?_)
 refine mg ae (v:=.int .i64 (i:Nat)) (d:=some 96) (p:=.move (.tmp 13)) eI (fun o ho=>bK ho (by rw [cz ae];exact jX)) ?_
 refine mg ae (d:=some 97) (p:=.indexAddr 22 (.tmp 95) (.tmp 96)) eI (I8 (sz:=5) (b:=mb) (o:=mo) (n:=len) (cp:=cap) (i:=i) (by rw [cz ae,iC ag]) (by rw [iC eO]) hi af af) ?_
 refine mg ae (d:=some 98) (p:=.fieldAddr 32 (.tmp 97) 3) eI (fun o ho=>bZ (fo:=3) (off:=mo+i * 5) ho (by rw [iC eO]) af) ?_
 refine Wl ae (d:=some 99) (t:=3) (x:=.tmp 98) eI (b:=mb) (k:=mo+i * 5+3) (v:=.int .i64 q3) (by rw [iC eO]) hM hw (hc 3 _ rfl) af ?_
 refine mg ae (d:=some 100) eI (jC (t:=3) (t':=3) (x:=.tmp 99) (y:=(.const (.int .i64 0))) (k:=q3) (m:=0) (by rw [iC eO]) rfl) ?_
 exact aA (hk _ _ (iC eO) g6)
def wH (n m:Nat)(oa:Option Addr)(len cap i:Nat):Act→World→Prop:=fun a v=>jG n m oa len cap i a v∧a.eval (.tmp 103)=a.eval (.tmp 14)∧a.eval (.tmp 104)=a.eval (.tmp 15)
theorem wH.put {v:World}{y:Value}{d:Nat}(h:wH n m oa len cap i a v)(hd:104 < d):wH n m oa len cap i (a.put (some d) y) v :=
 ⟨h.1.put ag,by rw [cz ag,cz ag];exact h.2.1,by rw [cz ag,cz ag];exact h.2.2⟩
theorem WR {v v':World}{xb b ab yb c bb:Nat}{cs cs' ds:Array Value}(h:jm v xb b ab n yb c bb m cs ds)(hd:DL v b ab cs' v')(hz:cs'.size=cs.size)(hI:gq cs'):jm v' xb b ab n yb c bb m cs' ds:=by
 have nx:=h.x.nx
 have bx:=h.x.bx
 have a1:=h.ap
 refine ⟨⟨⟨hd.turned.heap h.x.c.x (by simp;omega),hd.c,hz.trans h.x.c.size⟩,hd.l,h.x.nb,h.x.nx,h.x.bx⟩,h.y.still hd.turned ?_ ?_ ?_,hI,h.iy,h.ap⟩ <;> (simp;simp at a1;omega)
theorem WS {v v':World}{xb b ab yb c bb:Nat}{cs ds' ds:Array Value}(h:jm v xb b ab n yb c bb m cs ds)(hd:DL v c bb ds' v')(hz:ds'.size=ds.size)(hI:gq ds'):jm v' xb b ab n yb c bb m cs ds':=by
 have nx:=h.y.nx
 have bx:=h.y.bx
 have a1:=h.ap
 refine ⟨h.x.still hd.turned ?_ ?_ ?_,⟨⟨hd.turned.heap h.y.c.x (by simp;omega),hd.c,hz.trans h.y.c.size⟩,hd.l,h.y.nb,h.y.nx,h.y.bx⟩,h.ix,hI,h.ap⟩ <;> (simp;simp at a1;omega)
theorem WT {k0 k1 k2:Nat}(L:av)(a a':Act)(h:AR L a.tmps a'.tmps):AR L ((#[Operand.tmp k0,.tmp k1,.tmp k2]:Array Operand).map a.eval) ((#[Operand.tmp k0,.tmp k1,.tmp k2]:Array Operand).map a'.eval):=by
 simp only [List.map_toArray,List.map_cons,List.map_nil]
 exact (((AR.nil L).push (h.getD k0 (jI L))).push (h.getD k1 (jI L))).push (h.getD k2 (jI L))
set_option maxHeartbeats 1600000 in
theorem WU (hA:qQ X N oa len)(hi:i < len)(h:St Try.prog GV N F X (jG n m oa len cap i) M a w)(hk:∀ M a' w,a'.eval (.tmp 110)=.bool false→St Try.prog GV N F X (gH n m oa len cap i) M a' w→Q .normal S M a' w):aM Try.prog true 3 .normal (.region 18 (aL 18 Try.f3.body) false) Q S M a w:=by
 obtain ⟨mb,mo,ca,e,fz,q0,q1,q2,q3,pv,rfl,hmb,hX,hpv,hc⟩:=hA.all i hi
 have h2:=h.eval (k:=2) (hA.fix cap) fun a v q=>q.toI.x2
 have jX:=h.eval (k:=13) (fG.int _ _) fun a v q=>q.toI.jF
 have hs:=h.size fun a v q=>q.toI.s
 obtain ⟨hM,hw⟩:=h.known hX
 have hag:pX N GV (.agg [Value.int .i64 q0,.int .i64 q1,.int .i64 q2,.int .i64 q3,pv].toArray):=fun L hb hg=>VR.agg _ _ rfl fun i x y hx hy=>by
  rw [hx] at hy
  cases hy
  have hx:=Array.mem_of_getElem? hx
  simp at hx
  rcases hx with rfl | rfl | rfl | rfl | rfl
  ·exact .int _ _
  ·exact .int _ _
  ·exact .int _ _
  ·exact .int _ _
  ·exact hpv L hb hg
 have g1:=h.mv (Ψ:=fun a v=>jG n m (some ⟨mb,mo,none⟩) len cap i a v∧a.eval (.tmp 103)=a.eval (.tmp 14)) 103 14 (fun a v q=>⟨q.put ag,by rw [iC (by rw [q.toI.s];omega),cz ae]⟩)
 have g2:=g1.mv (Ψ:=wH n m (some ⟨mb,mo,none⟩) len cap i) 104 15 (fun a v q=>⟨q.1.put ag,by rw [cz ae,cz ae];exact q.2,by rw [iC (by rw [q.1.toI.s];omega),cz ae]⟩)
 have g3:=g2.put (hA.old cap).v 105 (fun a v q=>q.put ag)
 have g4:=g3.put (Old.int .i64 (i:Nat)).v 106 (fun a v q=>q.put ag)
 have g5:=g4.put (Old.ptr (a:=⟨mb,mo+i * 5,none⟩) hmb).v 107 (fun a v q=>q.put ag)
 have g6:=g5.put hag 108 (Ψ:=fun a v=>wH n m (some ⟨mb,mo,none⟩) len cap i a v∧a.eval (.tmp 108)=.agg [Value.int .i64 q0,.int .i64 q1,.int .i64 q2,.int .i64 q3,pv].toArray) (fun a v q=>⟨q.put ag,iC (by rw [q.1.toI.s];omega)⟩)
 refine kG [0,1,2,3,4,5,6,7] (mg ae (v:=a.eval (.tmp 14)) (d:=some 103) (p:=.move (.tmp 14)) eI (fun o ho=>bK ho rfl) ?_)
 refine mg ae (v:=(a.put (some 103) (a.eval (.tmp 14))).eval (.tmp 15)) (d:=some 104) (p:=.move (.tmp 15)) eI (fun o ho=>bK ho rfl) ?_
 refine mg ae (v:=.slice (some ⟨mb,mo,none⟩) len cap) (d:=some 105) (p:=.move (.tmp 2)) eI (fun o ho=>bK ho (by rw [cz ae,cz ae];exact h2)) ?_
 refine mg ae (v:=.int .i64 (i:Nat)) (d:=some 106) (p:=.move (.tmp 13)) eI (fun o ho=>bK ho (by rw [cz ae,cz ae,cz ae];exact jX)) ?_
 refine mg ae (d:=some 107) (p:=.indexAddr 22 (.tmp 105) (.tmp 106)) eI (I8 (sz:=5) (b:=mb) (o:=mo) (n:=len) (cp:=cap) (i:=i) (by rw [cz ae,iC eO]) (by rw [iC eO]) hi af af) ?_
 refine Wm ae (d:=some 108) (t:=32) (x:=.tmp 107) eI (b:=mb) (off:=mo+i * 5) (vs:=[Value.int .i64 q0,.int .i64 q1,.int .i64 q2,.int .i64 q3,pv]) (by rw [iC eO]) hM hw hc af af ?_
 refine Wn gu ae (d:=109) (args:=#[.tmp 103,.tmp 104,.tmp 108]) (ats:=#[24,29,32]) eI Try.func7 af af af WT g6 (Ψ:=fun a v=>gH n m (some ⟨mb,mo,none⟩) len cap i a v∧a.eval (.tmp 109)=.bool true) (fun a v τ q=>?_) fun M a w g7=>?_
 ·obtain ⟨⟨⟨xb,b,ab,yb,c,bb,cs,ds,k1,k2,k3⟩,k4,k5⟩,k6⟩:=q
  simp only [List.map_toArray,List.map_cons,List.map_nil]
  rw [k4,k5,k6]
  rcases k3 with ⟨k3,k7⟩ | ⟨k3,k7⟩
  ·rw [k3,k7]
   refine (IL ((k1.t.tp τ).x) k1.t.ix).mono fun e v' z=>?_
   obtain ⟨rfl,cs',z1,z2,z3⟩:=z
   have hh:=(k1.put (d:=109) (y:=.bool true) ag)
   exact ⟨_,rfl,⟨xb,b,ab,yb,c,bb,cs',ds,⟨hh.s,hh.d,hh.x0,hh.x1,hh.x2,hh.x7,hh.x9,hh.cO,hh.cZ,WR (k1.t.tp τ) z3 z1 z2⟩,(cz ae).trans k2⟩,iC (by rw [k1.s];omega)⟩
  ·rw [k3,k7]
   refine (IL ((k1.t.tp τ).y) k1.t.iy).mono fun e v' z=>?_
   obtain ⟨rfl,cs',z1,z2,z3⟩:=z
   have hh:=(k1.put (d:=109) (y:=.bool true) ag)
   exact ⟨_,rfl,⟨xb,b,ab,yb,c,bb,cs,cs',⟨hh.s,hh.d,hh.x0,hh.x1,hh.x2,hh.x7,hh.x9,hh.cO,hh.cZ,WS (k1.t.tp τ) z3 z1 z2⟩,(cz ae).trans k2⟩,iC (by rw [k1.s];omega)⟩
 ·have WV:=g7.eval (k:=109) (fG.bool true) fun a v q=>q.2
  have hs7:=g7.size fun a v q=>q.1.s
  have g8:=g7.put (Old.bool false).v 110 (Ψ:=gH n m (some ⟨mb,mo,none⟩) len cap i) (fun a v q=>q.1.put ag)
  refine mg ae (v:=.bool false) (d:=some 110) eI (AL (t:=4) (x:=.tmp 109) (v:=true) WV) ?_
  exact aA (hk _ _ _ (iC ag) g8)
end
section
variable {n m len cap i N:Nat}{oa:Option Addr}{F M:Nat→Prop}{X:List (Nat×Obj)}{a:Act}{w:World}{S:ai}{Q:aZ}
theorem WW (hA:qQ X N oa len)(hlen:len≤300)(h:St Try.prog GV N F X (gH n m oa len cap i) M a w)(hi0:i≤len)(hn:∀ M a w,i < len→St Try.prog GV N F X (gH n m oa len cap (i+1)) M a w→Q .normal S M a w)(hx:∀ M a w,St Try.prog GV N F X (gH n m oa len cap i) M a w→Q (.exit 0) S M a w) :
  aM Try.prog true 3 .normal (.seq (.seq (.region 13 (aL 13 Try.f3.body) false) (.cond (.tmp 90) .skip (.exit 0))) (.seq (.block 1 (.seq (.region 15 (aL 15 Try.f3.body) false) (.seq (.seq (.region 16 (aL 16 Try.f3.body) false) (.cond (.tmp 100) (.region 17 (aL 17 Try.f3.body) false) .skip)) (.seq (.region 18 (aL 18 Try.f3.body) false) (.cond (.tmp 110) (.seq (.region 19 (aL 19 Try.f3.body) false) .ret) .skip))))) (.region 14 (aL 14 Try.f3.body) false))) Q S M a w:=by
 refine ak (ak (gF gu gG (gY ah) h (Ψ:=fun a v=>gH n m oa len cap i a v∧a.eval (.tmp 90)=.bool (decide ((i:Int) < (len:Int)))) (fun a v τ q=>?_) fun M a w g1=>?_))
 ·obtain ⟨xb,b,ab,yb,c,bb,cs,ds,h,jX⟩:=q
  exact V3 h.s h.d h.x0 h.x1 h.x2 h.x7 h.x9 h.cO h.cZ jX fun a' s d e0 e1 e2 e7 e9 e11 e12 e13 WX=>⟨rfl,⟨xb,b,ab,yb,c,bb,cs,ds,⟨s,d,e0,e1,e2,e7,e9,e11,e12,h.t.tp τ⟩,e13⟩,WX⟩
 refine lH (g1.eval (k:=90) (fG.bool _) fun a v q=>q.2) ?_
 by_cases hi:i < len
 ·rw [show decide ((i:Int) < (len:Int))=true from decide_eq_true ag,if_pos rfl]
  refine bS (ak (eH (ak (gF gu gG (gY ah) g1 (Ψ:=jG n m oa len cap i) (fun a v τ q=>?_) fun M a w g2=>?_))))
  ·obtain ⟨⟨xb,b,ab,yb,c,bb,cs,ds,h,jX⟩,_⟩:=q
   exact V4 h.s h.d h.x0 h.x1 h.x2 h.x7 h.x9 h.cO h.cZ jX fun a' s d e0 e1 e2 e7 e9 e11 e12 e13 e14 e15=>⟨rfl,xb,b,ab,yb,c,bb,cs,ds,⟨s,d,e0,e1,e2,e7,e9,e11,e12,h.t.tp τ⟩,e13,.inl ⟨e14,e15⟩⟩
  have last:∀ M a w,St Try.prog GV N F X (jG n m oa len cap i) M a w→aM Try.prog true 3 .normal (.seq (.region 18 (aL 18 Try.f3.body) false) (.cond (.tmp 110) (.seq (.region 19 (aL 19 Try.f3.body) false) .ret) .skip)) (fun e S' M' a' w'=>match e with | .exit id'=>if id'=1 then aM Try.prog true 3 .normal (.region 14 (aL 14 Try.f3.body) false) Q S' M' a' w' else Q e S' M' a' w' | .normal=>aM Try.prog true 3 .normal (.region 14 (aL 14 Try.f3.body) false) Q S' M' a' w' | _=>Q e S' M' a' w') S M a w:=by
   intro M a w g3
   refine ak (WU hA hi g3 fun M a w WY g4=>?_)
   refine lH (t:=false) WY ?_
   refine bS (gF gu gG (gY ah) g4 (Ψ:=gH n m oa len cap (i+1)) (fun a v τ q=>?_) fun M a w g5=>hn _ _ _ hi g5)
   obtain ⟨xb,b,ab,yb,c,bb,cs,ds,h,jX⟩:=q
   exact V6 h.s h.d h.x0 h.x1 h.x2 h.x7 h.x9 h.cO h.cZ jX ag ag fun a' s d e0 e1 e2 e7 e9 e11 e12 e13=>⟨rfl,xb,b,ab,yb,c,bb,cs,ds,⟨s,d,e0,e1,e2,e7,e9,e11,e12,h.t.tp τ⟩,by rw [e13];simp⟩
  have last':∀ M a w,St Try.prog GV N F X (jG n m oa len cap i) M a w→aM Try.prog true 3 .normal (.seq (.region 18 (aL 18 Try.f3.body) false) (.cond (.tmp 110) (.seq (.region 19 (aL 19 Try.f3.body) false) .ret) .skip)) (fun e S' M' a' w'=>match e with | .exit id'=>if id'=1 then (if Exit.normal matches .normal then aM Try.prog true 3 .normal (.region 14 (aL 14 Try.f3.body) false) Q S' M' a' w' else Q .normal S' M' a' w') else (if e matches .normal then aM Try.prog true 3 .normal (.region 14 (aL 14 Try.f3.body) false) Q S' M' a' w' else Q e S' M' a' w') | _=>(if e matches .normal then aM Try.prog true 3 .normal (.region 14 (aL 14 Try.f3.body) false) Q S' M' a' w' else Q e S' M' a' w')) S M a w:=fun M a w g=>xc (last M a w g) fun e S' M' a' w' q=>by
   cases e <;> exact q
  refine ak (ak (WQ hA hi g2 fun a t WZ g3=>?_))
  refine lH WZ ?_
  cases t with
  | false=>exact bS (last' _ _ _ g3)
  | true =>
   refine gF gu gG (gY ah) g3 (Ψ:=jG n m oa len cap i) (fun a v τ q=>?_) fun M a w g4=>last' _ _ _ g4
   obtain ⟨xb,b,ab,yb,c,bb,cs,ds,h,jX,_⟩:=q
   exact V5 h.s h.d h.x0 h.x1 h.x2 h.x7 h.x9 h.cO h.cZ jX fun a' s d e0 e1 e2 e7 e9 e11 e12 e13 e14 e15=>⟨rfl,xb,b,ab,yb,c,bb,cs,ds,⟨s,d,e0,e1,e2,e7,e9,e11,e12,h.t.tp τ⟩,e13,.inr ⟨e14,e15⟩⟩
 ·rw [show decide ((i:Int) < (len:Int))=false from decide_eq_false ag,if_neg ae]
  exact lG (hx _ _ _ (g1.imp fun a v q=>q.1))
end
def ui (L0:List (Nat×Obj)):Value→World→Prop:=fun v w1=>v=.bool true∧∀ p∈L0,w1.heap[p.1]?=some p.2
structure I9 (n m:Nat)(xb b ab yb c bb ub:Nat)(cs ds es:Array Value)(a:Act)(v:World):Prop where
 s:a.tmps.size=143
 d:a.defers=[]
 x0:a.eval (.tmp 0)=.int .i64 (n:Nat)
 x7:a.eval (.tmp 7)=.pointer (some ⟨xb,0,none⟩)
 x9:a.eval (.tmp 9)=.pointer (some ⟨yb,0,none⟩)
 cO:a.eval (.tmp 11)=.slice (some ⟨ab,0,none⟩) n n
 cZ:a.eval (.tmp 12)=.slice (some ⟨bb,0,none⟩) m m
 pW:a.eval (.tmp 16)=.slice (some ⟨ub,0,none⟩) n n
 t:jm v xb b ab n yb c bb m cs ds
 ap:∀ p∈[xb,b,ab,yb,c,bb],p≠ub
theorem jm.lt {v:World}{n m xb b ab yb c bb:Nat}{cs ds:Array Value}(h:jm v xb b ab n yb c bb m cs ds):∀ p∈[xb,b,ab,yb,c,bb],p < v.heap.size:=by
 have h1:=lt_of_heap h.x.c.x
 have h2:=lt_of_heap h.x.c.c
 have h3:=lt_of_heap h.x.l
 have h4:=lt_of_heap h.y.c.x
 have h5:=lt_of_heap h.y.c.c
 have h6:=lt_of_heap h.y.l
 intro p hp
 simp at hp
 rcases hp with rfl | rfl | rfl | rfl | rfl | rfl <;> assumption
section
variable {n m len cap N:Nat}{oa:Option Addr}{F M:Nat→Prop}{X:List (Nat×Obj)}{a:Act}{w:World}{S:ai}{Q:aZ}
theorem W9 (hA:qQ X N oa len)(hlen:len≤300)(hn:n≤256)(hm:m≤256)(h:St Try.prog GV N F X (fun a v=>∃ xb b ab yb c bb cs ds,qP n m oa len cap xb b ab yb c bb cs ds a v) M a w)(hk:∀ M a w,St Try.prog GV N F X (fun a v=>a.tmps.size=143∧a.defers=[]∧a.eval (.tmp 6)=.bool true) M a w→Q .ret S M a w) :
  aM Try.prog true 3 .normal (.seq (.seq (.region 12 (aL 12 Try.f3.body) false) (.block 0 (.loop (.seq (.seq (.region 13 (aL 13 Try.f3.body) false) (.cond (.tmp 90) .skip (.exit 0))) (.seq (.block 1 (.seq (.region 15 (aL 15 Try.f3.body) false) (.seq (.seq (.region 16 (aL 16 Try.f3.body) false) (.cond (.tmp 100) (.region 17 (aL 17 Try.f3.body) false) .skip)) (.seq (.region 18 (aL 18 Try.f3.body) false) (.cond (.tmp 110) (.seq (.region 19 (aL 19 Try.f3.body) false) .ret) .skip))))) (.region 14 (aL 14 Try.f3.body) false)))))) (.seq (.region 20 (aL 20 Try.f3.body) false) (.seq (ug Try.f3.body [1,1,1,1,1,1,1,1,1,1,0]) (.seq (.region 25 (aL 25 Try.f3.body) false) .ret)))) Q S M a w:=by
 refine ak (ak (gF gu gG (gY ah) h (Ψ:=gH n m oa len cap 0) (fun a v τ q=>?_) fun M a w g1=>?_))
 ·obtain ⟨xb,b,ab,yb,c,bb,cs,ds,h⟩:=q
  exact VZ h.s h.d h.x0 h.x1 h.x2 h.x7 h.x9 h.cO h.cZ fun a' s d e0 e1 e2 e7 e9 e11 e12 e13=>⟨rfl,xb,b,ab,yb,c,bb,cs,ds,⟨s,d,e0,e1,e2,e7,e9,e11,e12,h.t.tp τ⟩,e13⟩
 refine eH (kE (r:=fun x y:Nat=>x < y) Nat.lt_wfRel.wf (fun s S' M' a' w'=>S'=S∧∃ i,s=len - i∧i≤len∧St Try.prog GV N F X (gH n m oa len cap i) M' a' w') len ⟨rfl,0,rfl,Nat.zero_le _,g1⟩ fun s S' M a w hI=>?_)
 obtain ⟨rfl,i,rfl,hi,g2⟩:=hI
 refine WW hA hlen g2 hi (fun M a w hlt g3=>⟨len - (i+1),ag,rfl,i+1,rfl,ag,g3⟩) fun M a w g3=>?_
 show aM _ _ _ _ _ _ _ _ _ _
 refine ak (gF gu gG (gY ah) g3 (Ψ:=fun a v=>∃ xb b ab yb c bb ub cs ds es,I9 n m xb b ab yb c bb ub cs ds es a v∧v.heap[ub]?=some (.cells es 3 (0,0))∧gq es∧es.size=n) (fun a v τ q=>?_) fun M a w g4=>?_)
 ·obtain ⟨xb,b,ab,yb,c,bb,cs,ds,h,_⟩:=q
  refine Wd h.s h.d h.x0 h.x7 h.x9 h.cO h.cZ hn (h.t.tp τ).x.c h.t.ix fun a' v' s d e0 e7 e9 e11 e12 e16 hT hu=>⟨rfl,xb,b,ab,yb,c,bb,v.heap.size,cs,ds,cs,⟨s,d,e0,e7,e9,e11,e12,e16,(h.t.tp τ).still hT ah,fun p hp=>Nat.ne_of_lt (h.t.lt p hp)⟩,hu,h.t.ix,h.t.x.c.size⟩
 refine ak (gF gu gG WO g4 (Ψ:=fun a v=>∃ xb b ab yb c bb ub cs ds es,I9 n m xb b ab yb c bb ub cs ds es a v) (fun a v τ q=>?_) fun M a w g5=>?_)
 ·obtain ⟨xb,b,ab,yb,c,bb,ub,cs,ds,es,h,hu,hI,hz⟩:=q
  refine We h.s h.d h.x0 h.x7 h.x9 h.cO h.cZ h.pW hn (v:=tp τ v) hu hI hz fun a' v' s d e0 e7 e9 e11 e12 e16 hT=>⟨rfl,xb,b,ab,yb,c,bb,ub,cs,ds,es,⟨s,d,e0,e7,e9,e11,e12,e16,(h.t.tp τ).still hT (fun p hp q=>h.ap p hp (by simpa using q)),h.ap⟩⟩
 refine ak (gF gu gG (gY ah) g5 (Ψ:=fun a v=>a.tmps.size=143∧a.defers=[]∧a.eval (.tmp 6)=.bool true) (fun a v τ q=>?_) fun M a w g6=>eG (hk _ _ _ g6))
 obtain ⟨xb,b,ab,yb,c,bb,ub,cs,ds,es,h⟩:=q
 exact ra25 h.s h.d h.x0 h.x7 h.x9 h.cO h.cZ h.pW hn hm (h.t.tp τ) fun a' v' s d e6=>⟨rfl,s,d,e6⟩
end
section
variable {n m:Int}{len cap N:Nat}{oa:Option Addr}{F M:Nat→Prop}{X:List (Nat×Obj)}{a:Act}{w:World}{S:ai}{Q:aZ}
def eNew (n:Int):Value:=.int .i64 (if 1≤n∧n≤256 then 0 else 42)
theorem uj {n:Int}(h:1≤n∧n≤256):eNew n=.int .i64 0:=by unfold eNew;rw [if_pos h]
theorem nD {n:Int}(h:¬ (1≤n∧n≤256)):eNew n=.int .i64 42:=by unfold eNew;rw [if_neg h]
theorem Xa (hbad:¬ ((1≤n∧n≤256)∧(1≤m∧m≤256)))(h:St Try.prog GV N F X (fun a _=>B0 n m oa len cap a) M a w){rest:Code}(hk:∀ M a w,St Try.prog GV N F X (fun a v=>a.tmps.size=143∧a.defers=[]∧a.eval (.tmp 6)=.bool true) M a w→Q .ret S M a w) :
  aM Try.prog true 3 .normal (.seq (.region 5 (aL 5 Try.f3.body) false) (.seq (.region 6 (aL 6 Try.f3.body) false) (.seq (.seq (.region 7 (aL 7 Try.f3.body) false) (.cond (.tmp 74) (.seq (.region 8 (aL 8 Try.f3.body) false) .ret) .skip)) (.seq (.seq (.region 9 (aL 9 Try.f3.body) false) (.cond (.tmp 82) (.seq (.region 10 (aL 10 Try.f3.body) false) .ret) .skip)) rest)))) Q S M a w:=by
 refine ak (gF gu gG (gY ah) h (Ψ:=fun a _=>B0 n m oa len cap a∧a.eval (.tmp 8)=eNew n) (fun a v τ q=>?_) fun M a w g1=>?_)
 ·by_cases hg:1≤n∧n≤256
  ·obtain ⟨k,rfl⟩:∃ k:Nat,n=k:=⟨n.toNat,ag⟩
   exact IV q.s q.d q.x0 q.x1 q.x2 ag ag fun a' s d e0 e1 e2 e7 e8=>⟨rfl,⟨s,d,e0,e1,e2⟩,by rw [e8,uj hg]⟩
  ·exact VH q.s q.d q.x0 q.x1 q.x2 ag fun a' s d e0 e1 e2 e7 e8=>⟨rfl,⟨s,d,e0,e1,e2⟩,by rw [e8,nD hg]⟩
 refine ak (gF gu gG (gY ah) g1 (Ψ:=fun a _=>B0 n m oa len cap a∧a.eval (.tmp 8)=eNew n∧a.eval (.tmp 10)=eNew m) (fun a v τ q=>?_) fun M a w g2=>?_)
 ·obtain ⟨q,q8⟩:=q
  by_cases hg:1≤m∧m≤256
  ·obtain ⟨k,rfl⟩:∃ k:Nat,m=k:=⟨m.toNat,ag⟩
   exact IW q.s q.d q.x0 q.x1 q.x2 rfl q8 ag ag fun a' s d e0 e1 e2 e7 e8 e9 e10=>⟨rfl,⟨s,d,e0,e1,e2⟩,e8,by rw [e10,uj hg]⟩
  ·exact VJ q.s q.d q.x0 q.x1 q.x2 rfl q8 ag fun a' s d e0 e1 e2 e7 e8 e9 e10=>⟨rfl,⟨s,d,e0,e1,e2⟩,e8,by rw [e10,nD hg]⟩
 refine ak (ak (gF gu gG (gY ah) g2 (Ψ:=fun a _=>B0 n m oa len cap a∧a.eval (.tmp 8)=eNew n∧a.eval (.tmp 10)=eNew m∧a.eval (.tmp 74)=.bool false) (fun a v τ q=>?_) fun M a w g3=>?_))
 ·obtain ⟨q,q8,fq⟩:=q
  by_cases hg:1≤n∧n≤256 <;> by_cases hh:1≤m∧m≤256
  ·exact absurd ⟨hg,hh⟩ hbad
  ·rw [uj hg] at q8 ⊢
   rw [nD hh] at fq ⊢
   by_cases l2:m < 1
   ·exact VM q.s q.d q.x0 q.x1 q.x2 rfl rfl q8 fq ag ag l2 fun a' s d e0 e1 e2 e7 e9 e8 e10 iD=>⟨rfl,⟨s,d,e0,e1,e2⟩,e8,e10,iD⟩
   ·exact VN q.s q.d q.x0 q.x1 q.x2 rfl rfl q8 fq ag ag ag ag fun a' s d e0 e1 e2 e7 e9 e8 e10 iD=>⟨rfl,⟨s,d,e0,e1,e2⟩,e8,e10,iD⟩
  ·rw [nD hg] at q8 ⊢
   rw [uj hh] at fq ⊢
   by_cases l1:n < 1
   ·exact VO q.s q.d q.x0 q.x1 q.x2 rfl rfl q8 fq l1 ag ag fun a' s d e0 e1 e2 e7 e9 e8 e10 iD=>⟨rfl,⟨s,d,e0,e1,e2⟩,e8,e10,iD⟩
   ·exact VP q.s q.d q.x0 q.x1 q.x2 rfl rfl q8 fq ag ag ag ag fun a' s d e0 e1 e2 e7 e9 e8 e10 iD=>⟨rfl,⟨s,d,e0,e1,e2⟩,e8,e10,iD⟩
  ·rw [nD hg] at q8 ⊢
   rw [nD hh] at fq ⊢
   by_cases l1:n < 1 <;> by_cases l2:m < 1
   ·exact VQ q.s q.d q.x0 q.x1 q.x2 rfl rfl q8 fq l1 l2 fun a' s d e0 e1 e2 e7 e9 e8 e10 iD=>⟨rfl,⟨s,d,e0,e1,e2⟩,e8,e10,iD⟩
   ·exact VS q.s q.d q.x0 q.x1 q.x2 rfl rfl q8 fq l1 ag ag fun a' s d e0 e1 e2 e7 e9 e8 e10 iD=>⟨rfl,⟨s,d,e0,e1,e2⟩,e8,e10,iD⟩
   ·exact VT q.s q.d q.x0 q.x1 q.x2 rfl rfl q8 fq ag ag l2 fun a' s d e0 e1 e2 e7 e9 e8 e10 iD=>⟨rfl,⟨s,d,e0,e1,e2⟩,e8,e10,iD⟩
   ·exact VU q.s q.d q.x0 q.x1 q.x2 rfl rfl q8 fq ag ag ag ag fun a' s d e0 e1 e2 e7 e9 e8 e10 iD=>⟨rfl,⟨s,d,e0,e1,e2⟩,e8,e10,iD⟩
 refine lH (t:=false) (g3.eval (k:=74) (fG.bool _) fun a v q=>q.2.2.2) ?_
 refine bS (ak (ak (gF gu gG (gY ah) g3 (Ψ:=fun a _=>B0 n m oa len cap a∧a.eval (.tmp 82)=.bool true) (fun a v τ q=>?_) fun M a w g4=>?_)))
 ·obtain ⟨q,q8,fq,_⟩:=q
  by_cases hg:1≤n∧n≤256 <;> by_cases hh:1≤m∧m≤256
  ·exact absurd ⟨hg,hh⟩ hbad
  ·rw [uj hg] at q8
   rw [nD hh] at fq
   exact VW q.s q.d q.x0 q.x1 q.x2 rfl rfl q8 fq fun a' s d e0 e1 e2 e7 e9 qR=>⟨rfl,⟨s,d,e0,e1,e2⟩,qR⟩
  ·rw [nD hg] at q8
   rw [uj hh] at fq
   exact VX q.s q.d q.x0 q.x1 q.x2 rfl rfl q8 fq fun a' s d e0 e1 e2 e7 e9 qR=>⟨rfl,⟨s,d,e0,e1,e2⟩,qR⟩
  ·rw [nD hg] at q8
   rw [nD hh] at fq
   exact VY q.s q.d q.x0 q.x1 q.x2 rfl rfl q8 fq fun a' s d e0 e1 e2 e7 e9 qR=>⟨rfl,⟨s,d,e0,e1,e2⟩,qR⟩
 refine lH (t:=true) (g4.eval (k:=82) (fG.bool _) fun a v q=>q.2) ?_
 rw [if_pos rfl]
 refine ak (gF gu gG (gY ah) g4 (Ψ:=fun a v=>a.tmps.size=143∧a.defers=[]∧a.eval (.tmp 6)=.bool true) (fun a v τ q=>?_) fun M a w g5=>eG (hk _ _ _ g5))
 exact V8 q.1.s q.1.d q.1.x0 q.1.x1 q.1.x2 fun a' s d e0 e1 e2 e6=>⟨rfl,s,d,e6⟩
end
end Go.Proofs.Ytanploaffndpjaa

/- Differences of two trees: spans that stand beside or within one another; takers of changes. -/
import Derived.Test.YtloljphbdfjgdaaGreatDoorK43
import Derived.Test.YtloljphbdfjgdaaGreatDoorK44
import Derived.Test.YtloljphbdfjgdaaGreatDoorK29
namespace Go.Proofs.YtloljphbdfjgdaaGreatDoor
open Go.RowKit
/-! ### Trees by their handles, spans -/
theorem Rep.det {s:PSt}:∀ {t u:Tr},Rep s t→Rep s u→t.WF→u.WF→t.hd=u.hd→t=u
 | .leaf h k v,.leaf h' k' v',r1,r2,_,_,e=>by
  have e':h=h':=e
  subst e'
  have:=Ct.one r1 r2
  simp only [Tr.nd,Nd.mk.injEq] at this
  obtain ⟨-,rfl,rfl,-⟩:=this
  rfl
 | .leaf h k v,.node h' p b l r,r1,r2,_,w2,e=>by
  have e':h=h':=e
  subst e'
  have:=Ct.one r1 r2.1
  simp only [Tr.nd,Nd.mk.injEq] at this
  obtain ⟨-,w3,-⟩:=w2
  omega
 | .node h p b l r,.leaf h' k' v',r1,r2,w1,_,e=>by
  have e':h=h':=e
  subst e'
  have:=Ct.one r1.1 r2
  simp only [Tr.nd,Nd.mk.injEq] at this
  obtain ⟨-,w3,-⟩:=w1
  omega
 | .node h p b l r,.node h' p' b' l' r',r1,r2,w1,w2,e=>by
  have e':h=h':=e
  subst e'
  have:=Ct.one r1.1 r2.1
  simp only [Tr.nd,Nd.mk.injEq] at this
  obtain ⟨e1,e2,e3,-⟩:=this
  obtain ⟨a1,a2,a3,a4,a5,a6,a7,a8,a9,a10⟩:=w1
  obtain ⟨c1,c2,c3,c4,c5,c6,c7,c8,c9,c10⟩:=w2
  have ep:p=p':=by omega
  have eb:b=b':=by omega
  subst ep eb
  rw [Rep.det r1.2.1 r2.2.1 a9 c9 e2,Rep.det r1.2.2 r2.2.2 a10 c10 e3]
theorem mul_div_of {a m:Int} (h:a % m=0):m * (a / m)=a:=Int.mul_ediv_cancel' (Int.dvd_of_emod_eq_zero h)
theorem dyadic {b c:Int} {p q:Nat} (hb:b % (2 * 2 ^ p)=0) (hc:c % (2 * 2 ^ q)=0) (hq:q < p):(c < b+2 ^ p→c+2 * 2 ^ q≤b+2 ^ p)∧(c < b+2 * 2 ^ p→c+2 * 2 ^ q≤b+2 * 2 ^ p)∧(b < c+2 * 2 ^ q→b≤c)∧(b+2 ^ p < c+2 * 2 ^ q→b+2 ^ p≤c):=by
 obtain ⟨d,rfl⟩:∃ d,p=q+1+d:=⟨p - (q+1),by omega⟩
 have e:(2:Int) ^ (q+1+d)=(2 * 2 ^ q) * 2 ^ d:=by rw [Int.pow_add,Int.pow_succ]; rw [Int.mul_comm (2 ^ q) 2]
 have hm:=Tr.pow_pos' q
 have hd:=Tr.pow_pos' d
 rw [e] at hb ⊢
 generalize hM:(2:Int) * 2 ^ q=m at *
 generalize (2:Int) ^ d=M at *
 have mp:0 < m:=by omega
 obtain ⟨t,ht⟩:∃ t,b=(2 * (m * M)) * t:=⟨b / (2 * (m * M)),(mul_div_of hb).symm⟩
 obtain ⟨u,hu⟩:∃ u,c=m * u:=⟨c / m,(mul_div_of hc).symm⟩
 have e1:b=m * (2 * M * t):=by rw [ht]; rw [show 2 * (m * M)=m * (2 * M) by rw [Int.mul_left_comm]]; rw [Int.mul_assoc]
 have le:∀ x y:Int,m * x < m * y→m * x+m≤m * y:=fun x y h=>by
  have h1:x < y:=Int.lt_of_mul_lt_mul_left h (by omega)
  have h2:m * (x+1)≤m * y:=Int.mul_le_mul_of_nonneg_left (by omega) (by omega)
  rw [Int.mul_add,Int.mul_one] at h2
  exact h2
 have s1:b+m * M=m * (2 * M * t+M):=by rw [e1,Int.mul_add]
 have s2:b+2 * (m * M)=m * (2 * M * t+2 * M):=by rw [e1,Int.mul_add,show 2 * (m * M)=m * (2 * M) by rw [Int.mul_left_comm]]
 have s3:c+m=m * (u+1):=by rw [hu,Int.mul_add,Int.mul_one]
 refine ⟨fun h=>?_,fun h=>?_,fun h=>?_,fun h=>?_⟩
 ·rw [s1] at h ⊢; rw [hu] at h ⊢; exact le _ _ h
 ·rw [s2] at h ⊢; rw [hu] at h ⊢; exact le _ _ h
 ·rw [s3,e1] at h; have:=le _ _ h; rw [e1]; omega
 ·rw [s3,s1] at h; have:=le _ _ h; rw [s1]; omega
inductive Stand:Tr→Tr→Prop
 | leaves (h h' k v v':Int):Stand (.leaf h k v) (.leaf h' k v')
 | nodes (h h':Int) (p:Nat) (b:Int) (l r l' r':Tr):Stand (.node h p b l r) (.node h' p b l' r')
 | left {t u:Tr}:t.hi < u.lo→Stand t u
 | right {t u:Tr}:u.hi < t.lo→Stand t u
 | holdsL (h:Int) (p:Nat) (b:Int) (l r:Tr) {u:Tr}:b≤u.lo→u.hi < b+2 ^ p→Stand (.node h p b l r) u
 | holdsR (h:Int) (p:Nat) (b:Int) (l r:Tr) {u:Tr}:b+2 ^ p≤u.lo→u.hi < b+2 * 2 ^ p→Stand (.node h p b l r) u
 | withinL (h:Int) (p:Nat) (b:Int) (l r:Tr) {t:Tr}:b≤t.lo→t.hi < b+2 ^ p→Stand t (.node h p b l r)
 | withinR (h:Int) (p:Nat) (b:Int) (l r:Tr) {t:Tr}:b+2 ^ p≤t.lo→t.hi < b+2 * 2 ^ p→Stand t (.node h p b l r)
theorem stand_node {p:Nat} {b:Int} {u:Tr} (hb:b % (2 * 2 ^ p)=0) (hu:u.WF) (hd:u.deep≤p) (h1:¬ b+2 * 2 ^ p - 1 < u.lo) (h2:¬ u.hi < b):(b≤u.lo∧u.hi < b+2 ^ p)∨(b+2 ^ p≤u.lo∧u.hi < b+2 * 2 ^ p):=by
 cases u with
 | leaf h' k v=>simp only [Tr.lo,Tr.hi] at *; omega
 | node h' q c l' r' =>
  obtain ⟨-,-,-,c4,-⟩:=hu
  simp only [Tr.lo,Tr.hi,Tr.deep] at *
  obtain ⟨d1,d2,d3,d4⟩:=dyadic hb c4 (by omega)
  have:=Tr.pow_pos' q
  have:=Tr.pow_pos' p
  rcases (by omega:c < b+2 ^ p∨b+2 ^ p≤c) with h | h
  ·have:=d1 h; have:=d3 (by omega); omega
  ·have:=d2 (by omega); omega
theorem Stand.of {t u:Tr} (ht:t.WF) (hu:u.WF):Stand t u:=by
 by_cases h1:t.hi < u.lo
 ·exact .left h1
 by_cases h2:u.hi < t.lo
 ·exact .right h2
 cases t with
 | leaf h k v =>
  cases u with
  | leaf h' k' v' =>
   simp only [Tr.lo,Tr.hi] at h1 h2
   obtain rfl:k=k':=by omega
   exact .leaves _ _ _ _ _
  | node h' q c l' r' =>
   obtain ⟨-,-,-,c4,-⟩:=id hu
   rcases stand_node c4 ht (by simp [Tr.deep]) (by simpa [Tr.hi] using h2) (by simpa [Tr.lo] using h1) with ⟨a,b⟩ | ⟨a,b⟩
   ·exact .withinL _ _ _ _ _ a b
   ·exact .withinR _ _ _ _ _ a b
 | node h p b l r =>
  obtain ⟨-,-,-,b4,-⟩:=id ht
  by_cases hd:u.deep≤p
  ·rcases stand_node b4 hu hd (by simpa [Tr.hi] using h1) (by simpa [Tr.lo] using h2) with ⟨a,b⟩ | ⟨a,b⟩
   ·exact .holdsL _ _ _ _ _ a b
   ·exact .holdsR _ _ _ _ _ a b
  ·cases u with
   | leaf h' k' v'=>simp [Tr.deep] at hd
   | node h' q c l' r' =>
    obtain ⟨-,-,-,c4,-⟩:=id hu
    simp only [Tr.deep] at hd
    rcases (by omega:p=q∨p < q) with rfl | hlt
    ·simp only [Tr.lo,Tr.hi] at h1 h2
     have hp:=Tr.pow_pos' p
     have e:b=c:=by
      generalize hM:(2:Int) * 2 ^ p=m at *
      have mp:0 < m:=by omega
      have e1:=mul_div_of b4
      have e2:=mul_div_of c4
      have h3:m * (b / m) < m * (c / m+1):=by rw [Int.mul_add,Int.mul_one]; omega
      have h4:m * (c / m) < m * (b / m+1):=by rw [Int.mul_add,Int.mul_one]; omega
      have h5:=Int.lt_of_mul_lt_mul_left h3 (by omega)
      have h6:=Int.lt_of_mul_lt_mul_left h4 (by omega)
      rw [← e1,← e2,show b / m=c / m by omega]
     subst e
     exact .nodes _ _ _ _ _ _ _ _
    ·rcases stand_node c4 ht (by simp [Tr.deep]; omega) (by simpa [Tr.hi] using h2) (by simpa [Tr.lo] using h1) with ⟨a,b⟩ | ⟨a,b⟩
     ·exact .withinL _ _ _ _ _ a b
     ·exact .withinR _ _ _ _ _ a b
/-! ### Lists of changes -/
abbrev oldL (x:List (Int × Int)):List Chn:=x.map fun q=>⟨q.1,some q.2,none⟩
abbrev newL (x:List (Int × Int)):List Chn:=x.map fun q=>⟨q.1,none,some q.2⟩
def ofL (of_:Int) (x:List (Int × Int)):List Chn:=if of_=0 then oldL x else newL x
theorem diff_left {x y:List (Int × Int)} (h:∀ a∈x,∀ b∈y,a.1 < b.1):diffL x y=oldL x ++ newL y:=by
 have:=diffL_app (x2:=[]) (y2:=y) x [] (fun a ha b hb=>by simp at ha hb; exact h a ha b hb)
 rw [List.append_nil,List.nil_append] at this
 rw [this,diffL_old,diffL_new]
theorem diff_right {x y:List (Int × Int)} (h:∀ b∈y,∀ a∈x,b.1 < a.1):diffL x y=newL y ++ oldL x:=by
 have:=diffL_app (x2:=x) (y2:=[]) [] y (fun a ha b hb=>by simp at ha hb; exact h a ha b hb)
 rw [List.append_nil,List.nil_append] at this
 rw [this,diffL_old,diffL_new]
def Seg (L:List Chn) (j:Nat) (D:List Chn):Prop:=∃ post,L.drop j=D ++ post
theorem Seg.split {L D E:List Chn} {j:Nat} (h:Seg L j (D ++ E)):Seg L j D∧Seg L (j+D.length) E:=by
 obtain ⟨post,h⟩:=h
 refine ⟨⟨E ++ post,by rw [h,List.append_assoc]⟩,post,?_⟩
 rw [← List.drop_drop,h,List.append_assoc,List.drop_left]
theorem Seg.get {L D:List Chn} {j:Nat} (h:Seg L j D) {i:Nat} (hi:i < D.length):∃ hlt:j+i < L.length,L[j+i]=D[i]:=by
 obtain ⟨post,h⟩:=h
 have hl:=congrArg List.length h
 rw [List.length_drop,List.length_append] at hl
 refine ⟨by omega,?_⟩
 have:=congrArg (fun l=>l[i]?) h
 simp only [List.getElem?_drop,List.getElem?_append_left hi] at this
 rw [List.getElem?_eq_getElem (by omega),List.getElem?_eq_getElem hi] at this
 exact Option.some.inj this
def chnV (c:Chn):Value:=.agg #[.int .i64 c.k,.int .i64 (c.o.getD 0),.int .i64 (c.n.getD 0),.bool c.o.isSome,.bool c.n.isSome]
structure TakerC (P:Program) (L:List Chn) (J:Nat→List Nat→World→Prop) (fy:FuncId) (cy:Array Value):Prop where
 ent:Enterable P fy
 keep:∀ {j G w2 l w3},J j G w2→Turned l w2 w3→(∀ x,x∈l→x∉G)→J j G w3
 lt:∀ {j G w2},J j G w2→∀ x,x∈G→x < w2.heap.size
 takes:∀ j (h:j < L.length) G w2,J j G w2→Calls P fy (#[chnV L[j],.int .i64 0] ++ cy) w2 fun e w3=>e=.returned (.bool true)∧Turned G w2 w3∧∃ G',J (j+1) G' w3∧Wider G G' w2
def DR (J:Nat→List Nat→World→Prop) (W:World) (G:List Nat) (k:Nat) (e:Ending) (w2:World):Prop:=e=.returned (.bool true)∧Turned G W w2∧∃ G',J k G' w2∧Wider G G' W
structure DP (tb p:Nat) (F:List Nat) (s:PSt) (J:Nat→List Nat→World→Prop) (j:Nat) (G:List Nat) (W:World):Prop where
 tr:TrieB W tb p
 po:PoolAt W p F s
 jj:J j G W
 off:∀ x,x∈G→x∉F∧x≠tb∧x≠0
section
variable {P:Program} {L:List Chn} {fy:FuncId} {cy:Array Value} {tb p:Nat} {F:List Nat} {s:PSt} {J:Nat→List Nat→World→Prop} {j k:Nat} {G G':List Nat} {W W1 x x':World}
theorem DP.still (hT:TakerC P L J fy cy) (h:DP tb p F s J j G W) (ht:Turned [] W W1):DP tb p F s J j G W1:=⟨h.tr.still ht,h.po.still ht,hT.keep h.jj ht (by simp),h.off⟩
theorem DP.next (h:DP tb p F s J j G W) (ht:Turned G W x) (hj:J k G' x) (hw:Wider G G' W):DP tb p F s J k G' x:=by
 have hp:=h.tr.pos
 have l1:=lt_of_heap h.tr.blk
 have l2:=poolLaws.lt h.po
 refine ⟨h.tr.keep ht (fun hm=>(h.off _ hm).2.1 rfl) (fun hm=>(h.off _ hm).2.2 rfl),poolLaws.keep h.po ht (fun z hz=>(h.off z hz).1),hj,fun z hz=>?_⟩
 rcases hw z hz with hz | hz
 ·exact h.off z hz
 ·exact ⟨fun hm=>by have:=l2 z hm; omega,by omega,by omega⟩
structure DW (tb p:Nat) (F:List Nat) (s:PSt) (J:Nat→List Nat→World→Prop) (G:List Nat) (W1:World) (k:Nat) (x:World):Prop where
 ex:∃ G',Turned G W1 x∧Wider G G' W1∧DP tb p F s J k G' x
theorem DW.start (h:DP tb p F s J j G W):DW tb p F s J G W j W:=⟨G,Turned.refl _ _,fun _ hz=>.inl hz,h⟩
theorem DW.still (hT:TakerC P L J fy cy) (h:DW tb p F s J G W1 k x) (ht:Turned [] x x'):DW tb p F s J G W1 k x':=by
 obtain ⟨G',h1,h2,h3⟩:=h.ex
 exact ⟨G',h1.trans (ht.mono (by simp)),h2,h3.still hT ht⟩
theorem DW.heap (h:DW tb p F s J G W1 k x) {b:Nat} {o:Obj} (hb:W1.heap[b]?=some o) (hg:b∉G):x.heap[b]?=some o:=by
 obtain ⟨G',h1,h2,h3⟩:=h.ex
 exact h1.heap hb hg
theorem DW.call (h:DW tb p F s J G W1 j x) {f:FuncId} {args:Array Value} (hc:∀ G',DP tb p F s J j G' x→Calls P f args x (DR J x G' k)):Calls P f args x fun e w'=>e=.returned (.bool true)∧DW tb p F s J G W1 k w':=by
 obtain ⟨G',h1,h2,h3⟩:=h.ex
 refine (hc G' h3).mono ?_
 rintro e w' ⟨rfl,ht,G2,hj,hw⟩
 have hs:=h1.size
 exact ⟨rfl,G2,h1.inner ht (fun z hz=>h2 z hz),fun z hz=>by
  rcases hw z hz with hz | hz
  ·exact h2 z hz
  ·exact .inr (by omega),h3.next ht hj hw⟩
theorem DW.call2 (h:DW tb p F s J G W1 j x) {f:FuncId} {args:Array Value} (hc:∀ G',Turned G W1 x→Wider G G' W1→DP tb p F s J j G' x→Calls P f args x (DR J x G' k)):Calls P f args x fun e w'=>e=.returned (.bool true)∧DW tb p F s J G W1 k w':=by
 obtain ⟨G',h1,h2,h3⟩:=h.ex
 refine (hc G' h1 h2 h3).mono ?_
 rintro e w' ⟨rfl,ht,G2,hj,hw⟩
 have hs:=h1.size
 exact ⟨rfl,G2,h1.inner ht (fun z hz=>h2 z hz),fun z hz=>by
  rcases hw z hz with hz | hz
  ·exact h2 z hz
  ·exact .inr (by omega),h3.next ht hj hw⟩
theorem DW.done (h:DW tb p F s J G W1 k x) (h0:Turned [] W W1):DR J W G k (.returned (.bool true)) x:=by
 obtain ⟨G',h1,h2,h3⟩:=h.ex
 have hs:=h0.size
 exact ⟨rfl,(h0.mono (by simp)).trans h1,G',h3.jj,fun z hz=>by
  rcases h2 z hz with hz | hz
  ·exact .inl hz
  ·exact .inr (by omega)⟩
end
end Go.Proofs.YtloljphbdfjgdaaGreatDoor
/- Package trie's Diff: all keys of one side, given. (Written by tools/gen/gendifa.py.) -/
namespace Go.Proofs.YtloljphbdfjgdaaGreatDoor
open Go.RowKit Go.Shelf
attribute [local go_sem] Oper.semAt_some
section
variable {x:World} {a:Act} {l db ob rb lf tb:Nat} {kk vv:Int} {fy:FuncId} {cy:Array Value} {E:Exit→Act→World→Prop}
set_option maxRecDepth 100000 in
set_option maxHeartbeats 800000 in
theorem all_Y0 (hs:a.tmps.size=41) (hd:a.defers=[]) (x3:a.eval (.tmp 3)=.pointer (some ⟨db,0,none⟩)) (x5:a.eval (.tmp 5)=.pointer (some ⟨ob,0,none⟩)) (x6:a.eval (.tmp 6)=.pointer (some ⟨rb,0,none⟩)) (x7:a.eval (.tmp 7)=.pointer (some ⟨lf,0,none⟩)) (x8:a.eval (.tmp 8)=.int .i64 0) (hdb:x.heap[db]?=some (dfO tb fy cy)) (hob:x.heap[ob]?=some (.cells #[.int .i64 0] 3 (0,0))) (hlf:x.heap[lf]?=some (.cells #[.int .i64 kk,.int .i64 vv] 128 (0,0))) (hEnt:Enterable Tryz.prog fy)
  {Rz:World→World→Prop} (hC:∀ y,Turned [] x y→Calls Tryz.prog fy (#[.agg #[.int .i64 kk,.int .i64 vv,.int .i64 0,.bool true,.bool false],.int .i64 0] ++ cy) y fun e z=>e=.returned (.bool true)∧Rz y z)
  (hE:∀ a' y z,Turned [] x y→Rz y z→E .normal a' z):((match atc Tryz.f67.body [1,0,1,0] with | .rangeFunc _ _ _ c=>c | _=>.skip)).wpIn (Fence.wide.inRound l) 0 Tryz.prog E a x:=by
 obtain ⟨cc,hcc,hce⟩:=expand41 hs hd
 have g3:=(hce 3).trans x3
 have g5:=(hce 5).trans x5
 have g6:=(hce 6).trans x6
 have g7:=(hce 7).trans x7
 have g8:=(hce 8).trans x8
 clear hce hs hd x3 x5 x6 x7 x8
 subst hcc
 conv=>arg 4; whnf
 simp only [lit41,g3,g5,g6,g7,g8]
 clear g3 g5 g6 g7 g8
 have HE:Hid _:=hE
 have HC:Hid (∀ y,Turned [] x y→Calls Tryz.prog fy (#[.agg #[.int .i64 kk,.int .i64 vv,.int .i64 0,.bool true,.bool false],.int .i64 0] ++ cy) y fun e z=>e=.returned (.bool true)∧Rz y z):=hC
 have HB:Hid (x.heap[db]?=some (dfO tb fy cy)):=hdb
 have HN:Hid (Enterable Tryz.prog fy):=hEnt
 obtain ⟨⟨c0,c1⟩,-⟩:=cells2 hlf
 obtain ⟨o0,-⟩:=cells1 hob
 have lo:=lt_of_heap hob
 have ldb:=lt_of_heap hdb
 have d2:x.cell? ⟨db,2,none⟩=some (.func (.func fy) #[] cy):=cell_at hdb 2
 have ll:=lt_of_heap hlf
 clear hE hC hdb hob hlf hEnt
 refine wpIn_block ?_
 refine wpIn_seq_k fun K hK=>?_
 have HKK:Hid _:=hK
 clear hK
 gi_wp2
 refine HKK.out _ _ ?_
 clear HKK K
 refine wpIn_seq_k fun K hK=>?_
 have HKK:Hid _:=hK
 clear hK
 gi_wp2
 refine HKK.out _ _ ?_
 clear HKK K
 refine wpIn_seq_k fun K hK=>?_
 have HKK:Hid _:=hK
 clear hK
 gi_wp2
 refine HKK.out _ _ ?_
 clear HKK K
 have HX:Hid (Turned [] x (x.alloc (.cells #[.int .i64 kk,.int .i64 vv,.int .i64 0,.bool true,.bool false] 51 (0,0)))):=(Turned.refl [] x).alloc _
 refine wpIn_seq ?_
 refine region_list_in (by kernel_rfl) ?_
 obtain ⟨fn1,cq,f1,f2,f3⟩:=HN.out
 have hcf:∀ (args:Array Value) (w:World),(callFunc fy args).run Tryz.prog w=.ok (.enter fy args) w:=fun args w=>Go.MuLone.run_callFunc_enter f1 f2 f3 args w
 have HCF:Hid _:=hcf
 clear f1 f2 f3 hcf
 go_wp2
 rw [HCF.out,Oper.upon_enter]
 refine (HC.out _ HX.out).mono ?_
 rintro e z ⟨rfl,hz⟩
 have HZ:Hid _:=hz
 clear hz HCF
 go_wp2
 gi_wp2
 exact HE.out _ _ _ HX.out HZ.out
set_option maxRecDepth 100000 in
set_option maxHeartbeats 800000 in
theorem all_Y1 (hs:a.tmps.size=41) (hd:a.defers=[]) (x3:a.eval (.tmp 3)=.pointer (some ⟨db,0,none⟩)) (x5:a.eval (.tmp 5)=.pointer (some ⟨ob,0,none⟩)) (x6:a.eval (.tmp 6)=.pointer (some ⟨rb,0,none⟩)) (x7:a.eval (.tmp 7)=.pointer (some ⟨lf,0,none⟩)) (x8:a.eval (.tmp 8)=.int .i64 0) (hdb:x.heap[db]?=some (dfO tb fy cy)) (hob:x.heap[ob]?=some (.cells #[.int .i64 1] 3 (0,0))) (hlf:x.heap[lf]?=some (.cells #[.int .i64 kk,.int .i64 vv] 128 (0,0))) (hEnt:Enterable Tryz.prog fy)
  {Rz:World→World→Prop} (hC:∀ y,Turned [] x y→Calls Tryz.prog fy (#[.agg #[.int .i64 kk,.int .i64 0,.int .i64 vv,.bool false,.bool true],.int .i64 0] ++ cy) y fun e z=>e=.returned (.bool true)∧Rz y z)
  (hE:∀ a' y z,Turned [] x y→Rz y z→E .normal a' z):((match atc Tryz.f67.body [1,0,1,0] with | .rangeFunc _ _ _ c=>c | _=>.skip)).wpIn (Fence.wide.inRound l) 0 Tryz.prog E a x:=by
 obtain ⟨cc,hcc,hce⟩:=expand41 hs hd
 have g3:=(hce 3).trans x3
 have g5:=(hce 5).trans x5
 have g6:=(hce 6).trans x6
 have g7:=(hce 7).trans x7
 have g8:=(hce 8).trans x8
 clear hce hs hd x3 x5 x6 x7 x8
 subst hcc
 conv=>arg 4; whnf
 simp only [lit41,g3,g5,g6,g7,g8]
 clear g3 g5 g6 g7 g8
 have HE:Hid _:=hE
 have HC:Hid (∀ y,Turned [] x y→Calls Tryz.prog fy (#[.agg #[.int .i64 kk,.int .i64 0,.int .i64 vv,.bool false,.bool true],.int .i64 0] ++ cy) y fun e z=>e=.returned (.bool true)∧Rz y z):=hC
 have HB:Hid (x.heap[db]?=some (dfO tb fy cy)):=hdb
 have HN:Hid (Enterable Tryz.prog fy):=hEnt
 obtain ⟨⟨c0,c1⟩,-⟩:=cells2 hlf
 obtain ⟨o0,-⟩:=cells1 hob
 have lo:=lt_of_heap hob
 have ldb:=lt_of_heap hdb
 have d2:x.cell? ⟨db,2,none⟩=some (.func (.func fy) #[] cy):=cell_at hdb 2
 have ll:=lt_of_heap hlf
 clear hE hC hdb hob hlf hEnt
 refine wpIn_block ?_
 refine wpIn_seq_k fun K hK=>?_
 have HKK:Hid _:=hK
 clear hK
 gi_wp2
 refine HKK.out _ _ ?_
 clear HKK K
 refine wpIn_seq_k fun K hK=>?_
 have HKK:Hid _:=hK
 clear hK
 gi_wp2
 refine HKK.out _ _ ?_
 clear HKK K
 refine wpIn_seq_k fun K hK=>?_
 have HKK:Hid _:=hK
 clear hK
 gi_wp2
 refine HKK.out _ _ ?_
 clear HKK K
 have HX:Hid (Turned [] x (x.alloc (.cells #[.int .i64 kk,.int .i64 0,.int .i64 vv,.bool false,.bool true] 51 (0,0)))):=(Turned.refl [] x).alloc _
 refine wpIn_seq ?_
 refine region_list_in (by kernel_rfl) ?_
 obtain ⟨fn1,cq,f1,f2,f3⟩:=HN.out
 have hcf:∀ (args:Array Value) (w:World),(callFunc fy args).run Tryz.prog w=.ok (.enter fy args) w:=fun args w=>Go.MuLone.run_callFunc_enter f1 f2 f3 args w
 have HCF:Hid _:=hcf
 clear f1 f2 f3 hcf
 go_wp2
 rw [HCF.out,Oper.upon_enter]
 refine (HC.out _ HX.out).mono ?_
 rintro e z ⟨rfl,hz⟩
 have HZ:Hid _:=hz
 clear hz HCF
 go_wp2
 gi_wp2
 exact HE.out _ _ _ HX.out HZ.out
end
end Go.Proofs.YtloljphbdfjgdaaGreatDoor
/- Package trie's Diff: all, whole. (Written by tools/gen/gendifa.py.) -/
namespace Go.Proofs.YtloljphbdfjgdaaGreatDoor
open Go.RowKit Go.Shelf
attribute [local go_sem] Oper.semAt_some
theorem mid_allT {t:Tr} (hw:t.WF):midL t.pairs 0 4294967295=t.pairs:=by
 refine List.filter_eq_self.2 fun x hx=>?_
 have h1:=hw.mem x hx
 have h2:=hw.span
 simp; omega
structure AJ (db ob rb tb:Nat) (of_:Int) (fy:FuncId) (cy:Array Value) (J:Nat→List Nat→World→Prop) (j0 j:Nat) (G:List Nat) (w:World):Prop where
 ex:∃ G0,G=db :: ob :: rb :: G0∧J (j0+j) G0 w∧db∉G0∧ob∉G0∧rb∉G0
 hdb:w.heap[db]?=some (dfO tb fy cy)
 hob:w.heap[ob]?=some (.cells #[.int .i64 of_] 3 (0,0))
 hrb:w.heap[rb]?=some (.cells #[.bool false] 4 (0,0))
section
variable {P:Program} {M:List Chn} {db ob rb tb:Nat} {of_:Int} {fy:FuncId} {cy:Array Value} {J:Nat→List Nat→World→Prop} {j0 j:Nat} {G L:List Nat} {w w':World}
theorem AJ.keep (hT:TakerC P M J fy cy) (h:AJ db ob rb tb of_ fy cy J j0 j G w) (ht:Turned L w w') (hL:∀ x,x∈L→x∉G):AJ db ob rb tb of_ fy cy J j0 j G w':=by
 obtain ⟨G0,rfl,h1,n1,n2,n3⟩:=h.ex
 exact ⟨⟨G0,rfl,hT.keep h1 ht (fun x hx hm=>hL x hx (by simp [hm])),n1,n2,n3⟩,ht.heap h.hdb (fun hm=>hL _ hm (by simp)),ht.heap h.hob (fun hm=>hL _ hm (by simp)),ht.heap h.hrb (fun hm=>hL _ hm (by simp))⟩
theorem AJ.lt (hT:TakerC P M J fy cy) (h:AJ db ob rb tb of_ fy cy J j0 j G w):∀ x,x∈G→x < w.heap.size:=by
 obtain ⟨G0,rfl,h1,n1⟩:=h.ex
 intro x hx
 rcases List.mem_cons.1 hx with rfl | hx
 ·exact lt_of_heap h.hdb
 rcases List.mem_cons.1 hx with rfl | hx
 ·exact lt_of_heap h.hob
 rcases List.mem_cons.1 hx with rfl | hx
 ·exact lt_of_heap h.hrb
 ·exact hT.lt h1 x hx
end
section
variable {x:World} {bt b0 b1 b3 tb p db ob rb j0:Nat} {of_:Int} {F:List Nat} {s:PSt} {y0:Spot} {a:Act} {Q:Exit→Act→World→Prop} {J:Nat→List Nat→World→Prop} {G:List Nat} {fy:FuncId} {cy:Array Value} {L:List Chn}
set_option maxRecDepth 100000 in
set_option maxHeartbeats 1600000 in
theorem all_loop (hof:of_=0∨of_=1) (hs:a.tmps.size=41) (hd:a.defers=[]) (x3:a.eval (.tmp 3)=.pointer (some ⟨db,0,none⟩)) (x5:a.eval (.tmp 5)=.pointer (some ⟨ob,0,none⟩)) (x6:a.eval (.tmp 6)=.pointer (some ⟨rb,0,none⟩)) (x16:a.eval (.tmp 16)=.func (.func 94) #[] #[.pointer (some ⟨b0,0,none⟩),.pointer (some ⟨b1,0,none⟩),.pointer (some ⟨bt,0,none⟩),.pointer (some ⟨b3,0,none⟩)])
  (hO:s.Ok) (hy:SpotOk s y0) (hT:TakerC Tryz.prog L J fy cy) (hS:Seg L j0 (ofL of_ y0.t.pairs)) (hP:PreV bt b0 b1 b3 tb p F s y0 0 4294967295 x) (hG:∀ z,z∈db :: ob :: rb :: G→z∉RV bt b0 b1 b3 tb F) (hJ:AJ db ob rb tb of_ fy cy J j0 0 (db :: ob :: rb :: G) x)
  (hK:∀ a' y D G',a'.tmps.size=41→a'.defers=[markD D]→a'.eval (.tmp 6)=.pointer (some ⟨rb,0,none⟩)→AJ db ob rb tb of_ fy cy J j0 y0.t.pairs.length G' y→Wider (db :: ob :: rb :: G) G' x→D∉G'→Turned (db :: ob :: rb :: G) x y→y.heap[D]?=some (.deferred (some []))→x.heap.size≤D→Q .normal a' y):(atc Tryz.f67.body [1,0,1,0]).wp Tryz.prog Q a x:=by
 have hmid:=mid_allT hy.wf
 obtain ⟨cc,hcc,hce⟩:=expand41 hs hd
 have g3:=(hce 3).trans x3
 have g5:=(hce 5).trans x5
 have g6:=(hce 6).trans x6
 have g16:=(hce 16).trans x16
 clear hce hs hd x3 x5 x6 x16
 subst hcc
 conv=>arg 2; whnf
 simp only [lit41,g3,g5,g6,g16]
 clear g3 g5 g6 g16
 have HK:Hid _:=hK
 have HP:Hid (PreV bt b0 b1 b3 tb p F s y0 0 4294967295 x):=hP
 have HG:Hid (∀ z,z∈db :: ob :: rb :: G→z∉RV bt b0 b1 b3 tb F):=hG
 have HJ:Hid (AJ db ob rb tb of_ fy cy J j0 0 (db :: ob :: rb :: G) x):=hJ
 have HT:Hid (TakerC Tryz.prog L J fy cy):=hT
 have HS:Hid (Seg L j0 (ofL of_ y0.t.pairs)):=hS
 have hI:IterT Tryz.prog 94 #[.pointer (some ⟨b0,0,none⟩),.pointer (some ⟨b1,0,none⟩),.pointer (some ⟨bt,0,none⟩),.pointer (some ⟨b3,0,none⟩)] y0.t.pairs.length (xsL y0.t.pairs) [] (RV bt b0 b1 b3 tb F) (PreV bt b0 b1 b3 tb p F s y0 0 4294967295):=by
  have h:=iterL (bt:=bt) (b0:=b0) (b1:=b1) (b3:=b3) (tb:=tb) (p:=p) (F:=F) (lo:=0) (hi:=4294967295) hO hy
  rw [hmid] at h
  exact h
 clear hK hP hG hJ hT hS hmid
 refine wp_rangeT (N:=y0.t.pairs.length) (xs:=xsL y0.t.pairs) (F:=[]) (R:=RV bt b0 b1 b3 tb F) (Pre:=PreV bt b0 b1 b3 tb p F s y0 0 4294967295) (G:=db :: ob :: rb :: G)
  (I:=AJ db ob rb tb of_ fy cy J j0) rfl (enters_of Tryz.func94 (by kernel_rfl) rfl) hI (fun j=>rfl) (fun h1 h2 h3=>h1.keep HT.out h2 h3) (fun h=>h.lt HT.out) ?keepP HJ.out HP.out (fun z hz=>⟨by simp,HG.out z hz⟩) (by simp) HP.out.lt ?round ?done
 case keepP =>
  intro w2 w3 L h ht hL
  exact h.keep ht (fun z hz hm=>by have:=hL z hz; have:=HP.out.lt z hm; omega)
 case round =>
  rintro j hj G1 W hU hlW hlG
  obtain ⟨kk,hkk⟩:∃ kk,kk=y0.t.pairs[j].1:=⟨_,rfl⟩
  obtain ⟨vv,hvv⟩:∃ vv,vv=y0.t.pairs[j].2:=⟨_,rfl⟩
  have hxs:xsL y0.t.pairs j=#[.agg #[.int .i64 kk,.int .i64 vv],.int .i64 0]:=by unfold xsL; rw [hkk,hvv,List.getD_eq_getElem?_getD,List.getElem?_eq_getElem hj]; rfl
  rw [hxs]
  have HU:Hid _:=hU
  have HKV:Hid (kk=y0.t.pairs[j].1∧vv=y0.t.pairs[j].2):=⟨hkk,hvv⟩
  have HLG:Hid (x.heap.size+1∉G1∧x.heap.size+1 < W.heap.size):=⟨hlG,hlW⟩
  clear hxs hU hlG hlW hkk hvv
  gi_wp2
  have h4:=blk_new W (.cells #[.int .i64 kk,.int .i64 vv] 128 (0,0))
  have tA:Turned [] W (W.alloc (.cells #[.int .i64 kk,.int .i64 vv] 128 (0,0))):=(Turned.refl _ _).alloc _
  refine ⟨tA,fun W2 h2=>?_⟩
  have hSl:=h2.heap h4 (by simp; have:=HLG.out.2; omega)
  have hU2:=(HU.out.keep HT.out tA (by simp)).keep HT.out h2 (fun z hz hm=>by simp at hz; subst hz; exact HLG.out.1 hm)
  clear h2 h4 tA HU
  obtain ⟨G0,rfl,hJ0,n1,n2,n3⟩:=hU2.ex
  have fin:∀ a' y' z,Turned [] W2 y'→(Turned G0 y' z∧∃ G',J (j0+j+1) G' z∧Wider G0 G' y')→rangeEnd (AJ db ob rb tb of_ fy cy J j0) (fun _ _ _=>False) j (db :: ob :: rb :: G0) W2 .normal a' z:=by
   rintro a' y' z hy' ⟨ht,G2,hJ2,hW2⟩
   have hd1:=hy'.heap hU2.hdb (by simp)
   have hd2:=hy'.heap hU2.hob (by simp)
   have hd3:=hy'.heap hU2.hrb (by simp)
   have l1:=lt_of_heap hd1
   have l2:=lt_of_heap hd2
   have l3:=lt_of_heap hd3
   have nw:∀ b,b∉G0→b < y'.heap.size→b∉G2:=fun b h1 h2 hm=>by
    rcases hW2 b hm with h | h
    ·exact h1 h
    ·omega
   refine ⟨(hy'.mono (by simp)).trans (ht.mono (fun z hz=>by simp [hz])),db :: ob :: rb :: G2,⟨⟨G2,rfl,hJ2,nw _ n1 l1,nw _ n2 l2,nw _ n3 l3⟩,ht.heap hd1 n1,ht.heap hd2 n2,ht.heap hd3 n3⟩,fun z hz=>?_⟩
   simp only [List.mem_cons] at hz ⊢
   rcases hz with h | h | h | h
   ·exact .inl (.inl h)
   ·exact .inl (.inr (.inl h))
   ·exact .inl (.inr (.inr (.inl h)))
   ·rcases hW2 z h with h | h
    ·exact .inl (.inr (.inr (.inr h)))
    ·exact .inr (by have:=hy'.size; omega)
  rcases hof with rfl | rfl
  ·obtain ⟨hlt,hget⟩:=HS.out.get (i:=j) (by simpa [ofL] using hj)
   have hch:chnV L[j0+j]=.agg #[.int .i64 kk,.int .i64 vv,.int .i64 0,.bool true,.bool false]:=by rw [hget]; simp [ofL,chnV,HKV.out.1,HKV.out.2]
   refine all_Y0 (db:=db) (ob:=ob) (rb:=rb) (lf:=W.heap.size) (tb:=tb) (kk:=kk) (vv:=vv) (fy:=fy) (cy:=cy) (Rz:=fun y' z=>Turned G0 y' z∧∃ G',J (j0+j+1) G' z∧Wider G0 G' y') rfl rfl rfl rfl rfl rfl rfl hU2.hdb hU2.hob hSl HT.out.ent (fun y' hy'=>?_) (fun a' y' z hy' hr=>fin a' y' z hy' hr)
   have h5:=HT.out.takes (j0+j) hlt G0 y' (HT.out.keep hJ0 hy' (by simp))
   rw [hch] at h5
   exact h5
  ·obtain ⟨hlt,hget⟩:=HS.out.get (i:=j) (by simpa [ofL] using hj)
   have hch:chnV L[j0+j]=.agg #[.int .i64 kk,.int .i64 0,.int .i64 vv,.bool false,.bool true]:=by rw [hget]; simp [ofL,chnV,HKV.out.1,HKV.out.2]
   refine all_Y1 (db:=db) (ob:=ob) (rb:=rb) (lf:=W.heap.size) (tb:=tb) (kk:=kk) (vv:=vv) (fy:=fy) (cy:=cy) (Rz:=fun y' z=>Turned G0 y' z∧∃ G',J (j0+j+1) G' z∧Wider G0 G' y') rfl rfl rfl rfl rfl rfl rfl hU2.hdb hU2.hob hSl HT.out.ent (fun y' hy'=>?_) (fun a' y' z hy' hr=>fin a' y' z hy' hr)
   have h5:=HT.out.takes (j0+j) hlt G0 y' (HT.out.keep hJ0 hy' (by simp))
   rw [hch] at h5
   exact h5
 case done =>
  intro W G' hU hW hD hPW hTu hK
  exact HK.out _ _ _ G' rfl rfl rfl hU hW hD (by simpa using hTu) hK (Nat.le_refl _)
end
section
variable {tb p j0:Nat} {of_:Int} {F:List Nat} {s:PSt} {y:Spot} {nz:Value} {W:World} {J:Nat→List Nat→World→Prop} {G:List Nat} {fy:FuncId} {cy:Array Value} {L:List Chn}
set_option maxRecDepth 100000 in
set_option maxHeartbeats 1600000 in
theorem cAll (hof:of_=0∨of_=1) (hO:s.Ok) (hy:SpotOk s y) (hz:NzOk y nz) (hT:TakerC Tryz.prog L J fy cy) (hS:Seg L j0 (ofL of_ y.t.pairs)) (hD:DP tb p F s J j0 G W) :
  Calls Tryz.prog 67 #[dfV tb fy cy,spV y.t.hd y.a y.b nz,.int .i64 of_] W (DR J W G (j0+y.t.pairs.length)):=by
 have HS:Hid (Seg L j0 (ofL of_ y.t.pairs)):=hS
 have HT:Hid (TakerC Tryz.prog L J fy cy):=hT
 have HD:Hid (DP tb p F s J j0 G W):=hD
 have HO:Hid s.Ok:=hO
 have HY:Hid (SpotOk s y∧NzOk y nz):=⟨hy,hz⟩
 have HF:Hid (of_=0∨of_=1):=hof
 obtain ⟨uh,hu⟩:∃ uh,uh=y.t.hd:=⟨_,rfl⟩
 obtain ⟨ya,hya⟩:∃ uh,uh=y.a:=⟨_,rfl⟩
 obtain ⟨yb,hyb⟩:∃ uh,uh=y.b:=⟨_,rfl⟩
 have HU:Hid (uh=y.t.hd∧ya=y.a∧yb=y.b):=⟨hu,hya,hyb⟩
 rw [← hu,← hya,← hyb]
 clear hS hT hD hO hy hz hof hu hya hyb
 refine calls_marks Tryz.func67 rfl ?_
 simp only [Tryz.ntmps67,List.size_toArray,List.length_cons,List.length_nil,Nat.reduceAdd,Nat.reduceSub,Array.replicate_succ,Array.replicate_zero,List.push_toArray,List.append_toArray,List.nil_append,List.cons_append]
 refine wp_seq_k fun K0 hK0=>?_
 have H0:Hid _:=hK0
 clear hK0
 go_wp2
 refine H0.out _ _ ?_
 clear H0 K0
 have e1:((((W.alloc (dfO tb fy cy)).alloc (spO uh ya yb nz)).alloc (.cells #[.int .i64 of_] 3 (0,0))).alloc (.cells #[.bool false] 4 (0,0))).heap.size=W.heap.size+4:=by simp
 have z:∀ (w:World) (o:Obj) {n:Nat},w.heap.size=n→(w.alloc o).heap[n]?=some o:=fun w o n h=>by rw [← h]; exact blk_new w o
 have q0:((((W.alloc (dfO tb fy cy)).alloc (spO uh ya yb nz)).alloc (.cells #[.int .i64 of_] 3 (0,0))).alloc (.cells #[.bool false] 4 (0,0))).heap[W.heap.size]?=some (dfO tb fy cy):=blk_old (blk_old (blk_old (blk_new _ _) _) _) _
 have q1:((((W.alloc (dfO tb fy cy)).alloc (spO uh ya yb nz)).alloc (.cells #[.int .i64 of_] 3 (0,0))).alloc (.cells #[.bool false] 4 (0,0))).heap[W.heap.size+1]?=some (spO uh ya yb nz):=blk_old (blk_old (z _ _ (by simp)) _) _
 have q2:((((W.alloc (dfO tb fy cy)).alloc (spO uh ya yb nz)).alloc (.cells #[.int .i64 of_] 3 (0,0))).alloc (.cells #[.bool false] 4 (0,0))).heap[W.heap.size+1+1]?=some (.cells #[.int .i64 of_] 3 (0,0)):=blk_old (z _ _ (by simp)) _
 have q3:((((W.alloc (dfO tb fy cy)).alloc (spO uh ya yb nz)).alloc (.cells #[.int .i64 of_] 3 (0,0))).alloc (.cells #[.bool false] 4 (0,0))).heap[W.heap.size+1+1+1]?=some (.cells #[.bool false] 4 (0,0)):=z _ _ (by simp)
 have tA:Turned [] W ((((W.alloc (dfO tb fy cy)).alloc (spO uh ya yb nz)).alloc (.cells #[.int .i64 of_] 3 (0,0))).alloc (.cells #[.bool false] 4 (0,0))):=((((Turned.refl _ _).alloc _).alloc _).alloc _).alloc _
 generalize hw1:(World.alloc (World.alloc (World.alloc (World.alloc W _) _) _) _)=w1 at e1 q0 q1 q2 q3 tA ⊢
 clear hw1 z
 refine wp_seq_k fun K1 hK1=>?_
 refine wp_seq (all_r1 (db:=W.heap.size) (sb:=W.heap.size+1) (tb:=tb) (h:=uh) (a:=ya) (b:=yb) (nz:=nz)
  (Ph:=fun g u x=>Turned [] w1 x∧(g=1→∃ x0 x1,Turned [] w1 x0∧u 6=.func (.func 94) #[] #[.pointer (some ⟨x0.heap.size,0,none⟩),.pointer (some ⟨x0.heap.size+1,0,none⟩),.pointer (some ⟨x0.heap.size+1+1,0,none⟩),.pointer (some ⟨x0.heap.size+1+1+1,0,none⟩)]∧x1=(((x0.alloc (.cells #[pt tb] 29 (0,0))).alloc (.cells #[.pointer none] 111 (0,0))).alloc (.cells #[.int .i64 uh,.int .i64 ya,.int .i64 yb,nz] 120 (0,0))).alloc (.cells #[.int .i64 0,.int .i64 4294967295] 116 (0,0))∧Turned [] x1 x)) rfl rfl rfl (fun g u x h=>?cells) ⟨(Turned.refl _ _).drew,fun h=>by cases h⟩ (fun g u x h=>?keys) (fun u x h=>?leaves) ?fin)
 case cells =>
  exact ⟨cell_at (h.1.heap q0 (by simp)) 0,cell_at (h.1.heap q0 (by simp)) 1,load_sp (h.1.heap q1 (by simp))⟩
 case keys =>
  refine (cAllKeys x).mono ?_
  rintro e x' ⟨rfl,ht⟩
  exact ⟨rfl,h.1.trans ht,fun hg=>by
   obtain ⟨x0,x1,h1,h2,h3,h4⟩:=h.2 hg
   exact ⟨x0,x1,h1,h2,h3,h4.trans ht⟩⟩
 case leaves =>
  refine (cLeavesN nz tb uh ya yb 0 4294967295 x).mono ?_
  rintro e x' ⟨rfl,hx⟩
  refine ⟨_,rfl,?_,fun _=>⟨x,x',h.1,by rw [upd_same],hx,Turned.refl _ _⟩⟩
  rw [hx]
  exact (((h.1.alloc _).alloc _).alloc _).alloc _
 case fin =>
  rintro a1 w3 u hs hd hoff x16 ⟨t3,h2⟩
  obtain ⟨x0,x1,t0,hu6,hx1,t1⟩:=h2 rfl
  rw [hu6] at x16
  have x3:a1.eval (.tmp 3)=.pointer (some ⟨W.heap.size,0,none⟩):=hoff 3 (by decide)
  have x5:a1.eval (.tmp 5)=.pointer (some ⟨W.heap.size+1+1,0,none⟩):=hoff 5 (by decide)
  have x6:a1.eval (.tmp 6)=.pointer (some ⟨W.heap.size+1+1+1,0,none⟩):=hoff 6 (by decide)
  have hs2:a1.tmps.size=41:=hs
  have hd2:a1.defers=[]:=hd
  refine wp_block ?_
  clear hoff hs hd h2 hu6
  have z:∀ (w:World) (o:Obj) {n:Nat},w.heap.size=n→(w.alloc o).heap[n]?=some o:=fun w o n h=>by rw [← h]; exact blk_new w o
  have r0:w3.heap[x0.heap.size]?=some (.cells #[pt tb] 29 (0,0)):=t1.heap (by rw [hx1]; exact blk_old (blk_old (blk_old (blk_new _ _) _) _) _) (by simp)
  have r1:w3.heap[x0.heap.size+1]?=some (.cells #[.pointer none] 111 (0,0)):=t1.heap (by rw [hx1]; exact blk_old (blk_old (z _ _ (by simp)) _) _) (by simp)
  have r2:w3.heap[x0.heap.size+1+1]?=some (.cells #[.int .i64 uh,.int .i64 ya,.int .i64 yb,nz] 120 (0,0)):=t1.heap (by rw [hx1]; exact blk_old (z _ _ (by simp)) _) (by simp)
  have r3:w3.heap[x0.heap.size+1+1+1]?=some (.cells #[.int .i64 0,.int .i64 4294967295] 116 (0,0)):=t1.heap (by rw [hx1]; exact z _ _ (by simp)) (by simp)
  rw [HU.out.1,HU.out.2.1,HU.out.2.2] at r2
  have tW3:=tA.trans t3
  have hDP:=HD.out.still HT.out tW3
  have hPv:PreV (x0.heap.size+1+1) x0.heap.size (x0.heap.size+1) (x0.heap.size+1+1+1) tb p F s y 0 4294967295 w3:=⟨⟨nz,HY.out.2,r2⟩,r0,r1,r3,hDP.tr,hDP.po⟩
  have hGlt:=HT.out.lt HD.out.jj
  have hFlt:=poolLaws.lt HD.out.po
  have hTlt:=lt_of_heap HD.out.tr.blk
  have hpos:=HD.out.tr.pos
  have hs0:=t0.size
  have nG:∀ b,W.heap.size≤b→b∉G:=fun b hb hm=>by have:=hGlt b hm; omega
  refine all_loop (db:=W.heap.size) (ob:=W.heap.size+1+1) (rb:=W.heap.size+1+1+1) (G:=G) HF.out hs2 hd2 x3 x5 x6 x16 HO.out HY.out.1 HT.out HS.out hPv (fun q hq hm=>?_) ⟨⟨G,rfl,hDP.jj,nG _ (by omega),nG _ (by omega),nG _ (by omega)⟩,t3.heap q0 (by simp),t3.heap q2 (by simp),t3.heap q3 (by simp)⟩ ?_
  ·simp only [RV,List.mem_cons] at hm hq
   rcases hq with hq | hq | hq | hq
   ·rcases hm with h | h | h | h | h | h | h <;> first | omega | (have:=hFlt q h; omega)
   ·rcases hm with h | h | h | h | h | h | h <;> first | omega | (have:=hFlt q h; omega)
   ·rcases hm with h | h | h | h | h | h | h <;> first | omega | (have:=hFlt q h; omega)
   ·have:=hGlt q hq
    rcases hm with h | h | h | h | h | h | h
    ·omega
    ·omega
    ·omega
    ·omega
    ·exact (HD.out.off q hq).2.1 h
    ·exact (HD.out.off q hq).2.2 h
    ·exact (HD.out.off q hq).1 h
  ·intro a' y' D G' hs hd x6 hAJ hWd hDG hTy hKD hDle
   obtain ⟨G0,rfl,hJN,m1,m2,m3⟩:=hAJ.ex
   refine hK1 _ _ ?_
   clear hK1
   obtain ⟨cc,hcc,hce⟩:=expand41d hs hd
   have g6:=(hce 6).trans x6
   clear hce hs hd x6
   subst hcc
   simp only [lit41,g6]
   clear g6
   have rz:=froz_at hAJ.hrb 0
   have rc:y'.cell? ⟨W.heap.size+1+1+1,0,none⟩=some (.bool false):=cell_at hAJ.hrb 0
   go_wp2
   have hle:W.heap.size≤W.heap.size+1+1+1:=by omega
   have nD:D≠W.heap.size+1+1+1:=fun e=>by have h:=hAJ.hrb; rw [← e,hKD] at h; cases h
   have hK2:(y'.setCell ⟨W.heap.size+1+1+1,0,none⟩ (.bool true)).heap[D]?=some (.deferred (some [])):=(blk_other nD 0 _).trans hKD
   have hb2:=blk_set hAJ.hrb 0 (.bool true)
   have tS:Turned [W.heap.size+1+1+1] y' (y'.setCell ⟨W.heap.size+1+1+1,0,none⟩ (.bool true)):=(Turned.refl _ _).set (.inl (by simp)) _ _
   have t4:Turned G W y':=(tW3.mono (by simp)).inner hTy (fun q hq=>by
    simp only [List.mem_cons] at hq
    rcases hq with h | h | h | h
    ·exact .inr (by omega)
    ·exact .inr (by omega)
    ·exact .inr (by omega)
    ·exact .inl h)
   have hJ2:J (j0+y.t.pairs.length) G0 (y'.setCell ⟨W.heap.size+1+1+1,0,none⟩ (.bool true)):=HT.out.keep hJN tS (by simp; exact m3)
   have t5:=t4.inner tS (fun q hq=>by simp at hq; subst hq; exact .inr (by omega))
   have hD2:W.heap.size≤D:=by have:=tW3.size; omega
   generalize y'.setCell ⟨W.heap.size+1+1+1,0,none⟩ (.bool true)=y2 at hK2 hb2 tS hJ2 t5 ⊢
   have tD:Turned [D] y2 (y2.putObj D (.deferred none)):=turned_put _
   have hb3:=tD.heap hb2 (by simp; exact fun e=>nD e.symm)
   have rc3:(y2.putObj D (.deferred none)).cell? ⟨W.heap.size+1+1+1,0,none⟩=some (.bool true):=cell_at hb3 0
   refine marks_ret hK2 (v:=.bool true) (by unfold results; go_simp) rfl ⟨rfl,t5.inner tD (fun q hq=>by simp at hq; subst hq; exact .inr hD2),G0,HT.out.keep hJ2 tD (fun q hq hm=>by simp at hq; subst hq; exact hDG (by simp [hm])),fun q hq=>?_⟩
   rcases hWd q (by simp [hq]) with h | h
   ·simp only [List.mem_cons] at h
    rcases h with rfl | rfl | rfl | h
    ·exact absurd hq m1
    ·exact absurd hq m2
    ·exact absurd hq m3
    ·exact .inl h
   ·exact .inr (by have:=tW3.size; omega)
end
end Go.Proofs.YtloljphbdfjgdaaGreatDoor
/- Package trie's Diff: halved, by contract. (Written by tools/gen/gendifh.py.) -/
namespace Go.Proofs.YtloljphbdfjgdaaGreatDoor
open Go.RowKit
section
variable {tb p j0 q:Nat} {of_ h c ya yb k:Int} {l r:Tr} {F:List Nat} {s:PSt} {W:World} {J:Nat→List Nat→World→Prop} {G:List Nat} {fy fm:FuncId} {cy cm:Array Value} {L D1:List Chn}
set_option maxRecDepth 100000 in
set_option maxHeartbeats 1600000 in
theorem cHalvedL (hof:of_=0∨of_=1) (hO:s.Ok) (hy:SpotOk s ⟨.node h q c l r,ya,yb⟩) (hT:TakerC Tryz.prog L J fy cy) (hS:Seg L j0 (D1 ++ ofL of_ r.pairs)) (hD:DP tb p F s J j0 G W) (hk1:c≤k) (hk2:k < c+2 ^ q) (hEnt:Enterable Tryz.prog fm)
  (hM:∀ x G',Turned G W x→Wider G G' W→DP tb p F s J j0 G' x→Calls Tryz.prog fm (#[spV l.hd c (c+2 ^ q - 1) .nilIface] ++ cm) x (DR J x G' (j0+D1.length))) :
  Calls Tryz.prog 96 #[dfV tb fy cy,spV h ya yb (nv (.node h q c l r)),.int .i64 of_,.int .i64 k,.func (.func fm) #[] cm] W (DR J W G (j0+D1.length+r.pairs.length)):=by
 have hw:=hy.wf
 obtain ⟨w1,w2,w3,w4,w5,w6,w7,w8,wl,wr⟩:=id hy.wf
 have hp:=Tr.pow_pos' q
 have k0:0≤k:=by omega
 have k1:k≤4294967295:=by omega
 have hbit:hv k.toNat q % 2=0:=bit_low k0 w4 hk1 hk2
 have HC0:Hid (∀ (n:Int) x,Calls Tryz.prog 78 #[inV c q l.hd r.hd n,.int .i64 0] x fun e w'=>e=.returned (spV l.hd c (c+2 ^ q - 1) .nilIface)∧Turned [] x w'):=fun n x=>cChild0 l.hd r.hd n w2 w3 w1 x
 have HC1:Hid (∀ (n:Int) x,Calls Tryz.prog 78 #[inV c q l.hd r.hd n,.int .i64 1] x fun e w'=>e=.returned (spV r.hd (c+2 ^ q) (c+2 * 2 ^ q - 1) .nilIface)∧Turned [] x w'):=fun n x=>cChild1 l.hd r.hd n w2 w3 w1 x
 have HSd:Hid (∀ (n:Int) x,Tab x→Calls Tryz.prog 77 #[inV c q l.hd r.hd n,.int .i64 k] x fun e w'=>e=.returned (.int .i64 0)∧Turned [] x w'):=fun n x ht=>cSide l.hd r.hd ht k0 k1 w1 hbit
 have HT:Hid (TakerC Tryz.prog L J fy cy):=hT
 have HD:Hid (DP tb p F s J j0 G W):=hD
 have HM:Hid (∀ x G',Turned G W x→Wider G G' W→DP tb p F s J j0 G' x→Calls Tryz.prog fm (#[spV l.hd c (c+2 ^ q - 1) .nilIface] ++ cm) x (DR J x G' (j0+D1.length))):=hM
 have HS:Hid (Seg L j0 (D1 ++ ofL of_ r.pairs)):=hS
 have HE:Hid (Enterable Tryz.prog fm):=hEnt
 have HY:Hid (s.Ok∧SpotOk s ⟨.node h q c l r,ya,yb⟩∧(of_=0∨of_=1)):=⟨hO,hy,hof⟩
 have as1:=as_inner_inner
 rw [show nv (.node h q c l r)=.iface 151 (inV c q l.hd r.hd ((l.cnt+r.cnt:Nat):Int)) from rfl]
 obtain ⟨n,hn⟩:∃ n:Int,n=((l.cnt+r.cnt:Nat):Int):=⟨_,rfl⟩
 rw [← hn]
 clear hn hw w1 w2 w3 w4 w5 w6 w7 w8 wl wr hp hbit hk1 hk2 k0 k1 hT hD hM hS hEnt hO hy hof
 obtain ⟨qI,hqI⟩:∃ qI:Int,qI=(q:Int):=⟨_,rfl⟩
 have HQ:Hid (qI=(q:Int)):=hqI
 rw [← hqI]
 clear hqI
 go_enter Tryz.func96,Tryz.ntmps96
 refine wp_seq_k fun K0 hK0=>?_
 have H0:Hid _:=hK0
 clear hK0
 go_wp2
 refine H0.out _ _ ?_
 clear H0 K0
 refine wp_seq_k fun K0 hK0=>?_
 have H0:Hid _:=hK0
 clear hK0
 go_wp2
 refine H0.out _ _ ?_
 clear H0 K0
 have tA:Turned [] W (((W.alloc (dfO tb fy cy)).alloc (spO h ya yb (.iface 151 (inV c qI l.hd r.hd n)))).alloc (inO c qI l.hd r.hd n)):=(((Turned.refl _ _).alloc _).alloc _).alloc _
 have z:∀ (w:World) (o:Obj) {n:Nat},w.heap.size=n→(w.alloc o).heap[n]?=some o:=fun w o n h=>by rw [← h]; exact blk_new w o
 have b0:(((W.alloc (dfO tb fy cy)).alloc (spO h ya yb (.iface 151 (inV c qI l.hd r.hd n)))).alloc (inO c qI l.hd r.hd n)).heap[W.heap.size]?=some (dfO tb fy cy):=blk_old (blk_old (blk_new _ _) _) _
 have b2:(((W.alloc (dfO tb fy cy)).alloc (spO h ya yb (.iface 151 (inV c qI l.hd r.hd n)))).alloc (inO c qI l.hd r.hd n)).heap[W.heap.size+1+1]?=some (inO c qI l.hd r.hd n):=z _ _ (by simp)
 generalize hw1:(World.alloc (World.alloc (World.alloc W _) _) _)=w1 at tA b0 b2 ⊢
 clear hw1 z
 refine wp_seq_k fun K0 hK0=>?_
 have H0:Hid _:=hK0
 clear hK0
 go_wp2
 refine H0.out _ _ ?_
 clear H0 K0
 refine wp_seq_k fun K1 hK1=>?_
 refine wp_seq_k fun K0 hK0=>?_
 have H0:Hid _:=hK0
 have H1:Hid _:=hK1
 have HA:Hid (Turned [] W w1∧w1.heap[W.heap.size]?=some (dfO tb fy cy)∧w1.heap[W.heap.size+1+1]?=some (inO c qI l.hd r.hd n)):=⟨tA,b0,b2⟩
 have e0:=cell_at b2 0
 have e1:=cell_at b2 1
 have e2:=cell_at b2 2
 have e3:=cell_at b2 3
 have e4:=cell_at b2 4
 simp at e0 e1 e2 e3 e4
 clear hK0 hK1 tA b0 b2
 have HSd2:=HSd.out n w1 (HD.out.still HT.out HA.out.1).tr.tab
 rw [← HQ.out] at HSd2
 go_wp2_with (go_at_call 77; refine HSd2.mono ?_; rintro e w2 ⟨rfl,ht2⟩; have HT2:Hid (Turned [] w1 w2):=ht2; clear ht2)
 refine H0.out _ _ ?_
 clear H0 K0 HSd2 e0 e1 e2 e3 e4
 refine wp_cond_true rfl ?_
 obtain ⟨tA,b0,b2⟩:=HA.out
 have t2:=HT2.out
 have tW:Turned [] W w2:=tA.trans t2
 have q0:=t2.heap b0 (by simp)
 have q2:=t2.heap b2 (by simp)
 have hGlt:=HT.out.lt HD.out.jj
 have n0:W.heap.size∉G:=fun hm=>absurd (hGlt _ hm) (Nat.lt_irrefl _)
 have n2:W.heap.size+1+1∉G:=fun hm=>by have:=hGlt _ hm; omega
 have dP:=HD.out.still HT.out tW
 obtain ⟨sg1,sg2⟩:=HS.out.split
 obtain ⟨w1a,w2a,w3a,w4a,w5a,w6a,w7a,w8a,wl,wr⟩:=id HY.out.2.1.wf
 have hp:=Tr.pow_pos' q
 have wid:∀ G',Wider G G' w2→Wider G G' W:=fun G' hw q hq=>by
  rcases hw q hq with h | h
  ·exact .inl h
  ·exact .inr (by have:=tW.size; omega)
 refine wp_seq (halved_r5 (db:=W.heap.size) (nb:=W.heap.size+1+1) (tb:=tb) (qq:=q) (of_:=of_) (f:=c) (q:=qI) (l:=l.hd) (r:=r.hd) (c:=n) (fy:=fy) (fm:=fm) (cy:=cy) (cm:=cm)
  (Ph:=fun g _ x=>DW tb p F s J G w2 (if g=0 then j0 else if g=1 then j0+D1.length else j0+D1.length+r.pairs.length) x) rfl rfl rfl rfl rfl (fun g u x hx=>⟨load_df (hx.heap q0 n0),load_in (hx.heap q2 n2)⟩) ((DW.start dP).still HT.out (Turned.refl _ _).drew) (fun g u x hx=>?ch0) (fun g u x hx=>?ch1) HE.out (fun u x hx=>?met) (fun u x hx=>?all_) ?fin)
 case ch0 =>
  have h:=HC0.out n x
  rw [← HQ.out] at h
  exact h.mono fun e w' hh=>⟨hh.1,hx.still HT.out hh.2⟩
 case ch1 =>
  have h:=HC1.out n x
  rw [← HQ.out] at h
  exact h.mono fun e w' hh=>⟨hh.1,hx.still HT.out hh.2⟩
 case met =>
  exact hx.call2 fun G' h1 h2 h3=>HM.out x G' ((tW.mono (by simp)).trans h1) (wid G' h2) h3
 case all_ =>
  exact hx.call fun G' h3=>cAll HY.out.2.2 HY.out.1 (y:=⟨r,c+2 ^ q,c+2 * 2 ^ q - 1⟩) ⟨wr,HY.out.2.1.rep.2.2,w7a,by show r.hi≤c+2 * 2 ^ q - 1; omega⟩ (.inl rfl) HT.out sg2 h3
 case fin =>
  intro a' x u hs hd hoff x10 hx
  have hs2:a'.tmps.size=47:=hs
  have hd2:a'.defers=[]:=hd
  have hr:=hx.done tW
  rw [← x10] at hr
  refine wp_ret ?_
  exact bodyPost_ret (results_tmp rfl _ _ _) hd2 hr
set_option maxRecDepth 100000 in
set_option maxHeartbeats 1600000 in
theorem cHalvedR (hof:of_=0∨of_=1) (hO:s.Ok) (hy:SpotOk s ⟨.node h q c l r,ya,yb⟩) (hT:TakerC Tryz.prog L J fy cy) (hS:Seg L j0 (ofL of_ l.pairs ++ D1)) (hD:DP tb p F s J j0 G W) (hk1:c+2 ^ q≤k) (hk2:k < c+2 * 2 ^ q) (hEnt:Enterable Tryz.prog fm)
  (hM:∀ x G',Turned G W x→Wider G G' W→DP tb p F s J (j0+l.pairs.length) G' x→Calls Tryz.prog fm (#[spV r.hd (c+2 ^ q) (c+2 * 2 ^ q - 1) .nilIface] ++ cm) x (DR J x G' ((j0+l.pairs.length)+D1.length))) :
  Calls Tryz.prog 96 #[dfV tb fy cy,spV h ya yb (nv (.node h q c l r)),.int .i64 of_,.int .i64 k,.func (.func fm) #[] cm] W (DR J W G (j0+l.pairs.length+D1.length)):=by
 have hw:=hy.wf
 obtain ⟨w1,w2,w3,w4,w5,w6,w7,w8,wl,wr⟩:=id hy.wf
 have hp:=Tr.pow_pos' q
 have k0:0≤k:=by omega
 have k1:k≤4294967295:=by omega
 have hbit:hv k.toNat q % 2=1:=bit_high k0 w4 hk1 hk2
 have HC0:Hid (∀ (n:Int) x,Calls Tryz.prog 78 #[inV c q l.hd r.hd n,.int .i64 0] x fun e w'=>e=.returned (spV l.hd c (c+2 ^ q - 1) .nilIface)∧Turned [] x w'):=fun n x=>cChild0 l.hd r.hd n w2 w3 w1 x
 have HC1:Hid (∀ (n:Int) x,Calls Tryz.prog 78 #[inV c q l.hd r.hd n,.int .i64 1] x fun e w'=>e=.returned (spV r.hd (c+2 ^ q) (c+2 * 2 ^ q - 1) .nilIface)∧Turned [] x w'):=fun n x=>cChild1 l.hd r.hd n w2 w3 w1 x
 have HSd:Hid (∀ (n:Int) x,Tab x→Calls Tryz.prog 77 #[inV c q l.hd r.hd n,.int .i64 k] x fun e w'=>e=.returned (.int .i64 1)∧Turned [] x w'):=fun n x ht=>cSide l.hd r.hd ht k0 k1 w1 hbit
 have HT:Hid (TakerC Tryz.prog L J fy cy):=hT
 have HD:Hid (DP tb p F s J j0 G W):=hD
 have HM:Hid (∀ x G',Turned G W x→Wider G G' W→DP tb p F s J (j0+l.pairs.length) G' x→Calls Tryz.prog fm (#[spV r.hd (c+2 ^ q) (c+2 * 2 ^ q - 1) .nilIface] ++ cm) x (DR J x G' ((j0+l.pairs.length)+D1.length))):=hM
 have HS:Hid (Seg L j0 (ofL of_ l.pairs ++ D1)):=hS
 have HE:Hid (Enterable Tryz.prog fm):=hEnt
 have HY:Hid (s.Ok∧SpotOk s ⟨.node h q c l r,ya,yb⟩∧(of_=0∨of_=1)):=⟨hO,hy,hof⟩
 have as1:=as_inner_inner
 rw [show nv (.node h q c l r)=.iface 151 (inV c q l.hd r.hd ((l.cnt+r.cnt:Nat):Int)) from rfl]
 obtain ⟨n,hn⟩:∃ n:Int,n=((l.cnt+r.cnt:Nat):Int):=⟨_,rfl⟩
 rw [← hn]
 clear hn hw w1 w2 w3 w4 w5 w6 w7 w8 wl wr hp hbit hk1 hk2 k0 k1 hT hD hM hS hEnt hO hy hof
 obtain ⟨qI,hqI⟩:∃ qI:Int,qI=(q:Int):=⟨_,rfl⟩
 have HQ:Hid (qI=(q:Int)):=hqI
 rw [← hqI]
 clear hqI
 go_enter Tryz.func96,Tryz.ntmps96
 refine wp_seq_k fun K0 hK0=>?_
 have H0:Hid _:=hK0
 clear hK0
 go_wp2
 refine H0.out _ _ ?_
 clear H0 K0
 refine wp_seq_k fun K0 hK0=>?_
 have H0:Hid _:=hK0
 clear hK0
 go_wp2
 refine H0.out _ _ ?_
 clear H0 K0
 have tA:Turned [] W (((W.alloc (dfO tb fy cy)).alloc (spO h ya yb (.iface 151 (inV c qI l.hd r.hd n)))).alloc (inO c qI l.hd r.hd n)):=(((Turned.refl _ _).alloc _).alloc _).alloc _
 have z:∀ (w:World) (o:Obj) {n:Nat},w.heap.size=n→(w.alloc o).heap[n]?=some o:=fun w o n h=>by rw [← h]; exact blk_new w o
 have b0:(((W.alloc (dfO tb fy cy)).alloc (spO h ya yb (.iface 151 (inV c qI l.hd r.hd n)))).alloc (inO c qI l.hd r.hd n)).heap[W.heap.size]?=some (dfO tb fy cy):=blk_old (blk_old (blk_new _ _) _) _
 have b2:(((W.alloc (dfO tb fy cy)).alloc (spO h ya yb (.iface 151 (inV c qI l.hd r.hd n)))).alloc (inO c qI l.hd r.hd n)).heap[W.heap.size+1+1]?=some (inO c qI l.hd r.hd n):=z _ _ (by simp)
 generalize hw1:(World.alloc (World.alloc (World.alloc W _) _) _)=w1 at tA b0 b2 ⊢
 clear hw1 z
 refine wp_seq_k fun K0 hK0=>?_
 have H0:Hid _:=hK0
 clear hK0
 go_wp2
 refine H0.out _ _ ?_
 clear H0 K0
 refine wp_seq_k fun K1 hK1=>?_
 refine wp_seq_k fun K0 hK0=>?_
 have H0:Hid _:=hK0
 have H1:Hid _:=hK1
 have HA:Hid (Turned [] W w1∧w1.heap[W.heap.size]?=some (dfO tb fy cy)∧w1.heap[W.heap.size+1+1]?=some (inO c qI l.hd r.hd n)):=⟨tA,b0,b2⟩
 have e0:=cell_at b2 0
 have e1:=cell_at b2 1
 have e2:=cell_at b2 2
 have e3:=cell_at b2 3
 have e4:=cell_at b2 4
 simp at e0 e1 e2 e3 e4
 clear hK0 hK1 tA b0 b2
 have HSd2:=HSd.out n w1 (HD.out.still HT.out HA.out.1).tr.tab
 rw [← HQ.out] at HSd2
 go_wp2_with (go_at_call 77; refine HSd2.mono ?_; rintro e w2 ⟨rfl,ht2⟩; have HT2:Hid (Turned [] w1 w2):=ht2; clear ht2)
 refine H0.out _ _ ?_
 clear H0 K0 HSd2 e0 e1 e2 e3 e4
 refine wp_cond_false rfl ?_
 refine wp_skip ?_
 refine H1.out _ _ ?_
 obtain ⟨tA,b0,b2⟩:=HA.out
 have t2:=HT2.out
 have tW:Turned [] W w2:=tA.trans t2
 have q0:=t2.heap b0 (by simp)
 have q2:=t2.heap b2 (by simp)
 have hGlt:=HT.out.lt HD.out.jj
 have n0:W.heap.size∉G:=fun hm=>absurd (hGlt _ hm) (Nat.lt_irrefl _)
 have n2:W.heap.size+1+1∉G:=fun hm=>by have:=hGlt _ hm; omega
 have dP:=HD.out.still HT.out tW
 obtain ⟨sg1,sg2⟩:=HS.out.split
 obtain ⟨w1a,w2a,w3a,w4a,w5a,w6a,w7a,w8a,wl,wr⟩:=id HY.out.2.1.wf
 have hp:=Tr.pow_pos' q
 have wid:∀ G',Wider G G' w2→Wider G G' W:=fun G' hw q hq=>by
  rcases hw q hq with h | h
  ·exact .inl h
  ·exact .inr (by have:=tW.size; omega)
 refine wp_seq (halved_r6 (db:=W.heap.size) (nb:=W.heap.size+1+1) (tb:=tb) (qq:=q) (of_:=of_) (f:=c) (q:=qI) (l:=l.hd) (r:=r.hd) (c:=n) (fy:=fy) (fm:=fm) (cy:=cy) (cm:=cm)
  (Ph:=fun g _ x=>DW tb p F s J G w2 (if g=0 then j0 else if g=1 then j0+l.pairs.length else j0+l.pairs.length+D1.length) x) rfl rfl rfl rfl rfl (fun g u x hx=>⟨load_df (hx.heap q0 n0),load_in (hx.heap q2 n2)⟩) ((DW.start dP).still HT.out (Turned.refl _ _).drew) (fun g u x hx=>?ch0) (fun g u x hx=>?ch1) (fun u x hx=>?all_) HE.out (fun u x hx=>?met) ?fin)
 case ch0 =>
  have h:=HC0.out n x
  rw [← HQ.out] at h
  exact h.mono fun e w' hh=>⟨hh.1,hx.still HT.out hh.2⟩
 case ch1 =>
  have h:=HC1.out n x
  rw [← HQ.out] at h
  exact h.mono fun e w' hh=>⟨hh.1,hx.still HT.out hh.2⟩
 case met =>
  exact hx.call2 fun G' h1 h2 h3=>HM.out x G' ((tW.mono (by simp)).trans h1) (wid G' h2) h3
 case all_ =>
  exact hx.call fun G' h3=>cAll HY.out.2.2 HY.out.1 (y:=⟨l,c,c+2 ^ q - 1⟩) ⟨wl,HY.out.2.1.rep.2.1,w5a,by show l.hi≤c+2 ^ q - 1; omega⟩ (.inl rfl) HT.out sg1 h3
 case fin =>
  intro a' x u hs hd hoff x10 hx
  have hs2:a'.tmps.size=47:=hs
  have hd2:a'.defers=[]:=hd
  have hr:=hx.done tW
  rw [← x10] at hr
  refine wp_ret ?_
  exact bodyPost_ret (results_tmp rfl _ _ _) hd2 hr
end
end Go.Proofs.YtloljphbdfjgdaaGreatDoor

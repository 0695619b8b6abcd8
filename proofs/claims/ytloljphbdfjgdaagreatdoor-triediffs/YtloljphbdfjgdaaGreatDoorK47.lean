/- Package trie's Diff: spans, beside by contract. -/
import Derived.Test.YtloljphbdfjgdaaGreatDoorK46
import Derived.Test.YtloljphbdfjgdaaGreatDoorK36
import Derived.Test.YtloljphbdfjgdaaGreatDoorK37
import Derived.Test.YtloljphbdfjgdaaGreatDoorK03
import Derived.Test.YtloljphbdfjgdaaGreatDoorK41
import Derived.Test.YtloljphbdfjgdaaGreatDoorK23
import Derived.Test.YtloljphbdfjgdaaGreatDoorK40
namespace Go.Proofs.YtloljphbdfjgdaaGreatDoor
open Go.RowKit
section
variable {tb p j0 N:Nat} {a1 b1 a2 b2:Int} {t u:Tr} {F:List Nat} {s:PSt} {W:World} {J:Nat→List Nat→World→Prop} {G:List Nat} {fy:FuncId} {cy:Array Value} {L:List Chn}
set_option maxRecDepth 100000 in
set_option maxHeartbeats 1600000 in
theorem cSpans (hO:s.Ok) (hT:TakerC Tryz.prog L J fy cy) (IH:BOk L tb p F s J fy cy N) (hN:t.cnt+u.cnt≤N+1) (ht:SpotOk s ⟨t,a1,b1⟩) (hu:SpotOk s ⟨u,a2,b2⟩) (hD:DP tb p F s J j0 G W) (hS:Seg L j0 (diffL t.pairs u.pairs)) :
  Calls Tryz.prog 69 #[dfV tb fy cy,spV t.hd a1 b1 (nv t),spV u.hd a2 b2 (nv u)] W (DR J W G (j0+(diffL t.pairs u.pairs).length)):=by
 obtain ⟨fa,va,hIa,hCa⟩:=span_inv ht.wf
 obtain ⟨fb,vb,hIb,hCb⟩:=span_inv hu.wf
 have HI:Hid _:=And.intro hIa (And.intro hIb (And.intro hCa hCb))
 have HT:Hid (TakerC Tryz.prog L J fy cy):=hT
 have HD:Hid (DP tb p F s J j0 G W):=hD
 have HS:Hid (Seg L j0 (diffL t.pairs u.pairs)):=hS
 have HH:Hid (BOk L tb p F s J fy cy N∧t.cnt+u.cnt≤N+1∧SpotOk s ⟨t,a1,b1⟩∧SpotOk s ⟨u,a2,b2⟩∧s.Ok):=⟨IH,hN,ht,hu,hO⟩
 clear hIa hIb hCa hCb hT hD hS IH hN ht hu hO
 obtain ⟨th,hth⟩:∃ x,x=t.hd:=⟨_,rfl⟩
 obtain ⟨uh,huh⟩:∃ x,x=u.hd:=⟨_,rfl⟩
 obtain ⟨tn,htn⟩:∃ x,x=nv t:=⟨_,rfl⟩
 obtain ⟨un,hun⟩:∃ x,x=nv u:=⟨_,rfl⟩
 have HE:Hid (th=t.hd∧uh=u.hd∧tn=nv t∧un=nv u):=⟨hth,huh,htn,hun⟩
 rw [← hth,← huh,← htn,← hun]
 clear hth huh htn hun
 go_enter Tryz.func69,Tryz.ntmps69
 refine wp_seq_k fun K0 hK0=>?_
 have H0:Hid _:=hK0
 clear hK0
 go_wp2
 refine H0.out _ _ ?_
 clear H0 K0
 have tA:Turned [] W (((W.alloc (dfO tb fy cy)).alloc (spO th a1 b1 tn)).alloc (spO uh a2 b2 un)):=(((Turned.refl _ _).alloc _).alloc _).alloc _
 have z:∀ (w:World) (o:Obj) {n:Nat},w.heap.size=n→(w.alloc o).heap[n]?=some o:=fun w o n h=>by rw [← h]; exact blk_new w o
 have q0:(((W.alloc (dfO tb fy cy)).alloc (spO th a1 b1 tn)).alloc (spO uh a2 b2 un)).heap[W.heap.size]?=some (dfO tb fy cy):=blk_old (blk_old (blk_new _ _) _) _
 have q1:(((W.alloc (dfO tb fy cy)).alloc (spO th a1 b1 tn)).alloc (spO uh a2 b2 un)).heap[W.heap.size+1]?=some (spO th a1 b1 tn):=blk_old (z _ _ (by simp)) _
 have q2:(((W.alloc (dfO tb fy cy)).alloc (spO th a1 b1 tn)).alloc (spO uh a2 b2 un)).heap[W.heap.size+1+1]?=some (spO uh a2 b2 un):=z _ _ (by simp)
 generalize hw1:(World.alloc (World.alloc (World.alloc W _) _) _)=w1 at tA q0 q1 q2 ⊢
 clear hw1 z
 obtain ⟨hIa,hIb,hCa,hCb⟩:=HI.out
 rw [← HE.out.2.2.1] at hIa
 rw [← HE.out.2.2.2] at hIb
 refine wp_seq (spans_r1 (sa:=W.heap.size+1) (sb:=W.heap.size+1+1) rfl rfl rfl q1 q2 hIa hIb hCa hCb ?_)
 intro a' x q q' hs hd hoff x7 x8 htx hq hq' hlq hlq'
 have x3:a'.eval (.tmp 3)=.pointer (some ⟨W.heap.size,0,none⟩):=hoff 3 (by decide)
 have x4:a'.eval (.tmp 4)=.pointer (some ⟨W.heap.size+1,0,none⟩):=hoff 4 (by decide)
 have x5:a'.eval (.tmp 5)=.pointer (some ⟨W.heap.size+1+1,0,none⟩):=hoff 5 (by decide)
 have x6:a'.eval (.tmp 6)=.bool false:=hoff 6 (by decide)
 have hs2:a'.tmps.size=67:=hs
 have hd2:a'.defers=[]:=hd
 have tX:=tA.trans htx
 have c0:=htx.heap q0 (by simp)
 have c1:=htx.heap q1 (by simp)
 have c2:=htx.heap q2 (by simp)
 obtain ⟨IH,hN,ht,hu,hO⟩:=HH.out
 obtain ⟨eth,euh,etn,eun⟩:=HE.out
 have hT:=HT.out
 have hD:=HD.out
 have hS:=HS.out
 have hGlt:=hT.lt hD.jj
 have nG:∀ b,W.heap.size≤b→b∉G:=fun b hb hm=>by have:=hGlt b hm; omega
 have dX:=hD.still hT tX
 clear hs hd hoff q0 q1 q2 HI HT HD HS HH HE hIa hIb hCa hCb
 refine (show (atc Tryz.f69.body [1,1]).wp _ _ _ _ from ?_)
 have fin:∀ (k:Nat),k=j0+(diffL t.pairs u.pairs).length→∀ a'' y,a''.tmps.size=67→a''.defers=[]→a''.eval (.tmp 6)=.bool true→DR J W G k (.returned (.bool true)) y→bodyPost Tryz.prog Tryz.f69 (DR J W G (j0+(diffL t.pairs u.pairs).length)) .ret a'' y:=by
  intro k hk a'' y _ hd'' x6'' hr
  subst hk
  rw [← x6''] at hr
  exact bodyPost_ret (results_tmp rfl _ _ _) hd'' hr
 have ct:=t.cnt_pos
 have cu:=u.cnt_pos
 have lo1:=ht.wf.span
 have lo2:=hu.wf.span
 have dw:=DW.start dX
 have two:∀ {f:FuncId} {args:Array Value} {y:World} {k k':Nat},DW tb p F s J G x k y→(∀ G',DP tb p F s J k G' y→Calls Tryz.prog f args y (DR J y G' k'))→Calls Tryz.prog f args y fun e z=>e=.returned (.bool true)∧DR J W G k' (.returned (.bool true)) z:=fun h1 h2=>(h1.call h2).mono fun _ _ hz=>⟨hz.1,hz.2.done tX⟩
 have two2:∀ {f:FuncId} {args:Array Value} {y:World} {k k':Nat},DW tb p F s J G x k y→(∀ G',Wider G G' x→DP tb p F s J k G' y→Calls Tryz.prog f args y (DR J y G' k'))→Calls Tryz.prog f args y fun e z=>e=.returned (.bool true)∧DR J W G k' (.returned (.bool true)) z:=fun h1 h2=>(h1.call2 (fun G' _ h4 h5=>h2 G' h4 h5)).mono fun _ _ hz=>⟨hz.1,hz.2.done tX⟩
 have offX:∀ {G':List Nat} {b:Nat},Wider G G' x→W.heap.size≤b→b < x.heap.size→b∉G':=fun {G' b} hw h1 h2 hm=>by
  rcases hw b hm with h | h
  ·exact nG b h1 h
  ·omega
 have lc0:=lt_of_heap c0
 have lc1:=lt_of_heap c1
 have lc2:=lt_of_heap c2
 cases Stand.of ht.wf hu.wf with
 | leaves h h' k v v' =>
  by_cases e:v=v'
  ·subst e
   have el:diffL (Tr.leaf h k v).pairs (Tr.leaf h' k v).pairs=[]:=diffL_self _
   refine sp_alike (PP:=fun y=>DR J W G j0 (.returned (.bool true)) y) hs2 hd2 x3 x4 x5 x6 x7 x8 c0 c1 c2 hq hq' rfl rfl ?_ (fin j0 (by rw [el]; rfl))
   rw [etn,eun]
   exact two dw fun G' d=>cAlikeE hT d
  ·have el:diffL (Tr.leaf h k v).pairs (Tr.leaf h' k v').pairs=[⟨k,some v,some v'⟩]:=by
    show diffL [(k,v)] [(k,v')]=_
    rw [diffL,if_neg (by omega),if_neg (by omega),if_neg e,diffL]
   rw [el] at hS
   refine sp_alike (PP:=fun y=>DR J W G (j0+1) (.returned (.bool true)) y) hs2 hd2 x3 x4 x5 x6 x7 x8 c0 c1 c2 hq hq' rfl rfl ?_ (fin (j0+1) (by rw [el]; rfl))
   rw [etn,eun]
   exact two dw fun G' d=>cAlikeD e hT hS d
 | nodes h h' pp b l r l' r' =>
  obtain ⟨w1,w2,w3,w4,w5,w6,w7,w8,wl,wr⟩:=id ht.wf
  obtain ⟨v1,v2,v3,v4,v5,v6,v7,v8,vl,vr⟩:=id hu.wf
  have hp:=Tr.pow_pos' pp
  have el:diffL (Tr.node h pp b l r).pairs (Tr.node h' pp b l' r').pairs=diffL l.pairs l'.pairs ++ diffL r.pairs r'.pairs:=by
   refine diffL_app _ _ fun x hx y hy=>?_
   have hx2:x.1 < b+2 ^ pp:=by
    rcases List.mem_append.1 hx with h | h
    ·have:=wl.mem x h; omega
    ·have:=vl.mem x h; omega
   have hy2:b+2 ^ pp≤y.1:=by
    rcases List.mem_append.1 hy with h | h
    ·have:=wr.mem y h; omega
    ·have:=vr.mem y h; omega
   omega
  rw [el] at hS
  obtain ⟨s1,s2⟩:=hS.split
  have cl:=l.cnt_pos
  have cr:=r.cnt_pos
  have cl':=l'.cnt_pos
  have cr':=r'.cnt_pos
  have e1:(Tr.node h pp b l r).cnt=l.cnt+r.cnt:=by simp [Tr.cnt,Tr.pairs]
  have e2:(Tr.node h' pp b l' r').cnt=l'.cnt+r'.cnt:=by simp [Tr.cnt,Tr.pairs]
  refine sp_alike (PP:=fun y=>DR J W G (j0+(diffL l.pairs l'.pairs).length+(diffL r.pairs r'.pairs).length) (.returned (.bool true)) y) hs2 hd2 x3 x4 x5 x6 x7 x8 c0 c1 c2 hq hq' rfl rfl ?_ (fin _ (by rw [el,List.length_append]; omega))
  rw [etn,eun]
  exact two dw fun G' d=>cAlikeN w2 w3 w1 hT d (fun y G2 d2=>IH l l' _ _ _ _ _ _ (by omega) ⟨wl,ht.rep.2.1,w5,by show l.hi≤b+2 ^ pp - 1; omega⟩ ⟨vl,hu.rep.2.1,v5,by show l'.hi≤b+2 ^ pp - 1; omega⟩ (.inl rfl) (.inl rfl) _ _ _ d2 s1) (fun y G2 d2=>IH r r' _ _ _ _ _ _ (by omega) ⟨wr,ht.rep.2.2,w7,by show r.hi≤b+2 * 2 ^ pp - 1; omega⟩ ⟨vr,hu.rep.2.2,v7,by show r'.hi≤b+2 * 2 ^ pp - 1; omega⟩ (.inl rfl) (.inl rfl) _ _ _ d2 s2)
 | left hlt =>
  have el:diffL t.pairs u.pairs=ofL 0 t.pairs ++ ofL 1 u.pairs:=diff_left fun x hx y hy=>by have:=ht.wf.mem x hx; have:=hu.wf.mem y hy; simp only at *; omega
  rw [el] at hS
  obtain ⟨s1,s2⟩:=hS.split
  have e1:(ofL 0 t.pairs).length=t.pairs.length:=by simp [ofL]
  have e2:(ofL 1 u.pairs).length=u.pairs.length:=by simp [ofL]
  rw [e1] at s2
  refine sp_left (PP:=fun y=>DR J W G (j0+t.pairs.length+u.pairs.length) (.returned (.bool true)) y) (P1:=fun y=>DW tb p F s J G x (j0+t.pairs.length) y) hs2 hd2 x3 x4 x5 x6 x7 x8 c0 c1 c2 hq hq' (by simp only at *; omega) hlt ?_ (fun y hy=>⟨hy.heap c0 (nG _ (by omega)),hy.heap c2 (nG _ (by omega))⟩) (fun y hy=>?_) (fin _ (by rw [el,List.length_append,e1,e2]; omega))
  ·rw [eth,etn]
   exact dw.call fun G' d=>cAll (.inl rfl) hO ht (.inr rfl) hT s1 d
  ·rw [euh,eun]
   exact two hy fun G' d=>cAll (.inr rfl) hO hu (.inr rfl) hT s2 d
 | right hlt =>
  have el:diffL t.pairs u.pairs=ofL 1 u.pairs ++ ofL 0 t.pairs:=diff_right fun y hy x hx=>by have:=ht.wf.mem x hx; have:=hu.wf.mem y hy; simp only at *; omega
  rw [el] at hS
  obtain ⟨s1,s2⟩:=hS.split
  have e1:(ofL 0 t.pairs).length=t.pairs.length:=by simp [ofL]
  have e2:(ofL 1 u.pairs).length=u.pairs.length:=by simp [ofL]
  rw [e2] at s2
  refine sp_right (PP:=fun y=>DR J W G (j0+u.pairs.length+t.pairs.length) (.returned (.bool true)) y) (P1:=fun y=>DW tb p F s J G x (j0+u.pairs.length) y) hs2 hd2 x3 x4 x5 x6 x7 x8 c0 c1 c2 hq hq' (by simp only at *; omega) (by simp only at *; omega) hlt ?_ (fun y hy=>⟨hy.heap c0 (nG _ (by omega)),hy.heap c1 (nG _ (by omega))⟩) (fun y hy=>?_) (fin _ (by rw [el,List.length_append,e1,e2]; omega))
  ·rw [euh,eun]
   exact dw.call fun G' d=>cAll (.inr rfl) hO hu (.inr rfl) hT s1 d
  ·rw [eth,etn]
   exact two hy fun G' d=>cAll (.inl rfl) hO ht (.inr rfl) hT s2 d
 | holdsL h pp b l r g1 g2 =>
  obtain ⟨w1,w2,w3,w4,w5,w6,w7,w8,wl,wr⟩:=id ht.wf
  have hp:=Tr.pow_pos' pp
  have e1:(Tr.node h pp b l r).cnt=l.cnt+r.cnt:=by simp [Tr.cnt,Tr.pairs]
  have cr:=r.cnt_pos
  have el:diffL (Tr.node h pp b l r).pairs u.pairs=diffL l.pairs u.pairs ++ ofL 0 r.pairs:=by
   have:=diffL_app (x2:=r.pairs) (y2:=[]) l.pairs u.pairs (fun x hx y hy=>by
    have hx2:x.1 < b+2 ^ pp:=by
     simp only [List.mem_append] at hx
     rcases hx with h | h
     ·have:=wl.mem x h; simp only at *; omega
     ·have:=hu.wf.mem x h; simp only at *; omega
    have hy2:b+2 ^ pp≤y.1:=by
     simp only [List.append_nil] at hy
     have:=wr.mem y hy; omega
    omega)
   rw [List.append_nil,diffL_old] at this
   exact this
  rw [el] at hS
  have e3:(ofL 0 r.pairs).length=r.pairs.length:=by simp [ofL]
  obtain ⟨s1,-⟩:=hS.split
  have z1:(Tr.node h pp b l r).lo=b:=rfl
  have z2:(Tr.node h pp b l r).hi=b+2 * 2 ^ pp - 1:=rfl
  simp only at lo1 lo2 g1 g2
  rw [euh,eun] at c2
  refine sp_holds (PP:=fun y=>DR J W G (j0+(diffL l.pairs u.pairs).length+r.pairs.length) (.returned (.bool true)) y) hs2 hd2 x3 x4 x5 x6 x7 x8 c0 c1 c2 hq hq' (by omega) (by omega) (by omega) (decide_eq_true (by omega)) (fun y hy=>?_) (fin _ (by rw [el,List.length_append,e3]; omega))
  rw [eth,etn]
  refine two2 (dw.still hT hy) fun G' hw d=>?_
  refine cHalvedL (.inl rfl) hO ht hT hS d g1 (by omega) ⟨_,_,Tryz.func97,by kernel_rfl,rfl⟩ (fun y2 G2 t2 w2' d2=>?_)
  exact cMet1 (t2.heap (hy.heap c0 (by simp)) (offX hw (by omega) lc0)) (t2.heap (hy.heap c2 (by simp)) (offX hw (by omega) lc2)) fun z hz=>d2.carry hT hz fun G3 d3=>IH l u _ _ _ _ _ _ (by omega) ⟨wl,ht.rep.2.1,w5,by show l.hi≤b+2 ^ pp - 1; omega⟩ hu (.inl rfl) (.inr rfl) _ _ _ d3 s1
 | holdsR h pp b l r g1 g2 =>
  obtain ⟨w1,w2,w3,w4,w5,w6,w7,w8,wl,wr⟩:=id ht.wf
  have hp:=Tr.pow_pos' pp
  have e1:(Tr.node h pp b l r).cnt=l.cnt+r.cnt:=by simp [Tr.cnt,Tr.pairs]
  have cr:=l.cnt_pos
  have el:diffL (Tr.node h pp b l r).pairs u.pairs=ofL 0 l.pairs ++ diffL r.pairs u.pairs:=by
   have:=diffL_app (x2:=r.pairs) (y2:=u.pairs) l.pairs [] (fun x hx y hy=>by
    have hx2:x.1 < b+2 ^ pp:=by
     simp only [List.append_nil] at hx
     have:=wl.mem x hx; omega
    have hy2:b+2 ^ pp≤y.1:=by
     simp only [List.mem_append] at hy
     rcases hy with h | h
     ·have:=wr.mem y h; simp only at *; omega
     ·have:=hu.wf.mem y h; simp only at *; omega
    omega)
   rw [List.nil_append,diffL_old] at this
   exact this
  rw [el] at hS
  have e3:(ofL 0 l.pairs).length=l.pairs.length:=by simp [ofL]
  obtain ⟨-,s2⟩:=hS.split
  rw [e3] at s2
  have z1:(Tr.node h pp b l r).lo=b:=rfl
  have z2:(Tr.node h pp b l r).hi=b+2 * 2 ^ pp - 1:=rfl
  simp only at lo1 lo2 g1 g2
  rw [euh,eun] at c2
  refine sp_holds (PP:=fun y=>DR J W G (j0+l.pairs.length+(diffL r.pairs u.pairs).length) (.returned (.bool true)) y) hs2 hd2 x3 x4 x5 x6 x7 x8 c0 c1 c2 hq hq' (by omega) (by omega) (by omega) (decide_eq_true (by omega)) (fun y hy=>?_) (fin _ (by rw [el,List.length_append,e3]; omega))
  rw [eth,etn]
  refine two2 (dw.still hT hy) fun G' hw d=>?_
  refine cHalvedR (.inl rfl) hO ht hT hS d g1 (by omega) ⟨_,_,Tryz.func97,by kernel_rfl,rfl⟩ (fun y2 G2 t2 w2' d2=>?_)
  exact cMet1 (t2.heap (hy.heap c0 (by simp)) (offX hw (by omega) lc0)) (t2.heap (hy.heap c2 (by simp)) (offX hw (by omega) lc2)) fun z hz=>d2.carry hT hz fun G3 d3=>IH r u _ _ _ _ _ _ (by omega) ⟨wr,ht.rep.2.2,w7,by show r.hi≤b+2 * 2 ^ pp - 1; omega⟩ hu (.inl rfl) (.inr rfl) _ _ _ d3 s2
 | withinL h pp b l r g1 g2 =>
  obtain ⟨w1,w2,w3,w4,w5,w6,w7,w8,wl,wr⟩:=id hu.wf
  have hp:=Tr.pow_pos' pp
  have e1:(Tr.node h pp b l r).cnt=l.cnt+r.cnt:=by simp [Tr.cnt,Tr.pairs]
  have cr:=r.cnt_pos
  have el:diffL t.pairs (Tr.node h pp b l r).pairs=diffL t.pairs l.pairs ++ ofL 1 r.pairs:=by
   have:=diffL_app (x2:=[]) (y2:=r.pairs) t.pairs l.pairs (fun x hx y hy=>by
    have hx2:x.1 < b+2 ^ pp:=by
     simp only [List.mem_append] at hx
     rcases hx with h | h
     ·have:=ht.wf.mem x h; simp only at *; omega
     ·have:=wl.mem x h; simp only at *; omega
    have hy2:b+2 ^ pp≤y.1:=by
     simp only [List.nil_append] at hy
     have:=wr.mem y hy; omega
    omega)
   rw [List.append_nil,diffL_new] at this
   exact this
  rw [el] at hS
  have e3:(ofL 1 r.pairs).length=r.pairs.length:=by simp [ofL]
  obtain ⟨s1,-⟩:=hS.split
  have z1:(Tr.node h pp b l r).lo=b:=rfl
  have z2:(Tr.node h pp b l r).hi=b+2 * 2 ^ pp - 1:=rfl
  simp only at lo1 lo2 g1 g2
  rw [eth,etn] at c1
  refine sp_within (PP:=fun y=>DR J W G (j0+(diffL t.pairs l.pairs).length+r.pairs.length) (.returned (.bool true)) y) hs2 hd2 x3 x4 x5 x6 x7 x8 c0 c1 c2 hq hq' (by omega) (by omega) (by omega) (decide_eq_false (by omega)) (fun y hy=>?_) (fin _ (by rw [el,List.length_append,e3]; omega))
  rw [euh,eun]
  refine two2 (dw.still hT hy) fun G' hw d=>?_
  refine cHalvedL (.inr rfl) hO hu hT hS d g1 (by omega) ⟨_,_,Tryz.func98,by kernel_rfl,rfl⟩ (fun y2 G2 t2 w2' d2=>?_)
  exact cMet2 (t2.heap (hy.heap c0 (by simp)) (offX hw (by omega) lc0)) (t2.heap (hy.heap c1 (by simp)) (offX hw (by omega) lc1)) fun z hz=>d2.carry hT hz fun G3 d3=>IH t l _ _ _ _ _ _ (by omega) ht ⟨wl,hu.rep.2.1,w5,by show l.hi≤b+2 ^ pp - 1; omega⟩ (.inr rfl) (.inl rfl) _ _ _ d3 s1
 | withinR h pp b l r g1 g2 =>
  obtain ⟨w1,w2,w3,w4,w5,w6,w7,w8,wl,wr⟩:=id hu.wf
  have hp:=Tr.pow_pos' pp
  have e1:(Tr.node h pp b l r).cnt=l.cnt+r.cnt:=by simp [Tr.cnt,Tr.pairs]
  have cr:=l.cnt_pos
  have el:diffL t.pairs (Tr.node h pp b l r).pairs=ofL 1 l.pairs ++ diffL t.pairs r.pairs:=by
   have:=diffL_app (x2:=t.pairs) (y2:=r.pairs) [] l.pairs (fun x hx y hy=>by
    have hx2:x.1 < b+2 ^ pp:=by
     simp only [List.nil_append] at hx
     have:=wl.mem x hx; omega
    have hy2:b+2 ^ pp≤y.1:=by
     simp only [List.mem_append] at hy
     rcases hy with h | h
     ·have:=ht.wf.mem y h; simp only at *; omega
     ·have:=wr.mem y h; simp only at *; omega
    omega)
   rw [List.nil_append,diffL_new] at this
   exact this
  rw [el] at hS
  have e3:(ofL 1 l.pairs).length=l.pairs.length:=by simp [ofL]
  obtain ⟨-,s2⟩:=hS.split
  rw [e3] at s2
  have z1:(Tr.node h pp b l r).lo=b:=rfl
  have z2:(Tr.node h pp b l r).hi=b+2 * 2 ^ pp - 1:=rfl
  simp only at lo1 lo2 g1 g2
  rw [eth,etn] at c1
  refine sp_within (PP:=fun y=>DR J W G (j0+l.pairs.length+(diffL t.pairs r.pairs).length) (.returned (.bool true)) y) hs2 hd2 x3 x4 x5 x6 x7 x8 c0 c1 c2 hq hq' (by omega) (by omega) (by omega) (decide_eq_false (by omega)) (fun y hy=>?_) (fin _ (by rw [el,List.length_append,e3]; omega))
  rw [euh,eun]
  refine two2 (dw.still hT hy) fun G' hw d=>?_
  refine cHalvedR (.inr rfl) hO hu hT hS d g1 (by omega) ⟨_,_,Tryz.func98,by kernel_rfl,rfl⟩ (fun y2 G2 t2 w2' d2=>?_)
  exact cMet2 (t2.heap (hy.heap c0 (by simp)) (offX hw (by omega) lc0)) (t2.heap (hy.heap c1 (by simp)) (offX hw (by omega) lc1)) fun z hz=>d2.carry hT hz fun G3 d3=>IH t r _ _ _ _ _ _ (by omega) ht ⟨wr,hu.rep.2.2,w7,by show r.hi≤b+2 * 2 ^ pp - 1; omega⟩ (.inr rfl) (.inl rfl) _ _ _ d3 s2
end
end Go.Proofs.YtloljphbdfjgdaaGreatDoor
/- Package trie's Diff: beside by contract; the iterator. -/
namespace Go.Proofs.YtloljphbdfjgdaaGreatDoor
open Go.RowKit
section
variable {tb p j0 N:Nat} {a1 b1 a2 b2:Int} {n1 n2:Value} {t u:Tr} {F:List Nat} {s:PSt} {W:World} {J:Nat→List Nat→World→Prop} {G:List Nat} {fy:FuncId} {cy:Array Value} {L:List Chn}
theorem cReadN (hT:TrieB W tb p) (hA:PoolAt W p F s) (hO:s.Ok) (ht:SpotOk s ⟨t,a1,b1⟩) (hn:NzOk ⟨t,a1,b1⟩ n1) :
  Calls Tryz.prog 53 #[pt tb,.pointer none,spV t.hd a1 b1 n1] W fun e w'=>e=.returned (.tuple #[spV t.hd a1 b1 (nv t),.int .i64 0])∧Turned [] W w':=by
 rcases hn with rfl | rfl
 ·exact cReadT hT hA hO ht.rep ht.wf ht.lo ht.hi
 ·obtain ⟨T,nvv,hnv⟩:=nv_form t
  show Calls _ _ #[pt tb,.pointer none,spV t.hd a1 b1 (nv t)] _ _
  rw [hnv]
  exact cReadD W
theorem spot_set {w:World} {b:Nat} {h x y h' x' y':Int} {n n':Value} (hb:w.heap[b]?=some (spO h x y n)):((((w.setCell ⟨b,0,none⟩ (.int .i64 h')).setCell ⟨b,1,none⟩ (.int .i64 x')).setCell ⟨b,2,none⟩ (.int .i64 y')).setCell ⟨b,3,none⟩ n').heap[b]?=some (spO h' x' y' n'):=by
 rw [blk_set (blk_set (blk_set (blk_set hb 0 _) 1 _) 2 _) 3 _]
 rfl
theorem spot_turned (w:World) (b:Nat) (h' x' y':Int) (n':Value):Turned [b] w ((((w.setCell ⟨b,0,none⟩ (.int .i64 h')).setCell ⟨b,1,none⟩ (.int .i64 x')).setCell ⟨b,2,none⟩ (.int .i64 y')).setCell ⟨b,3,none⟩ n'):=(((((Turned.refl _ _).set (.inl (by simp)) _ _).set (.inl (by simp)) _ _).set (.inl (by simp)) _ _).set (.inl (by simp)) _ _)
set_option maxRecDepth 100000 in
set_option maxHeartbeats 1600000 in
theorem cBesideS (hO:s.Ok) (hT:TakerC Tryz.prog L J fy cy) (IH:BOk L tb p F s J fy cy N) (hN:t.cnt+u.cnt≤N+1) (ht:SpotOk s ⟨t,a1,b1⟩) (hu:SpotOk s ⟨u,a2,b2⟩) (hn1:NzOk ⟨t,a1,b1⟩ n1) (hn2:NzOk ⟨u,a2,b2⟩ n2) (hD:DP tb p F s J j0 G W) (hS:Seg L j0 (diffL t.pairs u.pairs)) :
  Calls Tryz.prog 38 #[dfV tb fy cy,spV t.hd a1 b1 n1,spV u.hd a2 b2 n2] W (DR J W G (j0+(diffL t.pairs u.pairs).length)):=by
 have HT:Hid (TakerC Tryz.prog L J fy cy):=hT
 have HD:Hid (DP tb p F s J j0 G W):=hD
 by_cases he:t.hd=u.hd
 ·have htu:=Rep.det ht.rep hu.rep ht.wf hu.wf he
  subst htu
  rw [diffL_self]
  have HR:Hid (∀ x,Turned [] W x→DR J W G j0 (.returned (.bool true)) x):=fun x hx=>(DW.start (hD.still hT hx)).done hx
  obtain ⟨th,hth⟩:∃ x,x=t.hd:=⟨_,rfl⟩
  rw [← hth]
  show Calls _ _ _ _ (DR J W G j0)
  clear hth he ht hu hn1 hn2 hS hN IH hT hD hO
  go_enter Tryz.func38,Tryz.ntmps38
  go_wp2
  go_ret
  exact HR.out _ ((((Turned.refl _ _).alloc _).alloc _).alloc _)
 ·have hp1:=ht.rep.top.pos
  have hp2:=hu.rep.top.pos
  have HRa:Hid (∀ x,Turned [] W x→Calls Tryz.prog 53 #[pt tb,.pointer none,spV t.hd a1 b1 n1] x fun e w'=>e=.returned (.tuple #[spV t.hd a1 b1 (nv t),.int .i64 0])∧Turned [] x w'):=fun x hx=>cReadN (hD.tr.still hx) (hD.po.still hx) hO ht hn1
  have HRb:Hid (∀ x,Turned [] W x→Calls Tryz.prog 53 #[pt tb,.pointer none,spV u.hd a2 b2 n2] x fun e w'=>e=.returned (.tuple #[spV u.hd a2 b2 (nv u),.int .i64 0])∧Turned [] x w'):=fun x hx=>cReadN (hD.tr.still hx) (hD.po.still hx) hO hu hn2
  have HSp:Hid (∀ x,Turned [] W x→Calls Tryz.prog 69 #[dfV tb fy cy,spV t.hd a1 b1 (nv t),spV u.hd a2 b2 (nv u)] x fun e z=>e=.returned (.bool true)∧DR J W G (j0+(diffL t.pairs u.pairs).length) (.returned (.bool true)) z):=fun x hx=>hD.carry hT hx fun G' d=>cSpans hO hT IH hN ht hu d hS
  obtain ⟨th,hth⟩:∃ x,x=t.hd:=⟨_,rfl⟩
  obtain ⟨uh,huh⟩:∃ x,x=u.hd:=⟨_,rfl⟩
  obtain ⟨tT,tX,htn⟩:=nv_form t
  obtain ⟨uT,uX,hun⟩:=nv_form u
  rw [← hth] at he hp1 HRa HSp ⊢
  rw [← huh] at he hp2 HRb HSp ⊢
  rw [htn] at HRa HSp
  rw [hun] at HRb HSp
  have k1:(th == uh)=false:=by simpa using he
  have k2:(th == 0)=false:=by simp; omega
  have k3:(uh == 0)=false:=by simp; omega
  clear hth huh htn hun he ht hu hn1 hn2 hS hN IH hT hD hO hp1 hp2
  go_enter Tryz.func38,Tryz.ntmps38
  refine wp_seq_k fun K0 hK0=>?_
  have H0:Hid _:=hK0
  clear hK0
  go_wp2
  refine H0.out _ _ ?_
  clear H0 K0
  refine wp_seq_k fun K0 hK0=>?_
  have H0:Hid _:=hK0
  clear hK0
  go_wp2
  refine H0.out _ _ ?_
  clear H0 K0 k1 k2 k3
  have tA:Turned [] W (((W.alloc (dfO tb fy cy)).alloc (spO th a1 b1 n1)).alloc (spO uh a2 b2 n2)):=(((Turned.refl _ _).alloc _).alloc _).alloc _
  have z:∀ (w:World) (o:Obj) {n:Nat},w.heap.size=n→(w.alloc o).heap[n]?=some o:=fun w o n h=>by rw [← h]; exact blk_new w o
  have q0:(((W.alloc (dfO tb fy cy)).alloc (spO th a1 b1 n1)).alloc (spO uh a2 b2 n2)).heap[W.heap.size]?=some (dfO tb fy cy):=blk_old (blk_old (blk_new _ _) _) _
  have q1:(((W.alloc (dfO tb fy cy)).alloc (spO th a1 b1 n1)).alloc (spO uh a2 b2 n2)).heap[W.heap.size+1]?=some (spO th a1 b1 n1):=blk_old (z _ _ (by simp)) _
  have q2:(((W.alloc (dfO tb fy cy)).alloc (spO th a1 b1 n1)).alloc (spO uh a2 b2 n2)).heap[W.heap.size+1+1]?=some (spO uh a2 b2 n2):=z _ _ (by simp)
  generalize hw1:(World.alloc (World.alloc (World.alloc W _) _) _)=w1 at tA q0 q1 q2 ⊢
  clear hw1 z
  have c0:=cell_at q0 0
  have c1:=cell_at q0 1
  have d0:=cell_at q1 0
  have d1:=cell_at q1 1
  have d2:=cell_at q1 2
  have d3:=cell_at q1 3
  simp at c0 c1 d0 d1 d2 d3
  have HQ:Hid (Turned [] W w1∧w1.heap[W.heap.size]?=some (dfO tb fy cy)∧w1.heap[W.heap.size+1]?=some (spO th a1 b1 n1)∧w1.heap[W.heap.size+1+1]?=some (spO uh a2 b2 n2)):=⟨tA,q0,q1,q2⟩
  clear tA q0 q1 q2
  refine wp_seq_k fun K0 hK0=>?_
  have H0:Hid _:=hK0
  clear hK0
  have HP:=HRa.out w1 HQ.out.1
  go_wp2_with (go_at_call 53; refine HP.mono ?_; rintro e w2 ⟨rfl,ht2⟩; have r1:=ht2.heap HQ.out.2.2.1 (by simp); have z1:=froz_at r1; have e0:=cell_at r1 0; have e1:=cell_at r1 1; have e2:=cell_at r1 2; have e3:=cell_at r1 3; simp at e0 e1 e2 e3; have H2:Hid (Turned [] w1 w2):=ht2; clear HP ht2 r1 c0 c1 d0 d1 d2 d3)
  refine H0.out _ _ ?_
  clear H0 K0 e0 e1 e2 e3 z1
  obtain ⟨tA,q0,q1,q2⟩:=HQ.out
  have s1:=spot_set (h':=th) (x':=a1) (y':=b1) (n':=(.iface tT tX)) (H2.out.heap q1 (by simp))
  have t1:=spot_turned w2 (W.heap.size+1) th a1 b1 (.iface tT tX)
  generalize hw3:(World.setCell (World.setCell (World.setCell (World.setCell w2 _ _) _ _) _ _) _ _)=w3 at s1 t1 ⊢
  clear hw3
  have r0:=t1.heap (H2.out.heap q0 (by simp)) (by simp)
  have r2:=t1.heap (H2.out.heap q2 (by simp)) (by simp)
  have tB:Turned [] W w3:=(tA.trans H2.out).inner t1 (fun g hg=>by simp at hg; subst hg; exact .inr (by omega))
  clear tA q0 q1 q2 HQ H2 t1
  have c0:=cell_at r0 0
  have c1:=cell_at r0 1
  have d0:=cell_at r2 0
  have d1:=cell_at r2 1
  have d2:=cell_at r2 2
  have d3:=cell_at r2 3
  simp at c0 c1 d0 d1 d2 d3
  have HQ:Hid (Turned [] W w3∧w3.heap[W.heap.size]?=some (dfO tb fy cy)∧w3.heap[W.heap.size+1]?=some (spO th a1 b1 (.iface tT tX))∧w3.heap[W.heap.size+1+1]?=some (spO uh a2 b2 n2)):=⟨tB,r0,s1,r2⟩
  clear tB r0 s1 r2
  refine wp_seq_k fun K0 hK0=>?_
  have H0:Hid _:=hK0
  clear hK0
  go_wp2
  refine H0.out _ _ ?_
  clear H0 K0
  refine wp_seq_k fun K0 hK0=>?_
  have H0:Hid _:=hK0
  clear hK0
  have HP:=HRb.out w3 HQ.out.1
  go_wp2_with (go_at_call 53; refine HP.mono ?_; rintro e w4 ⟨rfl,ht4⟩; have r1:=ht4.heap HQ.out.2.2.2 (by simp); have z1:=froz_at r1; have e0:=cell_at r1 0; have e1:=cell_at r1 1; have e2:=cell_at r1 2; have e3:=cell_at r1 3; simp at e0 e1 e2 e3; have H2:Hid (Turned [] w3 w4):=ht4; clear HP ht4 r1 c0 c1 d0 d1 d2 d3)
  refine H0.out _ _ ?_
  clear H0 K0 e0 e1 e2 e3 z1
  obtain ⟨tA,q0,q1,q2⟩:=HQ.out
  have s2:=spot_set (h':=uh) (x':=a2) (y':=b2) (n':=(.iface uT uX)) (H2.out.heap q2 (by simp))
  have t1:=spot_turned w4 (W.heap.size+1+1) uh a2 b2 (.iface uT uX)
  generalize hw5:(World.setCell (World.setCell (World.setCell (World.setCell w4 _ _) _ _) _ _) _ _)=w5 at s2 t1 ⊢
  clear hw5
  have r0:=t1.heap (H2.out.heap q0 (by simp)) (by simp; omega)
  have r1:=t1.heap (H2.out.heap q1 (by simp)) (by simp)
  have tB:Turned [] W w5:=(tA.trans H2.out).inner t1 (fun g hg=>by simp at hg; subst hg; exact .inr (by omega))
  clear tA q0 q1 q2 HQ H2 t1
  have c0:=cell_at r0 0
  have c1:=cell_at r0 1
  have c2:=cell_at r0 2
  have d0:=cell_at r1 0
  have d1:=cell_at r1 1
  have d2:=cell_at r1 2
  have d3:=cell_at r1 3
  have e0:=cell_at s2 0
  have e1:=cell_at s2 1
  have e2:=cell_at s2 2
  have e3:=cell_at s2 3
  simp at c0 c1 c2 d0 d1 d2 d3 e0 e1 e2 e3
  have HP:=HSp.out w5 tB
  clear tB r0 r1 s2
  go_wp2_with (go_at_call 69; refine HP.mono ?_; rintro e z ⟨rfl,hz⟩; have HZ:Hid (DR J W G (j0+(diffL t.pairs u.pairs).length) (.returned (.bool true)) z):=hz; clear hz HP)
  go_ret
  exact HZ.out
theorem bOk (hO:s.Ok) (hT:TakerC Tryz.prog L J fy cy) (N:Nat):BOk L tb p F s J fy cy N:=by
 induction N with
 | zero =>
  intro t u a1 b1 a2 b2 n1 n2 hN
  have:=t.cnt_pos
  omega
 | succ N ih =>
  intro t u a1 b1 a2 b2 n1 n2 hN ht hu hn1 hn2 j G W hD hS
  exact cBesideS hO hT ih hN ht hu hn1 hn2 hD hS
end
end Go.Proofs.YtloljphbdfjgdaaGreatDoor
/- Package trie's Diff: two roots; the iterator. -/
namespace Go.Proofs.YtloljphbdfjgdaaGreatDoor
open Go.RowKit
section
variable {tb p j0:Nat} {t u:Tr} {oa ob:Option Tr} {F:List Nat} {s:PSt} {W:World} {J:Nat→List Nat→World→Prop} {G:List Nat} {fy:FuncId} {cy:Array Value} {L:List Chn}
theorem spotTop (h:Holds s (some t)):SpotOk s ⟨t,0,4294967295⟩:=by
 have hw:=h.wf t rfl
 have hsp:=hw.span
 exact ⟨hw,h.rep t rfl,hsp.1,hsp.2.2⟩
set_option maxRecDepth 100000 in
set_option maxHeartbeats 1600000 in
theorem cBesideO (hO:s.Ok) (hT:TakerC Tryz.prog L J fy cy) (ha:Holds s oa) (hb:Holds s ob) (hD:DP tb p F s J j0 G W) (hS:Seg L j0 (diffL (prs oa) (prs ob))) :
  Calls Tryz.prog 38 #[dfV tb fy cy,spV (rootO oa) 0 4294967295 .nilIface,spV (rootO ob) 0 4294967295 .nilIface] W (DR J W G (j0+(diffL (prs oa) (prs ob)).length)):=by
 rcases oa with _ | t <;> rcases ob with _ | u
 ·have HR:Hid (∀ x,Turned [] W x→DR J W G j0 (.returned (.bool true)) x):=fun x hx=>(DW.start (hD.still hT hx)).done hx
  have e:diffL (prs none) (prs none)=[]:=diffL_self _
  rw [e]
  show Calls _ _ #[dfV tb fy cy,spV 0 0 4294967295 .nilIface,spV 0 0 4294967295 .nilIface] _ (DR J W G j0)
  clear ha hb hS hT hD hO e
  go_enter Tryz.func38,Tryz.ntmps38
  go_wp2
  go_ret
  exact HR.out _ ((((Turned.refl _ _).alloc _).alloc _).alloc _)
 ·have hp:=(hb.rep u rfl).top.pos
  have e:diffL (prs none) (prs (some u))=newL u.pairs:=diffL_new _
  rw [e] at hS ⊢
  have HA:Hid (∀ x,Turned [] W x→Calls Tryz.prog 67 #[dfV tb fy cy,spV u.hd 0 4294967295 .nilIface,.int .i64 1] x fun e z=>e=.returned (.bool true)∧DR J W G (j0+(newL u.pairs).length) (.returned (.bool true)) z):=fun x hx=>hD.carry hT hx fun G' d=>by
   rw [List.length_map]
   exact cAll (y:=⟨u,0,4294967295⟩) (.inr rfl) hO (spotTop hb) (.inl rfl) hT hS d
  show Calls _ _ #[dfV tb fy cy,spV 0 0 4294967295 .nilIface,spV u.hd 0 4294967295 .nilIface] _ _
  obtain ⟨uh,huh⟩:∃ x,x=u.hd:=⟨_,rfl⟩
  rw [← huh] at HA hp ⊢
  have k1:((0:Int) == uh)=false:=by simp; omega
  clear ha hb hS hT hD hO huh hp e
  have HP:=HA.out (((W.alloc (dfO tb fy cy)).alloc (spO 0 0 4294967295 .nilIface)).alloc (spO uh 0 4294967295 .nilIface)) ((((Turned.refl _ _).alloc _).alloc _).alloc _)
  go_enter Tryz.func38,Tryz.ntmps38
  go_wp2_with (go_at_call 67; refine HP.mono ?_; rintro e z ⟨rfl,hz⟩; have HZ:Hid (DR J W G (j0+(newL u.pairs).length) (.returned (.bool true)) z):=hz; clear hz HP)
  go_ret
  exact HZ.out
 ·have hp:=(ha.rep t rfl).top.pos
  have e:diffL (prs (some t)) (prs none)=oldL t.pairs:=diffL_old _
  rw [e] at hS ⊢
  have HA:Hid (∀ x,Turned [] W x→Calls Tryz.prog 67 #[dfV tb fy cy,spV t.hd 0 4294967295 .nilIface,.int .i64 0] x fun e z=>e=.returned (.bool true)∧DR J W G (j0+(oldL t.pairs).length) (.returned (.bool true)) z):=fun x hx=>hD.carry hT hx fun G' d=>by
   rw [List.length_map]
   exact cAll (y:=⟨t,0,4294967295⟩) (.inl rfl) hO (spotTop ha) (.inl rfl) hT hS d
  show Calls _ _ #[dfV tb fy cy,spV t.hd 0 4294967295 .nilIface,spV 0 0 4294967295 .nilIface] _ _
  obtain ⟨th,hth⟩:∃ x,x=t.hd:=⟨_,rfl⟩
  rw [← hth] at HA hp ⊢
  have k1:(th == (0:Int))=false:=by simp; omega
  clear ha hb hS hT hD hO hth hp e
  have HP:=HA.out (((W.alloc (dfO tb fy cy)).alloc (spO th 0 4294967295 .nilIface)).alloc (spO 0 0 4294967295 .nilIface)) ((((Turned.refl _ _).alloc _).alloc _).alloc _)
  go_enter Tryz.func38,Tryz.ntmps38
  go_wp2_with (go_at_call 67; refine HP.mono ?_; rintro e z ⟨rfl,hz⟩; have HZ:Hid (DR J W G (j0+(oldL t.pairs).length) (.returned (.bool true)) z):=hz; clear hz HP)
  go_ret
  exact HZ.out
 ·exact bOk hO hT _ t u _ _ _ _ _ _ (Nat.le_refl _) (spotTop ha) (spotTop hb) (.inl rfl) (.inl rfl) _ _ _ hD hS
theorem wp_lastN {P:Program} {c:Code} {Q:Exit→Act→World→Prop} {a:Act} {w:World} (h:c.wp P (Exit.then (Q .normal) Q) a w):c.wp P Q a w:=Code.wp_mono (fun e a w h=>by cases e <;> exact h) h
structure DBox (b1 b2 b3 b4 tb:Nat) (ra rb:Int) (W:World):Prop where
 h1:W.heap[b1]?=some (.cells #[.pointer (some ⟨tb,0,none⟩)] 29 (0,0))
 h2:W.heap[b2]?=some (.cells #[.pointer none] 111 (0,0))
 h3:W.heap[b3]?=some (.cells #[.int .i64 ra] 3 (0,0))
 h4:W.heap[b4]?=some (.cells #[.int .i64 rb] 3 (0,0))
theorem DBox.still {b1 b2 b3 b4 tb:Nat} {ra rb:Int} {W W':World} (h:DBox b1 b2 b3 b4 tb ra rb W) (ht:Turned [] W W'):DBox b1 b2 b3 b4 tb ra rb W':=⟨ht.heap h.h1 (by simp),ht.heap h.h2 (by simp),ht.heap h.h3 (by simp),ht.heap h.h4 (by simp)⟩
set_option maxRecDepth 100000 in
set_option maxHeartbeats 1600000 in
theorem cDiff1 {b1 b2 b3 b4:Nat} (hO:s.Ok) (hT:TakerC Tryz.prog (diffL (prs oa) (prs ob)) J fy cy) (ha:Holds s oa) (hb:Holds s ob) (hD:DP tb p F s J 0 G W) (hB:DBox b1 b2 b3 b4 tb (rootO oa) (rootO ob) W) (n1:b1∉G) (n2:b2∉G) (n3:b3∉G) (n4:b4∉G) :
  Calls Tryz.prog 37 #[.func (.func fy) #[] cy,.pointer (some ⟨b1,0,none⟩),.pointer (some ⟨b2,0,none⟩),.pointer (some ⟨b3,0,none⟩),.pointer (some ⟨b4,0,none⟩)] W fun e w2=>e=.returned (.tuple #[])∧Turned G W w2∧∃ G',J (diffL (prs oa) (prs ob)).length G' w2∧Wider G G' W:=by
 have HB:Hid _:=hB
 have HD:Hid _:=hD
 have HT:Hid _:=hT
 have HC:Hid (∀ x G',DP tb p F s J 0 G' x→Calls Tryz.prog 38 #[dfV tb fy cy,spV (rootO oa) 0 4294967295 .nilIface,spV (rootO ob) 0 4294967295 .nilIface] x (DR J x G' (0+(diffL (prs oa) (prs ob)).length))):=fun x G' d=>cBesideO hO hT ha hb d ⟨[],by simp⟩
 clear hB hD hT hO ha hb
 go_enter Tryz.func37,Tryz.ntmps37
 refine wp_lastN ?_
 refine diff_r0 (b1:=b1) (b2:=b2) (b3:=b3) (b4:=b4) (tb:=tb) (ra:=rootO oa) (rb:=rootO ob) (fy:=fy) (cy:=cy) (Ph:=fun g _ x=>DW tb p F s J G W (if g=0 then 0 else 0+(diffL (prs oa) (prs ob)).length) x) rfl rfl rfl rfl rfl rfl (fun g u x hx=>⟨cell_at (hx.heap HB.out.h1 n1) 0,cell_at (hx.heap HB.out.h2 n2) 0,cell_at (hx.heap HB.out.h3 n3) 0,cell_at (hx.heap HB.out.h4 n4) 0⟩) ((DW.start HD.out).still HT.out (Turned.refl _ _).drew) (fun g u x hx=>(cRootSpot _ x).mono fun e w' hh=>⟨hh.1,hx.still HT.out hh.2⟩) (fun g u x hx=>(cRootSpot _ x).mono fun e w' hh=>⟨hh.1,hx.still HT.out hh.2⟩) (fun u x hx=>hx.call fun G' d=>HC.out x G' d) ?_
 intro a' x u hs hd hoff hx
 have hd2:a'.defers=[]:=hd
 obtain ⟨-,hr⟩:=hx.done (Turned.refl _ _)
 rw [Nat.zero_add] at hr
 exact ⟨hd2,.tuple #[],by simp [results,Tryz.results37],rfl,hr⟩
theorem cDiffMk (tb:Nat) (ra rb:Int) (w:World):Calls Tryz.prog 14 #[pt tb,.pointer none,.int .i64 ra,.int .i64 rb] w fun e w'=>e=.returned (.func (.func 37) #[] #[.pointer (some ⟨w.heap.size,0,none⟩),.pointer (some ⟨w.heap.size+1,0,none⟩),.pointer (some ⟨w.heap.size+1+1,0,none⟩),.pointer (some ⟨w.heap.size+1+1+1,0,none⟩)])∧Turned [] w w'∧DBox w.heap.size (w.heap.size+1) (w.heap.size+1+1) (w.heap.size+1+1+1) tb ra rb w'∧w'.heap.size=w.heap.size+4:=by
 go_enter Tryz.func14,Tryz.ntmps14
 go_wp2
 go_ret
 refine ⟨rfl,(((((Turned.refl _ _).alloc _).alloc _).alloc _).alloc _),?_,by simp⟩
 have z:∀ (w:World) (o:Obj) {n:Nat},w.heap.size=n→(w.alloc o).heap[n]?=some o:=fun w o n h=>by rw [← h]; exact blk_new w o
 exact ⟨blk_old (blk_old (blk_old (blk_new _ _) _) _) _,blk_old (blk_old (z _ _ (by simp)) _) _,blk_old (z _ _ (by simp)) _,z _ _ (by simp)⟩
end
end Go.Proofs.YtloljphbdfjgdaaGreatDoor
/- What an iterator of changes gives, gathered: all of it. -/
namespace Go.Proofs.YtloljphbdfjgdaaGreatDoor
open Go.RowKit
def rowC (c:Chn):List Value:=[.int .i64 c.k,.int .i64 (c.o.getD 0),.int .i64 (c.n.getD 0),.bool c.o.isSome,.bool c.n.isSome]
theorem rowsC_len (R:List Chn):(R.flatMap rowC).length=R.length * 5:=by
 induction R with
 | nil=>rfl
 | cons x l ih=>rw [List.flatMap_cons,List.length_append,ih,List.length_cons]; simp only [rowC,List.length_cons,List.length_nil]; omega
structure CR (B:Nat) (w:World) (v:Value) (R:List Chn):Prop where
 own:w.ownsRow B 51 5 v R.length (R.flatMap rowC)
section
variable {B:Nat} {w w':World} {v:Value} {R:List Chn}
theorem CR.nil (B:Nat) (w:World):CR B w (.slice none 0 0) []:=⟨World.ownsRow_nil _ _ _ _⟩
theorem CR.keep {F:List Nat} (h:CR B w v R) (ht:Turned F w w') (hF:∀ g,v.ownBlock=some g→g∉F):CR B w' v R:=by
 refine ⟨h.own.1,?_⟩
 rcases h.own.2 with h0 | ⟨g,c,cs,rfl,hb,hg,h3⟩
 ·exact .inl h0
 ·exact .inr ⟨g,c,cs,rfl,hb,ht.heap hg (hF g rfl),h3⟩
theorem CR.still (h:CR B w v R) (ht:Turned [] w w'):CR B w' v R:=h.keep ht (by simp)
theorem CR.form (h:CR B w v R):∃ a c,v=.slice a R.length c:=by
 rcases h.own.2 with ⟨rfl,h0⟩ | ⟨g,c,cs,rfl,_⟩
 ·exact ⟨none,0,by rw [h0]⟩
 ·exact ⟨_,_,rfl⟩
theorem CR.fresh (h:CR B w v R) {g:Nat} (hg:v.ownBlock=some g):B≤g∧g < w.heap.size:=h.own.lt g hg
theorem CR.type (h:CR B w v R) {g:Nat} (hg:v.ownBlock=some g):∃ cs,w.heap[g]?=some (.cells cs 51 (0,0)):=by
 rcases h.own.2 with ⟨rfl,h0⟩ | ⟨g',c,cs,rfl,hb,hg',h3⟩
 ·cases hg
 ·cases hg; exact ⟨cs,hg'⟩
theorem CR.somes {x:Chn} (h:CR B w v (R ++ [x])):∃ g c,v=.slice (some ⟨g,0,none⟩) (R.length+1) c:=by
 rcases h.own.2 with ⟨_,e⟩ | ⟨g,c,cs,rfl,_⟩
 ·simp at e
 ·exact ⟨g,c,by simp⟩
theorem CR.isAt (h:CR B w v R) {k:Nat} (hk:k < R.length):∃ g c cs,v=.slice (some ⟨g,0,none⟩) R.length c∧w.heap[g]?=some (.cells cs 51 (0,0))∧∀ j,j < 5→w.cell? ⟨g,k * 5+j,none⟩=(rowC R[k])[j]?:=by
 rcases h.own.2 with ⟨rfl,h0⟩ | ⟨g,c,cs,rfl,hb,hg,h3⟩
 ·omega
 ·refine ⟨g,c,cs,rfl,hg,fun j hj=>?_⟩
  rw [h.own.cellAt _ (by omega)]
  have e:R=R.take k ++ R[k] :: R.drop (k+1):=by rw [← List.drop_eq_getElem_cons hk,List.take_append_drop]
  have hl:((R.take k).flatMap rowC).length=k * 5:=by rw [rowsC_len,List.length_take,Nat.min_eq_left (by omega)]
  have:(R.flatMap rowC)[k * 5+j]?=((R.take k).flatMap rowC ++ (rowC R[k] ++ (R.drop (k+1)).flatMap rowC))[k * 5+j]?:=by
   conv=>lhs; rw [e]
   rw [List.flatMap_append,List.flatMap_cons]
  rw [this,List.getElem?_append_right (by omega),hl,show k * 5+j - k * 5=j by omega,List.getElem?_append_left (by simp only [rowC,List.length_cons,List.length_nil]; omega)]
end
theorem infoChn:(Tryz.prog.info? 51).map (fun i=>(i.zero,i.size,i.bytes))=some (some (.agg #[.int .i64 0,.int .i64 0,.int .i64 0,.bool false,.bool false]),5,32):=by kernel_rfl
theorem undChns:Tryz.prog.underlying 47=some (.slice 51):=by kernel_rfl
theorem wpList_apChn {w:World} {ops:Array Oper} {rest:List Oper} {o:Oper} {a:Act} {Q:Exit→Act→World→Prop} {B:Nat} {v:Value} {r:Chn} {R:List Chn} {g:Nat} (hgd:o.guard=none) (p q:Operand) (ho:o.op=.call { callee:=.builtin .append,args:=#[p,q],argTypes:=#[47,47] })
  (hs:a.eval p=v) (hR:CR B w v R) (hy:a.eval q=.slice (some ⟨g,0,none⟩) 1 1) (hg:w.heap[g]?=some (.cells #[.int .i64 r.k,.int .i64 (r.o.getD 0),.int .i64 (r.n.getD 0),.bool r.o.isSome,.bool r.n.isSome] 51 (0,0))) (hm:R.length≤1000000) (hB:B≤w.heap.size)
  (h:∀ v' w',CR B w' v' (R ++ [r])→Turned v.ownBlock.toList w w'→(v'.ownBlock=v.ownBlock∨v'.ownBlock=some w.heap.size)→wpList Tryz.prog ops Q rest (a.put o.dst v') w'):wpList Tryz.prog ops Q (o :: rest) a w:=by
 obtain ⟨i,hi,hzz⟩:=Option.map_eq_some_iff.1 infoChn
 simp only [Prod.mk.injEq] at hzz
 obtain ⟨hz,hs1,hb⟩:=hzz
 refine wpList_plain hgd fun K hK=>?_
 obtain ⟨v',w',hrun,h2,h3,h4,h5⟩:=run_append_own_at (P:=Tryz.prog) w B 47 o.type 51 i _ 5 32 undChns hi hz hs1 hb rfl (by decide) v R.length (R.flatMap rowC) hR.own ⟨g,0,none⟩ 1 1 (rowC r) rfl (fun j u hj=>by
  have hadd:(⟨g,0,none⟩:Addr).add j=⟨g,j,none⟩:=by unfold Addr.add; split <;> simp_all
  rw [hadd,cell_at hg j]
  simpa [rowC] using hj) (fun u hu=>by
   simp only [rowC,List.mem_cons,List.not_mem_nil,or_false] at hu
   rcases hu with rfl | rfl | rfl | rfl | rfl <;> rfl) (by unfold maxLen; omega) (by omega) hB
 unfold Oper.wp execOp
 simp only [ho,resolve,invoke,builtin,Sem.run_bind,Sem.run_pure,Result.andThen_ok,List.map_toArray,List.map_cons,List.map_nil,hs,hy,hrun]
 exact hK _ _ (h v' w' ⟨by rw [show (R ++ [r]).length=R.length+1 by simp,show (R ++ [r]).flatMap rowC=R.flatMap rowC ++ rowC r by simp]; exact h2⟩ ⟨h3.os,h3.tape,h3.output,h3.size,fun k hk hn=>h3.block k hk fun e=>hn (by rw [← e]; simp)⟩ h5)
structure Gd (B:Nat) (w:World) (b3 b7 b8 b9 b10:Nat) (v:Value) (l:List Chn):Prop where
 c3:w.heap[b3]?=some (.cells #[.int .i64 (-1)] 3 (0,0))
 c7:w.heap[b7]?=some (.cells #[v] 47 (0,0))
 c8:w.heap[b8]?=some (.cells #[.int .i64 0] 3 (0,0))
 c9:w.heap[b9]?=some (.cells #[.bool true] 4 (0,0))
 c10:w.heap[b10]?=some (.cells #[.bool false] 4 (0,0))
 row:CR B w v l
 base:B≤w.heap.size
 n9:b9≠b10
theorem Gd.apart {B:Nat} {w:World} {b3 b7 b8 b9 b10:Nat} {v:Value} {l:List Chn} (h:Gd B w b3 b7 b8 b9 b10 v l):(b7≠b3∧b7≠b8∧b7≠b9∧b7≠b10)∧(b10≠b3∧b10≠b8)∧b9≠b10∧∀ g,v.ownBlock=some g→g≠b3∧g≠b7∧g≠b8∧g≠b9∧g≠b10:=by
 refine ⟨⟨type_ne h.c7 h.c3 (by decide),type_ne h.c7 h.c8 (by decide),type_ne h.c7 h.c9 (by decide),type_ne h.c7 h.c10 (by decide)⟩,⟨type_ne h.c10 h.c3 (by decide),type_ne h.c10 h.c8 (by decide)⟩,h.n9,fun g hg=>?_⟩
 obtain ⟨cs,hc⟩:=h.row.type hg
 exact ⟨type_ne hc h.c3 (by decide),type_ne hc h.c7 (by decide),type_ne hc h.c8 (by decide),type_ne hc h.c9 (by decide),type_ne hc h.c10 (by decide)⟩
theorem Gd.next {B:Nat} {w w1:World} {b3 b7 b8 b9 b10:Nat} {v v1:Value} {l m:List Chn} (h:Gd B w b3 b7 b8 b9 b10 v l) (hT:Turned v.ownBlock.toList w w1) (hR:CR B w1 v1 m) :
  Gd B ((w1.setCell ⟨b7,0,none⟩ v1).setCell ⟨b10,0,none⟩ (.bool false)) b3 b7 b8 b9 b10 v1 m∧Turned (b7 :: b10 :: v.ownBlock.toList) w ((w1.setCell ⟨b7,0,none⟩ v1).setCell ⟨b10,0,none⟩ (.bool false)):=by
 obtain ⟨⟨d73,d78,d79,d710⟩,⟨d103,d108⟩,d910,hown⟩:=h.apart
 have a3:=hT.heap h.c3 (nin hown fun q=>q.1)
 have a7:=hT.heap h.c7 (nin hown fun q=>q.2.1)
 have a8:=hT.heap h.c8 (nin hown fun q=>q.2.2.1)
 have a9:=hT.heap h.c9 (nin hown fun q=>q.2.2.2.1)
 have a10:=hT.heap h.c10 (nin hown fun q=>q.2.2.2.2)
 have ht2:Turned [b7,b10] w1 ((w1.setCell ⟨b7,0,none⟩ v1).setCell ⟨b10,0,none⟩ (.bool false)):=((Turned.refl _ _).set (.inl (by simp)) _ _).set (.inl (by simp)) _ _
 refine ⟨⟨?_,?_,?_,?_,?_,hR.keep ht2 fun g hg hm=>?_,Nat.le_trans h.base (Nat.le_trans hT.size ht2.size),h.n9⟩,?_⟩
 ·exact ht2.heap a3 (by simp; exact ⟨fun e=>d73 e.symm,fun e=>d103 e.symm⟩)
 ·rw [blk_other d710,blk_set a7]; rfl
 ·exact ht2.heap a8 (by simp; exact ⟨fun e=>d78 e.symm,fun e=>d108 e.symm⟩)
 ·exact ht2.heap a9 (by simp; exact ⟨fun e=>d79 e.symm,d910⟩)
 ·have:(w1.setCell ⟨b7,0,none⟩ v1).heap[b10]?=some (.cells #[.bool false] 4 (0,0)):=by rw [blk_other (fun e=>d710 e.symm)]; exact a10
  rw [blk_set this]; rfl
 ·obtain ⟨cs,hc⟩:=hR.type hg
  simp only [List.mem_cons,List.not_mem_nil,or_false] at hm
  rcases hm with rfl | rfl
  ·exact type_ne hc a7 (by decide) rfl
  ·exact type_ne hc a10 (by decide) rfl
 ·exact (hT.mono fun x hx=>by simp [hx]).trans (ht2.mono fun x hx=>by simp only [List.mem_cons,List.not_mem_nil,or_false] at hx; rcases hx with rfl | rfl <;> simp)
section
variable {B:Nat} {w:World} {b3 b7 b8 b9 b10:Nat} {v:Value} {l:List Chn}
set_option maxRecDepth 100000 in
set_option maxHeartbeats 1600000 in
theorem cGive1D (h:Gd B w b3 b7 b8 b9 b10 v l) (hl:l.length≤1000000) (c:Chn):Calls Tryz.prog 36 #[chnV c,.int .i64 0,pt b10,pt b9,pt b8,pt b7,pt b3] w fun e w'=>e=.returned (.bool true)∧∃ v',Gd B w' b3 b7 b8 b9 b10 v' (l ++ [c])∧Turned (b7 :: b10 :: v.ownBlock.toList) w w'∧(v'.ownBlock=v.ownBlock∨∃ g,v'.ownBlock=some g∧w.heap.size≤g):=by
 have l3:=lt_of_heap h.c3
 have l7:=lt_of_heap h.c7
 have l8:=lt_of_heap h.c8
 have l9:=lt_of_heap h.c9
 have l10:=lt_of_heap h.c10
 obtain ⟨d7,d10,d9,hown⟩:=h.apart
 have HD:Hid _:=h.apart
 have HG:Hid _:=h
 have q10:w.cell? ⟨b10,0,none⟩=some (.bool false):=cell_at h.c10 0
 have q3:w.cell? ⟨b3,0,none⟩=some (.int .i64 (-1)):=cell_at h.c3 0
 have HL:Hid (l.length≤1000000):=hl
 have HB:Hid (∀ o1 o2,B≤((w.alloc o1).alloc o2).heap.size):=fun o1 o2=>Nat.le_trans h.base (by simp; omega)
 have q7:w.cell? ⟨b7,0,none⟩=some v:=cell_at h.c7 0
 have z10:=froz_at h.c10
 have z7:=froz_at h.c7
 have e1:¬ b7=b3:=d7.1
 have e2:¬ b3=b7:=fun e=>d7.1 e.symm
 have e3:¬ b7=b10:=d7.2.2.2
 have e4:¬ b10=b7:=fun e=>d7.2.2.2 e.symm
 have e5:¬ b10=b3:=d10.1
 have e6:¬ b3=b10:=fun e=>d10.1 e.symm
 have e7:¬ (l.length:Int)+1=-1:=by omega
 have e8:((l.length:Int)+1 == -1)=false:=by simpa using e7
 clear h d7 d10 d9 hown
 show Calls _ _ #[.agg #[.int .i64 c.k,.int .i64 (c.o.getD 0),.int .i64 (c.n.getD 0),.bool c.o.isSome,.bool c.n.isSome],.int .i64 0,pt b10,pt b9,pt b8,pt b7,pt b3] _ _
 go_enter Tryz.func36,Tryz.ntmps36
 go_wp2_with (first
  | (go_at_call 7; refine (cNum _ _).mono ?_; rintro e w' ⟨rfl,hw⟩; obtain rfl:=hw.symm)
  | (at_builtin; refine wpList_apChn (B:=B) (v:=v) (R:=l) (r:=c) (g:=w.heap.size+1) rfl _ _ rfl rfl (HG.out.row.keep (F:=[]) (((Turned.refl _ _).alloc _).alloc _) (by simp)) rfl (blk_new1 _ _ _) HL.out (HB.out _ _) ?_; intro v1 w1 hr1 ht1 ho1; obtain ⟨g1,c1,hv1⟩:=hr1.somes; subst hv1; have HR1:Hid _:=hr1; have HT1:Hid (Turned v.ownBlock.toList w w1):=(((Turned.refl _ _).alloc _).alloc _).trans ht1; have HO1:Hid _:=ho1; clear hr1 ht1 ho1; have k7:=HT1.out.cell q7 (nin HD.out.2.2.2 fun q=>q.2.1); have k10:=HT1.out.cell q10 (nin HD.out.2.2.2 fun q=>q.2.2.2.2); have k3:=HT1.out.cell q3 (nin HD.out.2.2.2 fun q=>q.1); have y7:=froz_at (HT1.out.heap HG.out.c7 (nin HD.out.2.2.2 fun q=>q.2.1)); have y10:=froz_at (HT1.out.heap HG.out.c10 (nin HD.out.2.2.2 fun q=>q.2.2.2.2)); have m3:=Nat.lt_of_lt_of_le l3 HT1.out.size; clear q7 q10 q3 z7 z10))
 go_ret
 have hn:=HG.out.next HT1.out HR1.out
 refine ⟨rfl,_,hn.1,hn.2,?_⟩
 rcases HO1.out with h1 | h1
 ·exact .inl h1
 ·exact .inr ⟨_,h1,by simp; omega⟩
end
theorem takerD (B b3 b7 b8 b9 b10:Nat) (L:List Chn) (hL:L.length≤1000000):TakerC Tryz.prog L (fun j G w=>∃ v,Gd B w b3 b7 b8 b9 b10 v (L.take j)∧G=b3 :: b7 :: b8 :: b9 :: b10 :: v.ownBlock.toList) 36 #[pt b10,pt b9,pt b8,pt b7,pt b3] where
 ent:=⟨_,_,Tryz.func36,by kernel_rfl,rfl⟩
 keep:=by
  rintro j G w2 l w3 ⟨v,h,rfl⟩ ht hl
  have q:∀ x,x∈b3 :: b7 :: b8 :: b9 :: b10 :: v.ownBlock.toList→x∉l:=fun x hx hm=>hl x hm hx
  exact ⟨v,⟨ht.heap h.c3 (q _ (by simp)),ht.heap h.c7 (q _ (by simp)),ht.heap h.c8 (q _ (by simp)),ht.heap h.c9 (q _ (by simp)),ht.heap h.c10 (q _ (by simp)),h.row.keep ht fun g hg=>q _ (by simp [hg]),Nat.le_trans h.base ht.size,h.n9⟩,rfl⟩
 lt:=by
  rintro j G w2 ⟨v,h,rfl⟩ x hx
  simp only [List.mem_cons,Option.mem_toList] at hx
  rcases hx with rfl | rfl | rfl | rfl | rfl | hx
  ·exact lt_of_heap h.c3
  ·exact lt_of_heap h.c7
  ·exact lt_of_heap h.c8
  ·exact lt_of_heap h.c9
  ·exact lt_of_heap h.c10
  ·exact (h.row.fresh hx).2
 takes:=by
  rintro j hj G w2 ⟨v,h,rfl⟩
  refine (cGive1D h (by simp; omega) L[j]).mono ?_
  rintro e w3 ⟨rfl,v',h',ht,ho⟩
  refine ⟨rfl,ht.mono fun x hx=>by simp only [List.mem_cons] at hx ⊢; rcases hx with h1 | h1 | h1 <;> simp [h1],_,⟨v',by rw [List.take_succ_eq_append_getElem hj]; exact h',rfl⟩,fun x hx=>?_⟩
  simp only [List.mem_cons,Option.mem_toList] at hx ⊢
  rcases hx with h1 | h1 | h1 | h1 | h1 | h1
  ·exact .inl (.inl h1)
  ·exact .inl (.inr (.inl h1))
  ·exact .inl (.inr (.inr (.inl h1)))
  ·exact .inl (.inr (.inr (.inr (.inl h1))))
  ·exact .inl (.inr (.inr (.inr (.inr (.inl h1)))))
  ·rcases ho with ho | ⟨g,ho,hg⟩
   ·rw [ho] at h1; exact .inl (.inr (.inr (.inr (.inr (.inr h1)))))
   ·rw [ho] at h1; cases h1; exact .inr hg
section
variable {w:World}
def GivesD (w:World) (F:List Nat) (X:World→Prop) (L:List Chn) (fn:FuncId) (caps:Array Value):Prop :=
 ∀ (w1:World),Turned [] w w1→X w1→∀ (J:Nat→List Nat→World→Prop) (fy:FuncId) (cy:Array Value) (G:List Nat),TakerC Tryz.prog L J fy cy→J 0 G w1→(∀ x,x∈G→x∉F∧w.heap.size≤x) →
  Calls Tryz.prog fn (#[.func (.func fy) #[] cy] ++ caps) w1 fun e w2=>e=.returned (.tuple #[])∧Turned (F ++ G) w1 w2∧X w2∧∃ G',J L.length G' w2∧Wider G G' w1
set_option maxRecDepth 100000 in
set_option maxHeartbeats 1600000 in
theorem cGivenD {F:List Nat} {X:World→Prop} {L:List Chn} {fn:FuncId} {caps:Array Value} (hX:X w) (hkX:∀ w1 w2,X w1→Turned [] w1 w2→X w2) (hF:∀ x,x∈F→x < w.heap.size) (hE:Enterable Tryz.prog fn) (hG:GivesD w F X L fn caps) (hL:L.length≤1000000) :
  Calls Tryz.prog 13 #[.func (.func fn) #[] caps,.int .i64 (-1)] w fun e w'=>∃ v,e=.returned (.tuple #[v,.int .i64 0,.bool true])∧CR w.heap.size w' v L∧Turned F w w'∧X w':=by
 have hmf:∀ (fn:Fn) (first cap:Array Value) (w:World),(Instr.makeFunc fn first cap).run Tryz.prog w=.ok (.func fn first cap) w:=fun _ _ _ _=>rfl
 have hnf:∀ (fn:Fn) (first cap:Array Value) (w:World),(binOp .eql 53 (.func fn first cap) .nilFunc).run Tryz.prog w=.ok (.bool false) w:=fun _ _ _ _=>by rfl
 have HX:Hid _:=hkX
 have HF:Hid _:=hF
 have HE:Hid _:=hE
 have HG:Hid _:=hG
 have HX0:Hid _:=hX
 clear hX hkX hF hE hG
 go_enter Tryz.func13,Tryz.ntmps13
 go_wp2
 rename_i K hK
 have key:∀ (b8 b9 b10:Nat) (W1:World),Gd w.heap.size W1 w.heap.size (w.heap.size+1) b8 b9 b10 (.slice none 0 0) []→Turned [] w W1→w.heap.size≤b8→w.heap.size≤b9→w.heap.size≤b10 →
   K { tmps:=#[.func (.func fn) #[] caps,.int .i64 (-1),undef,pt w.heap.size,.slice none 0 0,.int .i64 0,.bool false,pt (w.heap.size+1),pt b8,pt b9,pt b10,.func (.func fn) #[] caps,.bool false,.int .i64 (-1),.bool false,undef,undef,undef,undef,undef,undef,undef],defers:=[] } W1:=by
  intro b8 b9 b10 W1 hGd hT n8 n9 n10
  refine hK _ _ ?_
  clear hK K
  have q10:W1.cell? ⟨b10,0,none⟩=some (.bool false):=cell_at hGd.c10 0
  have HV:Hid _:=hGd
  have HC:=HG.out W1 hT (HX.out w W1 HX0.out hT) _ _ _ _ (takerD w.heap.size w.heap.size (w.heap.size+1) b8 b9 b10 L hL) ⟨_,by simpa using hGd,rfl⟩ (fun x hx=>by
   simp only [List.mem_cons,Value.ownBlock,Option.toList_none,List.not_mem_nil,or_false] at hx
   have:w.heap.size≤x:=by omega
   exact ⟨fun hm=>by have:=HF.out x hm; omega,this⟩)
  clear hGd HG
  obtain ⟨fn1,c1,f1,f2,f3⟩:=HE.out
  have hcf:∀ (args:Array Value) (w:World),(callFunc fn args).run Tryz.prog w=.ok (.enter fn args) w:=fun args w=>Go.MuLone.run_callFunc_enter f1 f2 f3 args w
  have HCF:Hid _:=hcf
  clear f1 f2 f3 HE hcf
  go_wp2
  rw [HCF.out,Oper.upon_enter]
  refine HC.mono ?_
  rintro e w2 ⟨rfl,ht2,hx2,G',⟨v2,hG2,hGe⟩,hw2⟩
  clear HC HCF hw2 hGe
  rw [List.take_length] at hG2
  have y7:w2.cell? ⟨w.heap.size+1,0,none⟩=some v2:=cell_at hG2.c7 0
  have y8:w2.cell? ⟨b8,0,none⟩=some (.int .i64 0):=cell_at hG2.c8 0
  have y9:w2.cell? ⟨b9,0,none⟩=some (.bool true):=cell_at hG2.c9 0
  have HP:Hid _:=hG2.row
  have HT2:Hid (Turned F w w2):=(hT.mono (m:=F) (fun x hx=>(by simp at hx))).inner ht2 (fun x hx=>by
   simp only [List.mem_append,List.mem_cons,Value.ownBlock,Option.toList_none,List.not_mem_nil,or_false] at hx
   rcases hx with hx | hx
   ·exact .inl hx
   ·exact .inr (by omega))
  have HX2:Hid _:=hx2
  clear hG2 ht2 hx2
  go_wp2
  go_quiet (fail)
  go_wp2
  go_ret3
  exact ⟨_,rfl,(HP.out.keep (F:=[]) ((Turned.refl _ _).drewN _) (by simp)),HT2.out.drewN _,HX.out _ _ HX2.out ((Turned.refl _ _).drewN _)⟩
 go_region
 all_goals (refine key _ _ _ _ ⟨?_,?_,?_,?_,?_,CR.nil _ _,?_,?_⟩ (Turned.drew (Turned.alloc (Turned.alloc (Turned.alloc (Turned.alloc (Turned.alloc (Turned.refl _ _) _) _) _) _) _)) ?_ ?_ ?_)
 all_goals first
  | omega
  | (show (World.alloc _ _).heap[_]?=_; simp only [heap_al,size_al]; repeat (first | rw [if_pos trivial] | rw [if_pos rfl] | rw [if_neg (by omega)]))
  | (show _≤(World.alloc _ _).heap.size; simp only [size_al]; omega)
end
end Go.Proofs.YtloljphbdfjgdaaGreatDoor
/- A frame, spelled out. -/
namespace Go.Proofs.YtloljphbdfjgdaaGreatDoor
open Go.RowKit
def lit109 (c:Nat→Value):Array Value:=#[c 0,c 1,c 2,c 3,c 4,c 5,c 6,c 7,c 8,c 9,c 10,c 11,c 12,c 13,c 14,c 15,c 16,c 17,c 18,c 19,c 20,c 21,c 22,c 23,c 24,c 25,c 26,c 27,c 28,c 29,c 30,c 31,c 32,c 33,c 34,c 35,c 36,c 37,c 38,c 39,c 40,c 41,c 42,c 43,c 44,c 45,c 46,c 47,c 48,c 49,c 50,c 51,c 52,c 53,c 54,c 55,c 56,c 57,c 58,c 59,c 60,c 61,c 62,c 63,c 64,c 65,c 66,c 67,c 68,c 69,c 70,c 71,c 72,c 73,c 74,c 75,c 76,c 77,c 78,c 79,c 80,c 81,c 82,c 83,c 84,c 85,c 86,c 87,c 88,c 89,c 90,c 91,c 92,c 93,c 94,c 95,c 96,c 97,c 98,c 99,c 100,c 101,c 102,c 103,c 104,c 105,c 106,c 107,c 108]
end Go.Proofs.YtloljphbdfjgdaaGreatDoor
/- The ways through shares. (Written by tools/gen/genshr.py.) -/
namespace Go.Proofs.YtloljphbdfjgdaaGreatDoor
open Go.RowKit
theorem wp_endB {P:Program} {c:Code} {Q:Exit→Act→World→Prop} {a:Act} {x:World} (h:c.wp P (Exit.then (Q .normal) Q) a x):c.wp P Q a x :=
 wp_mono h (fun e a w h=>by cases e <;> exact h)
section
variable {x y:World} {eb b xl xc yl yc gl gc ml mc i g:Nat} {xa ya ga ma:Option Addr} {k:Int} {t:Bool} {a:Act} {K:Act→World→Prop} {Q:Exit→Act→World→Prop}
end
end Go.Proofs.YtloljphbdfjgdaaGreatDoor
/- shares (skeinlaw12), alone, by contract: are the new root's nodes the old one's, less Gone, and Made? (Written by tools/gen/genshr2.py.) -/
namespace Go.Proofs.YtloljphbdfjgdaaGreatDoor
open Go.RowKit
structure SF (eb b:Nat) (xv yv:Value) (a:Act):Prop where
 hs:a.tmps.size=109
 hd:a.defers=[]
 x7:a.eval (.tmp 7)=.pointer (some ⟨eb,0,none⟩)
 x9:a.eval (.tmp 9)=xv
 x11:a.eval (.tmp 11)=yv
 x13:a.eval (.tmp 13)=.map (some b)
structure SS (w1 x:World) (eb b:Nat) (r old:Int) (had:Bool) (xv yv gv mv:Value) (xs ys gone made S:List Int):Prop where
 tw:Turned [] w1 x
 low:w1.heap.size≤b
 box:x.heap[eb]?=some (.cells #[.int .i64 r,.int .i64 old,.bool had,gv,mv] 40 (0,0))
 rx:IR 0 x xv xs
 ry:IR 0 x yv ys
 rg:IR 0 x gv gone
 rm:IR 0 x mv made
 ms:MS x b S
theorem IR.offMap {B b:Nat} {w:World} {v:Value} {l S:List Int} (h:IR B w v l) (hm:MS w b S):∀ g,v.ownBlock=some g→g∉[b]:=fun g hg hb=>by
 obtain ⟨cs,hc⟩:=h.type hg
 obtain ⟨es,c,h1,-⟩:=hm.ex
 simp only [List.mem_singleton] at hb
 subst hb
 rw [hc] at h1
 cases h1
section
variable {w1 x x':World} {eb b:Nat} {r old:Int} {had:Bool} {xv yv gv mv:Value} {xs ys gone made S S':List Int}
theorem SS.step (h:SS w1 x eb b r old had xv yv gv mv xs ys gone made S) (ht:Turned [b] x x') (hm:MS x' b S'):SS w1 x' eb b r old had xv yv gv mv xs ys gone made S':=by
 refine ⟨h.tw.inner ht (fun z hz=>by simp at hz; subst hz; exact .inr h.low),h.low,ht.heap h.box (fun hb=>?_),h.rx.keep ht (h.rx.offMap h.ms),h.ry.keep ht (h.ry.offMap h.ms),h.rg.keep ht (h.rg.offMap h.ms),h.rm.keep ht (h.rm.offMap h.ms),hm⟩
 obtain ⟨es,c,h1,-⟩:=h.ms.ex
 simp only [List.mem_singleton] at hb
 subst hb
 rw [h.box] at h1
 cases h1
theorem IR.isAt {B:Nat} {w:World} {v:Value} {l:List Int} (h:IR B w v l) {i:Nat} (hi:i < l.length):∃ g c,v=.slice (some ⟨g,0,none⟩) l.length c∧w.cell? ⟨g,i,none⟩=some (.int .i64 l[i]):=by
 rcases h.own.2 with ⟨rfl,h0⟩ | ⟨g,c,cs,rfl,hb,hg,h3⟩
 ·omega
 ·exact ⟨g,c,rfl,IR.cells h hi⟩
end
section
variable {w1 x:World} {eb b xc yc gc mc:Nat} {xa ya ga ma:Option Addr} {r old:Int} {had:Bool} {xs ys gone made S:List Int} {a:Act} {K:Act→World→Prop} {Q:Exit→Act→World→Prop}
end
section
variable {w:World} {tb p:Nat} {F:List Nat} {s:PSt} {o o':Option Tr} {B:Nat} {gv mv:Value} {gone made:List Int}
end
end Go.Proofs.YtloljphbdfjgdaaGreatDoor

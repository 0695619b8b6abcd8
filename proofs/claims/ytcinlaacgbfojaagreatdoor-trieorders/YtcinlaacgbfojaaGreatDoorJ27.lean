/- Package trie's nth, Select, alone, by contract. -/
import Derived.Test.YtcinlaacgbfojaaGreatDoorJ26
import Derived.Test.YtcinlaacgbfojaaGreatDoorJ05
import Derived.Test.YtcinlaacgbfojaaGreatDoorJ06
import Derived.Test.YtcinlaacgbfojaaGreatDoorJ25
import Derived.Test.YtcinlaacgbfojaaGreatDoorJ21
namespace Go.Proofs.YtcinlaacgbfojaaGreatDoor
open Go.RowKit
structure NF (w:World) (tb:Nat) (z:Option (Int × Int)) (s:PSt) (a:Act) (x:World):Prop where
 hs:a.tmps.size=58
 hd:a.defers=[]
 x0:a.eval (.tmp 0)=pt tb
 x1:a.eval (.tmp 1)=.pointer none
 x6:a.eval (.tmp 6)=.pointer (some ⟨w.heap.size,0,none⟩)
 x8:a.eval (.tmp 8)=.pointer (some ⟨w.heap.size+1,0,none⟩)
 ex:∃ u a1 b1 n j,a.eval (.tmp 3)=.int .i64 (j:Nat)∧NI w z s u a1 b1 n j x∧(n=.nilIface∨n=nv u)
def NthR (w:World) (z:Option (Int × Int)) (e:Ending) (y:World):Prop:=∃ p,z=some p∧e=.returned (.tuple #[.agg #[.int .i64 p.1,.int .i64 p.2],.int .i64 0])∧Turned [] w y
set_option maxRecDepth 100000 in
set_option maxHeartbeats 1600000 in
theorem nth_round {w x:World} {tb p:Nat} {F:List Nat} {s:PSt} {z:Option (Int × Int)} {a:Act} {Q:Exit→Act→World→Prop} (hT:TrieB w tb p) (hA:PoolAt w p F s) (hO:s.Ok) (h:NF w tb z s a x)
  (hQ:∀ a' y,bodyPost Tryz.prog Tryz.f50 (NthR w z) .ret a' y→Q .ret a' y) :
  (atc Tryz.f50.body [1,1,1]).wp Tryz.prog (Exit.then (fun a' y=>NF w tb z s a' y∧spanAt y w.heap.size < spanAt x w.heap.size) Q) a x:=by
 obtain ⟨hs,hd,x0,x1,x6,x8,⟨u,a1,b1,n,j,x3,hI,hn⟩⟩:=h
 have hlen:=spanAt_of hI.sp
 refine wp_block ?_
 refine wp_seq (nth_r1 hs hd x0 x1 x3 x6 x8 ?_)
 clear hs hd x0 x1 x3 x6 x8
 intro a2 hs hd x0 x1 x3 x6 x8
 obtain ⟨T,nvv,hN⟩:=nv_form u
 refine wp_seq (nth_rd (T:=T) (nvv:=nvv) hs hd x0 x1 x3 x6 x8 hI (fun y hy=>?_) ?_)
 ·rcases hn with rfl | rfl
  ·rw [← hN]; exact cReadT ((hT.still hI.turned).still hy) ((hA.still hI.turned).still hy) hO hI.rep hI.wf hI.lo hI.hi
  ·rw [hN]; exact cReadD y
 clear hs hd x0 x1 x3 x6 x8 hI
 intro a3 y hs hd x0 x1 x3 x6 x8 hI
 refine wp_seq (nth_r5 hs hd x0 x1 x3 x6 x8 hI ?_)
 clear hs hd x0 x1 x3 x6 x8
 intro a4 hs hd x0 x1 x3 x6 x8 x26
 cases u with
 | leaf h kk vv =>
  cases hN
  have hj:j=0:=by have:=hI.lt; rw [Tr.cnt_leaf] at this; omega
  subst hj
  refine wp_lastR (nth_L hs hd x0 x1 x3 x6 x8 x26 hI (fun a' y h=>⟨rfl,hQ a' y h⟩) fun y' hy=>⟨(kk,vv),?_,rfl,hy⟩)
  rw [hI.pick]; rfl
 | node h q c l r =>
  obtain ⟨g1,g2,g3,g4,g5,g6,g7,g8,g9,g10⟩:=id hI.wf
  have hpow:=Tr.pow_pos' q
  cases hN
  have hlo:a1≤c:=hI.lo
  have hhi:c+2 * 2 ^ q - 1≤b1:=hI.hi
  have hsm:=hI.rep.small hI.wf hO
  have hjl:=hI.lt
  rw [Tr.cnt_node] at hsm hjl
  have hpk:z=(l.pairs ++ r.pairs)[j]?:=hI.pick
  have hlc:l.cnt=l.pairs.length:=rfl
  have hRd:∀ y',Turned [] y y'→Calls Tryz.prog 48 #[pt tb,.pointer none,.agg #[.int .i64 l.hd,.int .i64 c,.int .i64 (c+2 ^ q - 1),.nilIface]] y' fun e w'=>e=.returned (.tuple #[.agg #[.int .i64 l.hd,.int .i64 c,.int .i64 (c+2 ^ q - 1),nv l],.int .i64 0])∧Turned [] y' w':=fun y' hy=>cReadT ((hT.still hI.turned).still hy) ((hA.still hI.turned).still hy) hO hI.rep.2.1 g9 g5 (by omega)
  have fin:∀ (u':Tr) (a2 b2:Int) (n':Value) (j':Nat),(n'=.nilIface∨n'=nv u')→c≤a2→b2≤c+2 * 2 ^ q - 1→b2 - a2+1=2 ^ q→∀ a8 z',a8.tmps.size=58→a8.defers=[]→a8.eval (.tmp 0)=pt tb→a8.eval (.tmp 1)=.pointer none→a8.eval (.tmp 3)=.int .i64 (j':Nat)→a8.eval (.tmp 6)=.pointer (some ⟨w.heap.size,0,none⟩)→a8.eval (.tmp 8)=.pointer (some ⟨w.heap.size+1,0,none⟩)→NI w z s u' a2 b2 n' j' z'→NF w tb z s a8 z'∧spanAt z' w.heap.size < spanAt x w.heap.size:=by
   intro u' a2 b2 n' j' hn' h1 h2 h3 a8 z' hs hd x0 x1 x3 x6 x8 hJ
   refine ⟨⟨hs,hd,x0,x1,x6,x8,⟨_,_,_,_,_,x3,hJ,hn'⟩⟩,?_⟩
   rw [spanAt_of hJ.sp,hlen]
   omega
  by_cases hlj:l.cnt≤j
  ·have hp2:z=r.pairs[j - l.cnt]?:=by rw [hpk,List.getElem?_append_right (by omega)]; rfl
   cases l with
   | leaf hl kl vl =>
    exact wp_last (nth_ILg (u':=r) (j2:=j - 1) (K:=fun a' y=>NF w tb z s a' y∧spanAt y w.heap.size < spanAt x w.heap.size) hs hd x0 x1 x3 x6 x8 x26 hI (cChild0 _ _ _ g2 g3 g1) hRd (cChild1 _ _ _ g2 g3 g1) (by rw [Tr.cnt_leaf] at hlj; omega) (by omega) (by rw [Tr.cnt_leaf] at hlj; omega) g10 hI.rep.2.2 g7 (by omega) (by rw [Tr.cnt_leaf] at *; omega) hp2 (fin r _ _ _ _ (.inl rfl) (by omega) (by omega) (by omega)))
   | node hl ql bl ll lr =>
    have hcn:=Tr.cnt_node hl ql bl ll lr
    exact wp_last (nth_INg (u':=r) (j2:=j - (ll.cnt+lr.cnt)) (K:=fun a' y=>NF w tb z s a' y∧spanAt y w.heap.size < spanAt x w.heap.size) hs hd x0 x1 x3 x6 x8 x26 hI (cChild0 _ _ _ g2 g3 g1) hRd (cChild1 _ _ _ g2 g3 g1) (by rw [hcn] at hlj; omega) (by omega) (by omega) (by rw [hcn] at hlj; omega) g10 hI.rep.2.2 g7 (by omega) (by rw [hcn] at hlj hjl; omega) (by rw [← hcn]; exact hp2) (fin r _ _ _ _ (.inl rfl) (by omega) (by omega) (by omega)))
  ·have hp2:z=l.pairs[j]?:=by rw [hpk,List.getElem?_append_left (by omega)]
   cases l with
   | leaf hl kl vl =>
    exact wp_last (nth_ILs (u':=.leaf hl kl vl) (K:=fun a' y=>NF w tb z s a' y∧spanAt y w.heap.size < spanAt x w.heap.size) hs hd x0 x1 x3 x6 x8 x26 hI (cChild0 _ _ _ g2 g3 g1) hRd (by rw [Tr.cnt_leaf] at hlj; omega) rfl g9 hI.rep.2.1 g5 (by omega) (by omega) hp2 (fin _ _ _ _ _ (.inr rfl) (by omega) (by omega) (by omega)))
   | node hl ql bl ll lr =>
    have hcn:=Tr.cnt_node hl ql bl ll lr
    exact wp_last (nth_INs (u':=.node hl ql bl ll lr) (K:=fun a' y=>NF w tb z s a' y∧spanAt y w.heap.size < spanAt x w.heap.size) hs hd x0 x1 x3 x6 x8 x26 hI (cChild0 _ _ _ g2 g3 g1) hRd (by rw [hcn] at hlj; omega) rfl g9 hI.rep.2.1 g5 (by omega) (by omega) hp2 (fin _ _ _ _ _ (.inr rfl) (by omega) (by omega) (by omega)))
set_option maxRecDepth 100000 in
set_option maxHeartbeats 1600000 in
theorem cNth {w:World} {tb p:Nat} {F:List Nat} {s:PSt} {t:Tr} {a b:Int} {n:Value} (hT:TrieB w tb p) (hA:PoolAt w p F s) (hO:s.Ok) (hc:Rep s t) (hw:t.WF) (ha:a≤t.lo) (hb:t.hi≤b) (hn:n=.nilIface∨n=nv t) (j:Nat) (hj:j < t.cnt) :
  Calls Tryz.prog 50 #[pt tb,.pointer none,.agg #[.int .i64 t.hd,.int .i64 a,.int .i64 b,n],.int .i64 (j:Nat)] w (NthR w t.pairs[j]?):=by
 have HT:Hid (TrieB w tb p):=hT
 have HA:Hid (PoolAt w p F s):=hA
 have HO:Hid s.Ok:=hO
 have HN:Hid (n=.nilIface∨n=nv t):=hn
 have HC:Hid (Rep s t∧t.WF∧a≤t.lo∧t.hi≤b∧j < t.cnt):=⟨hc,hw,ha,hb,hj⟩
 obtain ⟨c1,hc1⟩:∃ z,z=t.hd:=⟨_,rfl⟩
 have HU:Hid (c1=t.hd):=hc1
 rw [← hc1]
 clear hT hA hO hc hw ha hb hc1 hj
 rcases hn with rfl | hnn
 ·clear HN
  go_enter Tryz.func50,Tryz.ntmps50
  go_wp2
  refine wp_loop (fun a x=>NF w tb t.pairs[j]? s a x) (fun _ x=>spanAt x w.heap.size) ⟨rfl,rfl,rfl,rfl,rfl,rfl,⟨t,a,b,.nilIface,j,rfl,⟨((Turned.refl _ _).alloc _).alloc _,by rw [← HU.out]; exact blk_old (blk_new _ _) _,by have:=blk_new (w.alloc (.cells #[.int .i64 c1,.int .i64 a,.int .i64 b,.nilIface] 97 (0,0))) (.cells #[.int .i64 0,.int .i64 0] 28 (0,0)); rw [World.size_alloc] at this; exact this,HC.out.2.1,HC.out.1,HC.out.2.2.1,HC.out.2.2.2.1,HC.out.2.2.2.2,rfl⟩,.inl rfl⟩⟩ (fun a x hx=>?_)
  exact nth_round HT.out HA.out HO.out hx (fun a' y h=>h)
 ·obtain ⟨T,nvv,hN⟩:=nv_form t
  rw [hN] at hnn
  subst hnn
  have HNN:Hid (nv t=.iface T nvv):=hN
  clear HN hN
  go_enter Tryz.func50,Tryz.ntmps50
  go_wp2
  refine wp_loop (fun a x=>NF w tb t.pairs[j]? s a x) (fun _ x=>spanAt x w.heap.size) ⟨rfl,rfl,rfl,rfl,rfl,rfl,⟨t,a,b,.iface T nvv,j,rfl,⟨((Turned.refl _ _).alloc _).alloc _,by rw [← HU.out]; exact blk_old (blk_new _ _) _,by have:=blk_new (w.alloc (.cells #[.int .i64 c1,.int .i64 a,.int .i64 b,.iface T nvv] 97 (0,0))) (.cells #[.int .i64 0,.int .i64 0] 28 (0,0)); rw [World.size_alloc] at this; exact this,HC.out.2.1,HC.out.1,HC.out.2.2.1,HC.out.2.2.2.1,HC.out.2.2.2.2,rfl⟩,.inr HNN.out.symm⟩⟩ (fun a x hx=>?_)
  exact nth_round HT.out HA.out HO.out hx (fun a' y h=>h)
set_option maxRecDepth 100000 in
set_option maxHeartbeats 1600000 in
theorem cSelect {w:World} {tb p:Nat} {F:List Nat} {s:PSt} {t:Tr} (hT:TrieB w tb p) (hA:PoolAt w p F s) (hO:s.Ok) (hr:Rep s t) (hw:t.WF) (j:Nat) (hj:j < t.cnt) :
  Calls Tryz.prog 21 #[pt tb,.pointer none,.int .i64 t.hd,.int .i64 (j:Nat)] w (NthR w t.pairs[j]?):=by
 have hpos:=hr.top.pos
 have hsp:=hw.span
 have hz:(t.hd == 0)=false:=by simp; omega
 have hsm:=hr.small hw hO
 have HD:Hid (∀ x,Turned [] w x→Calls Tryz.prog 48 #[pt tb,.pointer none,.agg #[.int .i64 t.hd,.int .i64 0,.int .i64 4294967295,.nilIface]] x fun e w'=>e=.returned (.tuple #[.agg #[.int .i64 t.hd,.int .i64 0,.int .i64 4294967295,nv t],.int .i64 0])∧Turned [] x w'):=fun x hx=>cReadT (hT.still hx) (hA.still hx) hO hr hw hsp.1 hsp.2.2
 have HN:Hid (∀ x,Turned [] w x→Calls Tryz.prog 50 #[pt tb,.pointer none,.agg #[.int .i64 t.hd,.int .i64 0,.int .i64 4294967295,nv t],.int .i64 (j:Nat)] x (NthR x t.pairs[j]?)):=fun x hx=>cNth (hT.still hx) (hA.still hx) hO hr hw hsp.1 hsp.2.2 (.inr rfl) j hj
 have hj0:¬ (j:Int) < 0:=by omega
 clear hT hA hO hpos hsp
 cases t with
 | leaf h k v =>
  have HD2:Hid (∀ x,Turned [] w x→Calls Tryz.prog 48 #[pt tb,.pointer none,.agg #[.int .i64 h,.int .i64 0,.int .i64 4294967295,.nilIface]] x fun e w'=>e=.returned (.tuple #[.agg #[.int .i64 h,.int .i64 0,.int .i64 4294967295,.iface 89 (.agg #[.int .i64 k,.int .i64 v])],.int .i64 0])∧Turned [] x w'):=HD.out
  have HN2:Hid (∀ x,Turned [] w x→Calls Tryz.prog 50 #[pt tb,.pointer none,.agg #[.int .i64 h,.int .i64 0,.int .i64 4294967295,.iface 89 (.agg #[.int .i64 k,.int .i64 v])],.int .i64 (j:Nat)] x (NthR x (Tr.leaf h k v).pairs[j]?)):=HN.out
  have hz2:(h == 0)=false:=hz
  show Calls _ _ #[_,_,.int .i64 h,_] _ _
  have hjc:¬ (1:Int)≤(j:Int):=by rw [Tr.cnt_leaf] at hj; omega
  generalize (Tr.leaf h k v).pairs[j]?=zz at *
  have mm:=m_leaf_count
  clear HD hz HN hr hw hsm hj
  go_enter Tryz.func21,Tryz.ntmps21
  go_wp2_with (first
   | (go_at_call 49; refine (cRootSpot _ _).mono ?_; rintro e w1 ⟨rfl,ht1⟩; obtain ⟨hb,ht⟩:=one_cells ht1; have HB1:Hid _:=hb; have HT1:Hid (Turned [] w w1):=ht; clear ht1 ht hb)
   | (go_at_call 48; refine (HD2.out _ HT1.out).mono ?_; rintro e w2 ⟨rfl,ht2⟩; have HB2:Hid _:=ht2.heap HB1.out (by simp); have HT2:Hid (Turned [] w w2):=HT1.out.trans ht2; clear ht2)
   | (go_at_call 125; refine (cLeafCount _ _ _).mono ?_; rintro e w3 ⟨rfl,ht3⟩; obtain ⟨hb,ht⟩:=one_cells ht3; obtain ⟨⟨s0,s1,s2,s3⟩,-⟩:=cells4 hb; have HB3:Hid _:=ht.heap HB2.out (by simp); have HT3:Hid (Turned [] w w3):=HT2.out.trans ht; clear ht3 ht hb)
   | (go_at_call 50; refine (HN2.out _ HT3.out).mono ?_; rintro e w4 ⟨zp,hzp,rfl,ht4⟩; obtain ⟨⟨c0,c1⟩,z0,z1⟩:=cells2 (ht4.heap HB3.out (by simp)); have HZ:Hid _:=hzp; have HT4:Hid (Turned [] w w4):=HT3.out.trans ht4; clear ht4 hzp))
  exact bodyPost_ret (v:=.tuple #[.agg #[.int .i64 zp.1,.int .i64 zp.2],.int .i64 0]) (by simp [results,Tryz.results21,go_sem,c0,c1]) rfl ⟨zp,HZ.out,rfl,(HT4.out.set (.inr (Nat.le_refl _)) _ _).set (.inr (Nat.le_refl _)) _ _⟩
 | node h q c l r =>
  have HD2:Hid (∀ x,Turned [] w x→Calls Tryz.prog 48 #[pt tb,.pointer none,.agg #[.int .i64 h,.int .i64 0,.int .i64 4294967295,.nilIface]] x fun e w'=>e=.returned (.tuple #[.agg #[.int .i64 h,.int .i64 0,.int .i64 4294967295,.iface 110 (.agg #[.int .i64 c,.int .i64 q,.int .i64 l.hd,.int .i64 r.hd,.int .i64 (l.cnt+r.cnt:Nat)])],.int .i64 0])∧Turned [] x w'):=HD.out
  have HN2:Hid (∀ x,Turned [] w x→Calls Tryz.prog 50 #[pt tb,.pointer none,.agg #[.int .i64 h,.int .i64 0,.int .i64 4294967295,.iface 110 (.agg #[.int .i64 c,.int .i64 q,.int .i64 l.hd,.int .i64 r.hd,.int .i64 (l.cnt+r.cnt:Nat)])],.int .i64 (j:Nat)] x (NthR x (Tr.node h q c l r).pairs[j]?)):=HN.out
  have hz2:(h == 0)=false:=hz
  show Calls _ _ #[_,_,.int .i64 h,_] _ _
  have hjc:¬ ((l.cnt+r.cnt:Nat):Int)≤(j:Int):=by rw [Tr.cnt_node] at hj; omega
  generalize (Tr.node h q c l r).pairs[j]?=zz at *
  generalize ((l.cnt+r.cnt:Nat):Int)=cn at *
  have mm:=m_inner_count
  clear HD hz HN hr hw hsm hj
  go_enter Tryz.func21,Tryz.ntmps21
  go_wp2_with (first
   | (go_at_call 49; refine (cRootSpot _ _).mono ?_; rintro e w1 ⟨rfl,ht1⟩; obtain ⟨hb,ht⟩:=one_cells ht1; have HB1:Hid _:=hb; have HT1:Hid (Turned [] w w1):=ht; clear ht1 ht hb)
   | (go_at_call 48; refine (HD2.out _ HT1.out).mono ?_; rintro e w2 ⟨rfl,ht2⟩; have HB2:Hid _:=ht2.heap HB1.out (by simp); have HT2:Hid (Turned [] w w2):=HT1.out.trans ht2; clear ht2)
   | (go_at_call 127; refine (cInnerCount _ _ _ _ _ _).mono ?_; rintro e w3 ⟨rfl,ht3⟩; obtain ⟨hb,ht⟩:=one_cells ht3; obtain ⟨⟨s0,s1,s2,s3⟩,-⟩:=cells4 hb; have HB3:Hid _:=ht.heap HB2.out (by simp); have HT3:Hid (Turned [] w w3):=HT2.out.trans ht; clear ht3 ht hb)
   | (go_at_call 50; refine (HN2.out _ HT3.out).mono ?_; rintro e w4 ⟨zp,hzp,rfl,ht4⟩; obtain ⟨⟨c0,c1⟩,z0,z1⟩:=cells2 (ht4.heap HB3.out (by simp)); have HZ:Hid _:=hzp; have HT4:Hid (Turned [] w w4):=HT3.out.trans ht4; clear ht4 hzp))
  exact bodyPost_ret (v:=.tuple #[.agg #[.int .i64 zp.1,.int .i64 zp.2],.int .i64 0]) (by simp [results,Tryz.results21,go_sem,c0,c1]) rfl ⟨zp,HZ.out,rfl,(HT4.out.set (.inr (Nat.le_refl _)) _ _).set (.inr (Nat.le_refl _)) _ _⟩
end Go.Proofs.YtcinlaacgbfojaaGreatDoor
/- Drawn regions with a chain of calls. (Written by tools/gen/gencall.py.) -/
namespace Go.Proofs.YtcinlaacgbfojaaGreatDoor
open Go.RowKit
def undo_r5V (tb p:Nat) (h:Int):Nat→Nat→Value:=fun _ j=>match j with | 0=>(pa tb 0) | 1=>(pa tb 0) | 2=>(pa tb 0) | 3=>(pa p 0) | 4=>(Value.pointer none) | 5=>(Value.int IntKind.i64 h) | 6=>(Value.int IntKind.i64 0) | 7=>(Value.int IntKind.i64 0) | _=>undef
set_option maxRecDepth 100000 in
set_option maxHeartbeats 1600000 in
theorem undo_r5 {b3 b4 tb p:Nat} {h:Int} {rr:Nat} {FF:List Nat} {A Post:World→Prop} {K:Act→World→Prop} {Q:Exit→Act→World→Prop} {a0:Act} {w:World} (hs:a0.tmps.size=29) (x3:a0.eval (.tmp 3)=pa b3 0) (x4:a0.eval (.tmp 4)=pa b4 0) (x8:a0.eval (.tmp 8)=.int .i64 h) (h3:w.heap[b3]?=some (.cells #[pa tb 0] 35 (0,0))) (h4:w.heap[b4]?=some (.cells #[.pointer none] 82 (0,0))) (hT:w.heap[tb]?=some (.cells #[pa p 0] 81 (0,0))) (n3:b3∉FF) (n4:b4∉FF) (nT:tb∉FF) (hA:A w.drew)
  (hCall0:∀ x,Turned FF w x→A x→Calls Tryz.prog 35 #[pa p 0,.pointer none,.int .i64 h] x fun e w'=>e=.returned (Value.int IntKind.i64 0)∧Turned FF x w'∧Post w')
  (hEnd:∀ a' x,a'.tmps.size=a0.tmps.size→a'.defers=a0.defers→(∀ s,some s∉([some 19,some 20,some 21,some 22,some 23,some 24,some 25,some 9]:List (Option Nat))→a'.eval (.tmp s)=a0.eval (.tmp s))→a'.eval (.tmp 9)=(Value.int IntKind.i64 0)→Turned FF w x→Post x→K a' x):(Code.region 5 (opsR 5 Tryz.f11.body) true).wpIn (Fence.wide.inRound rr) 0 Tryz.prog (Exit.then K Q) a0 w:=by
 refine wpIn_region_ghost3 (G:=Nat) (by kernel_rfl) (by kernel_rfl) [some 19,some 20,some 21,some 22,some 23,some 24,some 25,some 9] (by rw [hs]; kernel_rfl) (undo_r5V tb p h) [6] ?_ (doneC [6]) (StC FF w 1 A Post) (0) (⟨(Turned.refl _ _).drew,by decide,fun _=>hA,fun h=>absurd h (by decide)⟩) (by intro x hx; simp at hx; subst hx; rfl) (by decide) ?_ ?_
 ·exact fun i g b h _=>absurd h (noG (by kernel_rfl) i g b)
 ·intro i hi hgd
  rcases (by simp at hi; omega:i=0∨i=1∨i=2∨i=3∨i=4∨i=5∨i=6∨i=7) with rfl | rfl | rfl | rfl | rfl | rfl | rfl | rfl
  ·refine soft (by decide) ?_
   intro o ac wa g ho hoff hv hS hdn
   have hc:=cell_at (hS.turned.heap h3 n3) 0
   exact x_load (op_is rfl ho) (by rw [((hoff 3 (by decide)).trans x3)]; show (Instr.loadAt _ (pa _ _)).run _ _=_; unfold pa; go_simp; rfl)
  ·refine soft (by decide) ?_
   intro o ac wa g ho hoff hv hS hdn
   exact x_nil (op_is rfl ho) ((hv 0 19 rfl (by kernel_rfl)))
  ·refine soft (by decide) ?_
   intro o ac wa g ho hoff hv hS hdn
   exact x_field (op_is rfl ho) (by rw [(hv 1 20 rfl (by kernel_rfl))]; show (Instr.fieldAt _ (pa _ _) _).run _ _=.ok (pa _ _) _; unfold pa; go_simp)
  ·refine soft (by decide) ?_
   intro o ac wa g ho hoff hv hS hdn
   have hc:=cell_at (hS.turned.heap hT nT) 0
   exact x_load (op_is rfl ho) (by rw [(hv 2 21 rfl (by kernel_rfl))]; show (Instr.loadAt _ (pa _ _)).run _ _=_; unfold pa; go_simp; rfl)
  ·refine soft (by decide) ?_
   intro o ac wa g ho hoff hv hS hdn
   have hc:=cell_at (hS.turned.heap h4 n4) 0
   exact x_load (op_is rfl ho) (by rw [((hoff 4 (by decide)).trans x4)]; show (Instr.loadAt _ (pa _ _)).run _ _=_; unfold pa; go_simp; rfl)
  ·refine soft (by decide) ?_
   intro o ac wa g ho hoff hv hS hdn
   exact (x_move (op_is rfl ho)).trans (by rw [((hoff 8 (by decide)).trans x8)]; rfl)
  ·intro o ac wa g K ho hd _ hoff hv hS hpre hnd hlater hK
   have h1:g≤0:=by have:=hnd (by simp); simpa [doneC,List.idxOf,List.findIdx,List.findIdx.go] using this
   have hg:g=0:=by omega
   subst hg
   refine l_callE (op_is rfl ho) (xs:=#[pa p 0,.pointer none,.int .i64 h]) (by simp only [List.map_toArray,List.map_cons,List.map_nil]; rw [(hv 3 22 rfl (by kernel_rfl)),(hv 4 23 rfl (by kernel_rfl)),(hv 5 24 rfl (by kernel_rfl))]; rfl) Tryz.func35 (by kernel_rfl) rfl (hCall0 wa hS.turned (hS.pre (by decide))) ?_
   rintro e w' ⟨rfl,ht,hp⟩
   refine ⟨_,rfl,?_⟩
   rw [hd]
   refine hK 1 w' ⟨hS.turned.trans ht,by decide,fun h=>absurd h (by decide),fun _=>hp⟩ (by intro x hx; simp at hx; subst hx; simp [doneC,List.idxOf,List.findIdx,List.findIdx.go]) fun j hj hr=>?_
   match j,hr with
   | 0,_=>rfl
   | 1,_=>rfl
   | 2,_=>rfl
   | 3,_=>rfl
   | 4,_=>rfl
   | 5,_=>rfl
   | 6,_=>exact absurd rfl hj
   | 7,_=>rfl
   | q+8,_=>rfl
  ·refine soft (by decide) ?_
   intro o ac wa g ho hoff hv hS hdn
   exact (x_assign (op_is rfl ho)).trans (by rw [(hv 6 25 rfl (by kernel_rfl))]; rfl)
 ·intro a' w' g hsz hdf hoff hS hdn hval
  have hg:g=1:=by have h:=hdn 6 (by simp); simp [doneC,List.idxOf,List.findIdx,List.findIdx.go] at h; have:=hS.le; omega
  subst hg
  exact hEnd a' w' hsz hdf (fun s hs=>ev_same (hoff s hs)) (hval 7 9 rfl) hS.turned (hS.post rfl)
end Go.Proofs.YtcinlaacgbfojaaGreatDoor
/- Package trie's Undo, alone, by contract. (Written by tools/gen/genundo.py.) -/
namespace Go.Proofs.YtcinlaacgbfojaaGreatDoor
open Go.RowKit Go.Shelf
attribute [local go_sem] Oper.semAt_some
theorem Turned.drop {x:Nat} {l:List Nat} {w w':World} (h:Turned (x :: l) w w') (hx:w'.heap[x]?=w.heap[x]?):Turned l w w' :=
 ⟨h.os,h.tape,h.output,h.size,fun k hk hn=>by
  by_cases e:k=x
  ·subst e; exact hx
  ·exact h.block k hk (by simp; exact ⟨e,hn⟩)⟩
structure Gave (s s':PSt) (St St':List Nat) (it:Nat) (l:List Int):Prop where
 pv:PV s' St' (it+l.length)
 n:s'.n=s.n
 faults:s'.faults=s.faults
 room:St'.length=St.length+l.length
 ct:∀ h x,Ct s h x→h∉l→Ct s' h x
theorem Gave.nil {s:PSt} {St:List Nat} {it:Nat} (h:PV s St it):Gave s s St St it []:=⟨h,rfl,rfl,rfl,fun _ _ h _=>h⟩
theorem cGive {w:World} {p:Nat} {F:List Nat} {s s0:PSt} {St St0:List Nat} {it:Nat} {l:List Int} {h:Int} {x:Nd} (hA:PoolAt w p F s) (hG:Gave s0 s St0 St it l) (hf:it+l.length+1≤1000000000) (hc:Ct s h x) :
  Calls Tryz.prog 35 #[.pointer (some ⟨p,0,none⟩),.pointer none,.int .i64 h] w fun e w'=>e=.returned (.int .i64 0)∧Turned F w w'∧∃ F' s' St',PoolAt w' p F' s'∧Wider F F' w∧Gave s0 s' St0 St' it (h :: l):=by
 obtain ⟨p1,p2,p3,p4⟩:=hc.plc
 have hg:=hG.pv.gens _ p1 p2
 have hfit:=hG.pv.fits
 have hgv:=poolLaws.give hA hG.pv.ok p1 p2 hg.1 (by omega) p4 rfl
 rw [← p3] at hgv
 refine hgv.mono ?_
 rintro e w' ⟨rfl,ht,F',hA',hW⟩
 refine ⟨rfl,ht,F',_,_,hA',hW,(hG.pv.give hf p1 p2 (hc.used hG.pv) _).more (by simp; omega) (by simp; omega),hG.n,hG.faults,by have:=hG.room; simp; omega,fun h' x' hc' hn=>?_⟩
 simp only [List.mem_cons,not_or] at hn
 exact (hG.ct h' x' hc' hn.2).give hc hn.1 _
section
variable {x:World} {b3 b4 b6 bx tb p B it:Nat} {v:Value} {l:List Int} {F:List Nat} {s:PSt} {St:List Nat} {a:Act} {Q:Exit→Act→World→Prop}
structure UJ (b3 b4 tb p it:Nat) (l:List Int) (s:PSt) (St:List Nat) (j:Nat) (G:List Nat) (w:World):Prop where
 ex:∃ F' s' St',G=b3 :: b4 :: tb :: F'∧PoolAt w p F' s'∧Gave s s' St St' it (l.drop (l.length - j))∧b3∉F'∧b4∉F'∧tb∉F'
 h3:w.heap[b3]?=some (.cells #[.pointer (some ⟨tb,0,none⟩)] 35 (0,0))
 h4:w.heap[b4]?=some (.cells #[.pointer none] 82 (0,0))
 hT:w.heap[tb]?=some (.cells #[.pointer (some ⟨p,0,none⟩)] 81 (0,0))
theorem UJ.keep {j:Nat} {G L:List Nat} {w w':World} (h:UJ b3 b4 tb p it l s St j G w) (ht:Turned L w w') (hL:∀ x,x∈L→x∉G):UJ b3 b4 tb p it l s St j G w':=by
 obtain ⟨F',s',St',rfl,hA,hg,n3,n4,nT⟩:=h.ex
 exact ⟨⟨F',s',St',rfl,poolLaws.keep hA ht (fun x hx hm=>hL x hx (by simp [hm])),hg,n3,n4,nT⟩,ht.heap h.h3 (fun hm=>hL _ hm (by simp)),ht.heap h.h4 (fun hm=>hL _ hm (by simp)),ht.heap h.hT (fun hm=>hL _ hm (by simp))⟩
set_option maxRecDepth 100000 in
set_option maxHeartbeats 1600000 in
theorem undo_loop (hs:a.tmps.size=29) (hd:a.defers=[]) (x3:a.eval (.tmp 3)=.pointer (some ⟨b3,0,none⟩)) (x4:a.eval (.tmp 4)=.pointer (some ⟨b4,0,none⟩)) (x6:a.eval (.tmp 6)=.pointer (some ⟨b6,0,none⟩)) (x16:a.eval (.tmp 16)=.func (.func 67) #[] #[.pointer (some ⟨bx,0,none⟩)])
  (hl:l.length≤10000) (h1:bx∉F) (h2:∀ g,v.ownBlock=some g→g∉F) (h3:bx≠b3) (h4:bx≠b4) (h5:bx≠tb) (h6:∀ g,v.ownBlock=some g→g≠b3∧g≠b4∧g≠tb) (hP:PreI bx B v l x) (hJ:UJ b3 b4 tb p it l s St 0 (b3 :: b4 :: tb :: F) x) (hc:∀ y∈l,∃ n,Ct s y n) (hnd:l.Nodup) (hit:it+l.length+1≤1000000000)
  (hK:∀ a' y D G',a'.tmps.size=29→a'.defers=[markD D]→a'.eval (.tmp 6)=.pointer (some ⟨b6,0,none⟩)→UJ b3 b4 tb p it l s St l.length G' y→Wider (b3 :: b4 :: tb :: F) G' x→Turned (b3 :: b4 :: tb :: F) x y→y.heap[D]?=some (.deferred (some []))→x.heap.size≤D→Q .normal a' y):(atc Tryz.f11.body [1,1,0,1,0]).wp Tryz.prog Q a x:=by
 obtain ⟨cc,hcc,hce⟩:=expand29 hs hd
 have g3:=(hce 3).trans x3
 have g4:=(hce 4).trans x4
 have g6:=(hce 6).trans x6
 have g16:=(hce 16).trans x16
 clear hce hs hd x3 x4 x6 x16
 subst hcc
 conv=>arg 2; whnf
 simp only [lit29,g3,g4,g6,g16]
 clear g3 g4 g6 g16
 have HK:Hid _:=hK
 have HX:Hid (bx∉F∧(∀ g,v.ownBlock=some g→g∉F)∧bx≠b3∧bx≠b4∧bx≠tb∧(∀ g,v.ownBlock=some g→g≠b3∧g≠b4∧g≠tb)):=⟨h1,h2,h3,h4,h5,h6⟩
 have HP:Hid (PreI bx B v l x):=hP
 have HJ:Hid (UJ b3 b4 tb p it l s St 0 (b3 :: b4 :: tb :: F) x):=hJ
 have HC:Hid ((∀ y∈l,∃ n,Ct s y n)∧l.Nodup∧it+l.length+1≤1000000000):=⟨hc,hnd,hit⟩
 clear hK h1 h2 h3 h4 h5 h6 hP hJ hc hnd hit
 refine wp_range (N:=l.length) (xs:=xsI l) (F:=[]) (R:=bx :: v.ownBlock.toList) (Pre:=PreI bx B v l) (G:=b3 :: b4 :: tb :: F)
  (I:=UJ b3 b4 tb p it l s St) (Ix:=fun _ _ _=>False) rfl (enters_of Tryz.func67 (by kernel_rfl) rfl) (iterI (by omega)) (fun j=>rfl) (fun h1 h2 h3=>h1.keep h2 h3) ?lt (fun h _=>h.elim) ?keepP HJ.out HP.out ?hG (by simp) ?hR ?round ?done (fun c j W _ h=>h.elim)
 case lt =>
  intro j G w2 h z hz
  obtain ⟨F',s',St',rfl,hA,-⟩:=h.ex
  simp only [List.mem_cons] at hz
  rcases hz with rfl | rfl | rfl | hz
  ·exact lt_of_heap h.h3
  ·exact lt_of_heap h.h4
  ·exact lt_of_heap h.hT
  ·exact poolLaws.lt hA z hz
 case keepP =>
  intro w2 w3 L h ht hL
  have hl:=HP.out.lt
  exact h.keep ht (fun hm=>by have:=hL _ hm; omega) (fun g hg hm=>by have:=hL _ hm; have:=hl.2 g hg; omega)
 case hG =>
  intro z hz
  obtain ⟨q1,q2,q3,q4,q5,q6⟩:=HX.out
  refine ⟨by simp,fun hm=>?_⟩
  simp only [List.mem_cons] at hz
  rcases List.mem_cons.1 hm with e | hm
  ·subst e
   rcases hz with h | h | h | h
   ·exact q3 h
   ·exact q4 h
   ·exact q5 h
   ·exact q1 h
  ·have e:=Option.mem_toList.1 hm
   obtain ⟨r1,r2,r3⟩:=q6 z e
   rcases hz with h | h | h | h
   ·exact r1 h
   ·exact r2 h
   ·exact r3 h
   ·exact q2 z e h
 case hR =>
  intro z hz
  have hl:=HP.out.lt
  rcases List.mem_cons.1 hz with rfl | hz
  ·exact hl.1
  ·exact hl.2 z (Option.mem_toList.1 hz)
 case round =>
  rintro j hj G W hU hlW hlG
  have hix:l.length - 1 - j < l.length:=by omega
  have hxs:xsI l j=#[.int .i64 ((l.length - 1 - j:Nat):Int),.int .i64 l[l.length - 1 - j]]:=by
   unfold xsI
   rw [List.getD_eq_getElem?_getD,List.getElem?_eq_getElem hix]
   rfl
  rw [hxs]
  have hdrop:l.drop (l.length - (j+1))=l[l.length - 1 - j] :: l.drop (l.length - j):=by
   rw [show l.length - (j+1)=l.length - 1 - j by omega,List.drop_eq_getElem_cons hix,show l.length - 1 - j+1=l.length - j by omega]
  obtain ⟨n0,hn0⟩:=HC.out.1 _ (List.getElem_mem hix)
  have hnot:l[l.length - 1 - j]∉l.drop (l.length - j):=by
   have h2:(l.drop (l.length - (j+1))).Nodup:=HC.out.2.1.sublist (List.drop_sublist _ _)
   rw [hdrop] at h2
   exact (List.nodup_cons.1 h2).1
  have hln:(l.drop (l.length - j)).length=j:=by rw [List.length_drop]; omega
  generalize l[l.length - 1 - j]=hh at *
  have HU:Hid _:=hU
  have HLG:Hid (x.heap.size+1∉G):=hlG
  have HD:Hid _:=hdrop
  have HN:Hid (Ct s hh n0∧hh∉l.drop (l.length - j)∧(l.drop (l.length - j)).length=j):=⟨hn0,hnot,hln⟩
  clear hxs hU hlG hdrop hn0 hnot hln
  gi_wp2
  refine ⟨Turned.refl _ _,fun W2 h2=>?_⟩
  have hU2:=HU.out.keep h2 (fun z hz hm=>by simp at hz; subst hz; exact HLG.out hm)
  obtain ⟨F',s',St',rfl,hA,hg,n3,n4,nT⟩:=hU2.ex
  have HG:Hid _:=hg
  have HNN:Hid (b3∉F'∧b4∉F'∧tb∉F'):=⟨n3,n4,nT⟩
  have HU2:Hid (UJ b3 b4 tb p it l s St j (b3 :: b4 :: tb :: F') W2):=hU2
  have HA:Hid (PoolAt W2 p F' s'):=hA
  clear hU2 hg n3 n4 nT h2 hA
  gi_wp2
  refine undo_r5 (b3:=b3) (b4:=b4) (tb:=tb) (p:=p) (h:=hh) (FF:=F') (A:=fun y=>PoolAt y p F' s') (Post:=fun y=>∃ F2 s2 St2,PoolAt y p F2 s2∧Wider F' F2 W2∧Gave s s2 St St2 it (hh :: l.drop (l.length - j))) rfl rfl rfl rfl HU2.out.h3 HU2.out.h4 HU2.out.hT HNN.out.1 HNN.out.2.1 HNN.out.2.2 (HA.out.still (Turned.refl _ _).drew) ?_ ?_
  ·intro y hy hyA
   refine (cGive hyA HG.out (by rw [HN.out.2.2]; have:=HC.out.2.2; omega) (HG.out.ct _ _ HN.out.1 HN.out.2.1)).mono ?_
   rintro e w' ⟨rfl,ht,F2,s2,St2,hA2,hW2,hg2⟩
   exact ⟨rfl,ht,F2,s2,St2,hA2,(fun z hz=>(hW2 z hz).imp id (Nat.le_trans hy.size)),hg2⟩
  ·rintro a2 y hs2 hd2 hoff x9 hty ⟨F2,s2,St2,hA2,hW2,hg2⟩
   have e6:=(hoff 6 (by decide))
   obtain ⟨cc2,hcc2,hce2⟩:=expand29 (hs2.trans rfl) (hd2.trans rfl)
   have g9:=(hce2 9).trans x9
   have HTY:Hid (Turned F' W2 y):=hty
   have HA2:Hid (PoolAt y p F2 s2∧Wider F' F2 W2∧Gave s s2 St St2 it (hh :: l.drop (l.length - j))):=⟨hA2,hW2,hg2⟩
   have hv:W2.heap.size≤y.heap.size:=hty.size
   clear hoff e6 hce2 hs2 hd2 x9 hty hA2 hW2 hg2
   subst hcc2
   simp only [lit29,g9]
   clear g9
   gi_wp2
   have l3:=lt_of_heap HU2.out.h3
   have l4:=lt_of_heap HU2.out.h4
   have lT:=lt_of_heap HU2.out.hT
   have nw:∀ z,z < W2.heap.size→z∉F'→z∉F2:=fun z hz hn hm=>by
    rcases HA2.out.2.1 z hm with h | h
    ·exact hn h
    ·omega
   refine ⟨HTY.out.mono (fun z hz=>by simp [hz]),b3 :: b4 :: tb :: F2,⟨⟨F2,s2,St2,rfl,HA2.out.1,by rw [HD.out]; exact HA2.out.2.2,nw _ l3 HNN.out.1,nw _ l4 HNN.out.2.1,nw _ lT HNN.out.2.2⟩,HTY.out.heap HU2.out.h3 HNN.out.1,HTY.out.heap HU2.out.h4 HNN.out.2.1,HTY.out.heap HU2.out.hT HNN.out.2.2⟩,fun z hz=>?_⟩
   simp only [List.mem_cons] at hz ⊢
   rcases hz with h | h | h | h
   ·exact .inl (.inl h)
   ·exact .inl (.inr (.inl h))
   ·exact .inl (.inr (.inr (.inl h)))
   ·rcases HA2.out.2.1 z h with h' | h'
    ·exact .inl (.inr (.inr (.inr h')))
    ·exact .inr h'
 case done =>
  intro W G' hU hW hPW hT hK
  exact HK.out _ _ _ G' rfl rfl rfl hU hW (by simpa using hT) hK (Nat.le_refl _)
end
end Go.Proofs.YtcinlaacgbfojaaGreatDoor
/- Package trie's Undo, alone: whole. -/
namespace Go.Proofs.YtcinlaacgbfojaaGreatDoor
open Go.RowKit
theorem poolAt_cells {w:World} {p:Nat} {F:List Nat} {s:PSt} (h:PoolAt w p F s) {x:Nat} (hx:x∈F):∃ cs T,w.heap[x]?=some (.cells cs T (0,0))∧T∈([71,78,139,69,74]:List TypeId):=by
 obtain ⟨sb,pb,nb,L,hp,rfl⟩:=h
 rcases mem_blocks hx with rfl | rfl | rfl | rfl | ⟨k,hk,rfl⟩
 ·exact ⟨_,_,hp.pool,by decide⟩
 ·exact ⟨_,_,hp.slots,by decide⟩
 ·exact ⟨_,_,hp.pile.head,by decide⟩
 ·exact ⟨_,_,hp.pile.next,by decide⟩
 ·exact ⟨_,_,hp.life k hk,by decide⟩
theorem poolAt_noDeferred {w:World} {p:Nat} {F:List Nat} {s:PSt} (h:PoolAt w p F s) {x:Nat} {d:Option (List Deferred)} (hx:x∈F) (hd:w.heap[x]?=some (.deferred d)):False:=by
 obtain ⟨cs,T,hh,-⟩:=poolAt_cells h hx
 rw [hd] at hh; cases hh
theorem poolAt_other {w:World} {p:Nat} {F:List Nat} {s:PSt} (h:PoolAt w p F s) {x:Nat} {y:Array Value} {S:TypeId} (hy:w.heap[x]?=some (.cells y S (0,0))) (hS:S∉([71,78,139,69,74]:List TypeId)):x∉F:=fun hx=>by
 obtain ⟨cs,T,hh,hT⟩:=poolAt_cells h hx
 rw [hy] at hh
 simp only [Option.some.injEq,Obj.cells.injEq] at hh
 rw [hh.2.1] at hS
 exact hS hT
def UndoR (w:World) (p tb it:Nat) (F:List Nat) (s:PSt) (St:List Nat) (l:List Int) (e:Ending) (w':World):Prop:=e=.returned (.int .i64 0)∧Turned F w w'∧∃ F' s' St',PoolAt w' p F' s'∧Wider F F' w∧tb∉F'∧Gave s s' St St' it l
theorem undo_ret {w:World} {D b6:Nat} {a:Act} {R:Ending→World→Prop} {r:Int} (hs:a.tmps.size=29) (hd:a.defers=[markD D]) (x6:a.eval (.tmp 6)=.pointer (some ⟨b6,0,none⟩)) (hK:w.heap[D]?=some (.deferred (some [])))
  (hr:w.heap[b6]?=some (.cells #[.int .i64 r] 31 (0,0))) (hR:R (.returned (.int .i64 r)) (w.putObj D (.deferred none))):bodyPostM Fence.wide 0 Tryz.prog Tryz.f11 R .ret a w:=by
 have n1:b6≠D:=fun e=>by rw [e,hK] at hr; cases hr
 obtain ⟨c0,-⟩:=cells1 ((World.putObj_heap_other (o:=.deferred none) n1).trans hr)
 refine marks_ret hK ?_ hd hR
 obtain ⟨cc,hcc,hce⟩:=expand29d hs hd
 have g6:=(hce 6).trans x6
 subst hcc
 simp only [lit29,g6]
 simp [results,Tryz.results11,go_sem,c0]
set_option maxRecDepth 100000 in
set_option maxHeartbeats 1600000 in
theorem cUndo {w:World} {tb p B it:Nat} {F:List Nat} {s:PSt} {St:List Nat} {v:Value} {l:List Int} (hT:TrieB w tb p) (hA:PoolAt w p F s) (ntb:tb∉F) (hV:PV s St it) (hit:it≤900000000) (hr:IR B w v l) (hvF:∀ g,v.ownBlock=some g→g∉F) (hnd:l.Nodup) (hl:l.length≤10000) (hc:∀ y∈l,∃ n,Ct s y n) :
  Calls Tryz.prog 11 #[pt tb,.pointer none,v] w (UndoR w p tb it F s St l):=by
 obtain ⟨va,vc,rfl⟩:=hr.form
 by_cases he:l=[]
 ·subst he
  have HA:Hid (PoolAt w p F s∧tb∉F∧PV s St it):=⟨hA,ntb,hV⟩
  clear hT hA ntb hV hr hvF hnd hl hc
  simp only [List.length_nil]
  refine calls_marks Tryz.func11 rfl ?_
  simp only [Tryz.ntmps11,List.size_toArray,List.length_cons,List.length_nil,Nat.reduceAdd,Nat.reduceSub,Array.replicate_succ,Array.replicate_zero,List.push_toArray,List.append_toArray,List.nil_append,List.cons_append]
  go_wp2_with (go_at_call 27; refine (cIdle _ _).mono ?_; rintro e w2 ⟨rfl,rfl⟩)
  refine marks_plain (v:=.int .i64 0) (by simp [results,Tryz.results11,go_sem]) rfl ?_
  have ht:Turned [] w (((w.alloc (.cells #[pt tb] 35 (0,0))).alloc (.cells #[.pointer none] 82 (0,0))).alloc (.cells #[.int .i64 0] 31 (0,0))):=(((Turned.refl _ _).alloc _).alloc _).alloc _
  exact ⟨rfl,ht.mono (by simp),F,s,St,HA.out.1.still ht,fun x hx=>.inl hx,HA.out.2.1,Gave.nil HA.out.2.2⟩
 ·have hne:((l.length:Int) == 0)=false:=by
   cases l with
   | nil=>exact absurd rfl he
   | cons _ _=>simp; omega
  have hFlt:=poolLaws.lt hA
  have hTlt:=lt_of_heap hT.blk
  have hvlt:∀ g,(Value.slice va l.length vc).ownBlock=some g→g < w.heap.size:=fun g hg=>(hr.fresh hg).2
  have hvT:∀ g,(Value.slice va l.length vc).ownBlock=some g→g≠tb:=fun g hg e=>by
   subst e
   rcases hr.own.2 with ⟨h0,h00⟩ | ⟨g',c,cs,hve,_,hh,_⟩
   ·rw [h0] at hg; cases hg
   ·rw [hve] at hg
    cases hg
    rw [hT.blk] at hh
    simp at hh
  have HH:Hid (TrieB w tb p∧PoolAt w p F s∧tb∉F∧PV s St it∧IR B w (.slice va l.length vc) l∧(∀ g,(Value.slice va l.length vc).ownBlock=some g→g∉F)∧l.Nodup∧(∀ y∈l,∃ n,Ct s y n)):=⟨hT,hA,ntb,hV,hr,hvF,hnd,hc⟩
  have HL:Hid ((∀ x,x∈F→x < w.heap.size)∧tb < w.heap.size∧(∀ g,(Value.slice va l.length vc).ownBlock=some g→g < w.heap.size)∧(∀ g,(Value.slice va l.length vc).ownBlock=some g→g≠tb)):=⟨hFlt,hTlt,hvlt,hvT⟩
  clear hT hA ntb hV hr hvF hnd hc hFlt hTlt hvlt hvT he
  refine calls_marks Tryz.func11 rfl ?_
  simp only [Tryz.ntmps11,List.size_toArray,List.length_cons,List.length_nil,Nat.reduceAdd,Nat.reduceSub,Array.replicate_succ,Array.replicate_zero,List.push_toArray,List.append_toArray,List.nil_append,List.cons_append]
  go_wp2_with (go_at_call 34; refine (cBackI _ _ _ _).mono ?_; rintro e w3 ⟨rfl,rfl⟩)
  obtain ⟨hT,hA,ntb,hV,hr,hvF,hnd,hc⟩:=HH.out
  obtain ⟨hFlt,hTlt,hvlt,hvT⟩:=HL.out
  have t3:Turned [] w (((w.alloc (.cells #[pt tb] 35 (0,0))).alloc (.cells #[.pointer none] 82 (0,0))).alloc (.cells #[.int .i64 0] 31 (0,0))):=(((Turned.refl _ _).alloc _).alloc _).alloc _
  obtain ⟨k3,k4,k6,-⟩:=three_cells (Turned.refl [] (((w.alloc (.cells #[pt tb] 35 (0,0))).alloc (.cells #[.pointer none] 82 (0,0))).alloc (.cells #[.int .i64 0] 31 (0,0))))
  have hsz:(((w.alloc (.cells #[pt tb] 35 (0,0))).alloc (.cells #[.pointer none] 82 (0,0))).alloc (.cells #[.int .i64 0] 31 (0,0))).heap.size=w.heap.size+1+1+1:=by simp
  generalize ((w.alloc (.cells #[pt tb] 35 (0,0))).alloc (.cells #[.pointer none] 82 (0,0))).alloc (.cells #[.int .i64 0] 31 (0,0))=w3 at *
  have t4:Turned [] w (w3.alloc (.cells #[.slice va l.length vc] 23 (0,0))):=t3.alloc _
  refine undo_loop (b3:=w.heap.size) (b4:=w.heap.size+1) (b6:=w.heap.size+1+1) (bx:=w.heap.size+1+1+1) (tb:=tb) (p:=p) (v:=.slice va l.length vc) (l:=l) (B:=B) (F:=F) (s:=s) (St:=St) (it:=it) rfl rfl rfl rfl rfl rfl hl (fun hm=>by have:=hFlt _ hm; omega) hvF (by omega) (by omega) (by omega) (fun g hg=>by have:=hvlt g hg; have:=hvT g hg; omega) ⟨(by have:=blk_new w3 (.cells #[.slice va l.length vc] 23 (0,0)); rw [hsz] at this; exact this),hr.keep t4 (by simp)⟩ ⟨⟨F,s,St,rfl,hA.still t4,by simp; exact Gave.nil hV,fun hm=>by have:=hFlt _ hm; omega,fun hm=>by have:=hFlt _ hm; omega,ntb⟩,blk_old k3 _,blk_old k4 _,t4.heap hT.blk (by simp)⟩ hc hnd (by omega) ?_
  intro a' y D G' hs hd x6 hU hW hTy hKD hDle
  obtain ⟨F',s',St',rfl,hA',hg,n3,n4,nT⟩:=hU.ex
  have hb6:y.heap[w.heap.size+1+1]?=some (.cells #[.int .i64 0] 31 (0,0)):=hTy.heap (blk_old k6 _) (by simp only [List.mem_cons,not_or]; exact ⟨by omega,by omega,by omega,fun hm=>by have:=hFlt _ hm; omega⟩)
  rw [show l.length - l.length=0 by omega] at hg
  have hDw:w.heap.size+1+1+1≤D:=by simp at hDle; omega
  have hTw:Turned F w y:=by
   refine Turned.drop (x:=tb) (Turned.inner (l:=tb :: F) (t4.mono (by simp)) hTy (fun z hz=>?_)) (hU.hT.trans hT.blk.symm)
   simp only [List.mem_cons] at hz ⊢
   rcases hz with h | h | h | h
   ·exact .inr (by omega)
   ·exact .inr (by omega)
   ·exact .inl (.inl h)
   ·exact .inl (.inr h)
  have hWd:Wider F F' w:=fun z hz=>by
   rcases hW z (by simp [hz]) with h | h
   ·simp only [List.mem_cons] at h
    rcases h with rfl | rfl | rfl | h
    ·exact absurd hz n3
    ·exact absurd hz n4
    ·exact absurd hz nT
    ·exact .inl h
   ·exact .inr (by have:=t4.size; omega)
  have HF:Hid (PoolAt y p F' s'∧Wider F F' w∧tb∉F'∧Gave s s' St St' it l∧Turned F w y):=⟨hA',hWd,nT,by simpa using hg,hTw⟩
  have hD6:D≠w.heap.size+1+1:=by omega
  obtain ⟨q0,qz⟩:=cells1 hb6
  obtain ⟨cc,hcc,hce⟩:=expand29d hs hd
  have g6:=(hce 6).trans x6
  have HKD:Hid _:=hKD
  have HB6:Hid _:=hb6
  have HDW:Hid (w.heap.size+1+1+1≤D):=hDw
  have n6:w.heap.size+1+1∉F':=fun hm=>by
   rcases hW _ (show w.heap.size+1+1∈w.heap.size :: (w.heap.size+1) :: tb :: F' by simp [hm]) with h | h
   ·simp only [List.mem_cons] at h
    rcases h with h | h | h | h
    ·omega
    ·omega
    ·omega
    ·have:=hFlt _ h; omega
   ·simp at h; omega
  have nDF:D∉F':=fun hm=>poolAt_noDeferred hA' hm hKD
  clear hU hW hTy hKD hDle hA' hg n3 n4 nT hTw hWd hb6 hce hs hd x6 hDw
  subst hcc
  simp only [lit29,g6]
  go_wp2
  refine undo_ret (b6:=w.heap.size+1+1) rfl rfl rfl ((blk_other hD6 _ _).trans HKD.out) (blk_set HB6.out 0 _) ?_
  obtain ⟨hA',hWd,nT,hg,hTw⟩:=HF.out
  have tf:Turned [w.heap.size+1+1,D] y ((y.setCell ⟨w.heap.size+1+1,0,none⟩ (.int .i64 0)).putObj D (.deferred none)):=((Turned.refl _ _).set (.inl (by simp)) _ _).trans ((turned_put _).mono (by simp))
  refine ⟨rfl,hTw.inner tf (fun z hz=>by simp at hz; have:=HDW.out; omega),F',s',St',poolLaws.keep hA' tf (fun z hz=>by simp at hz; rcases hz with rfl | rfl; exact n6; exact nDF),hWd,nT,hg⟩
end Go.Proofs.YtcinlaacgbfojaaGreatDoor
/- Drawn regions of package trie's change. (Written by tools/gen/gentake2.py.) -/
namespace Go.Proofs.YtcinlaacgbfojaaGreatDoor
open Go.RowKit
def take_r2V (cb tb p:Nat) (nn:Value) (xa xb xc xd r1 r2:Int):Nat × (Nat→Value)→Nat→Value:=fun _ j=>match j with | 0=>(pa cb 0) | 1=>(pa cb 0) | 2=>(pa cb 0) | 3=>(pa cb 0) | 4=>(pa tb 0) | 5=>(pa tb 0) | 6=>(pa tb 0) | 7=>(pa p 0) | 8=>(pa cb 0) | 9=>(pa cb 0) | 10=>(pa cb 1) | 11=>(Value.pointer none) | 12=>nn | 13=>(Value.agg #[.int .i64 xa,.int .i64 xb,.int .i64 xc,.int .i64 xd]) | 14=>(Value.tuple #[.int .i64 r1,.int .i64 r2]) | 15=>(Value.tuple #[.int .i64 r1,.int .i64 r2]) | 16=>(.int .i64 r1) | 17=>(.int .i64 r2) | 18=>(.int .i64 r1) | 19=>(pa cb 0) | 20=>(pa cb 7) | 21=>undef | _=>undef
set_option maxRecDepth 100000 in
set_option maxHeartbeats 1600000 in
theorem take_r2 {cb tb p:Nat} {nn:Value} {xa xb xc xd r1 r2:Int} {Ph:Nat→(Nat→Value)→World→Prop} {K:Act→World→Prop} {Q:Exit→Act→World→Prop} {a0:Act} {w:World} (hs:a0.tmps.size=52) (x0:a0.eval (.tmp 0)=pa cb 0) (x1:a0.eval (.tmp 1)=nn) (hc:∀ g u x,Ph g u x→x.cell? ⟨cb,0,none⟩=some (pa tb 0)∧x.cell? ⟨cb,1,none⟩=some (.pointer none)∧x.cell? ⟨tb,0,none⟩=some (pa p 0)) (hA:Ph 0 (fun _=>undef) w.drew)
  (hL0:∀ u x,Ph 0 u x→Calls Tryz.prog 59 #[nn] x fun e w'=>e=.returned (Value.agg #[.int .i64 xa,.int .i64 xb,.int .i64 xc,.int .i64 xd])∧Ph 1 u w')
  (hL1:∀ u x,Ph 1 u x→Calls Tryz.prog 58 #[pa p 0,.pointer none,(Value.agg #[.int .i64 xa,.int .i64 xb,.int .i64 xc,.int .i64 xd]),.int .i64 0] x fun e w'=>e=.returned (Value.tuple #[.int .i64 r1,.int .i64 r2])∧Ph 2 u w')
  (hL2:∀ u x,Ph 2 u x→∃ w',(Instr.storeAt 31 (pa cb 7) (.int .i64 r2)).run Tryz.prog x=.ok () w'∧Ph 3 u w')
  (hEnd:∀ a' x u,a'.tmps.size=a0.tmps.size→a'.defers=a0.defers→(∀ s,some s∉([some 11,some 12,some 13,some 14,some 15,some 16,some 17,some 18,some 19,some 20,some 21,some 22,some 23,some 24,some 25,some 10,some 26,some 27,some 4,some 28,some 29,none]:List (Option Nat))→a'.eval (.tmp s)=a0.eval (.tmp s))→a'.eval (.tmp 4)=(.int .i64 r1)→Ph 3 u x→K a' x):(Code.region 2 (opsR 2 Tryz.f28.body) true).wp Tryz.prog (Exit.then K Q) a0 w:=by
 refine wp_region_ghost3 (G:=Nat × (Nat→Value)) (by kernel_rfl) [some 11,some 12,some 13,some 14,some 15,some 16,some 17,some 18,some 19,some 20,some 21,some 22,some 23,some 24,some 25,some 10,some 26,some 27,some 4,some 28,some 29,none] (by rw [hs]; kernel_rfl) (take_r2V cb tb p nn xa xb xc xd r1 r2) [13,14,21] ?_ (doneP [13,14,21]) (StP 3 Ph) ((0,fun _=>undef)) (⟨Nat.zero_le _,hA⟩) (by intro x hx; simp at hx; rcases hx with rfl | rfl | rfl <;> rfl) (by decide) ?_ ?_
 ·exact fun i g b h _=>absurd h (noG (by kernel_rfl) i g b)
 ·intro i hi hgd
  rcases (by simp at hi; omega:i=0∨i=1∨i=2∨i=3∨i=4∨i=5∨i=6∨i=7∨i=8∨i=9∨i=10∨i=11∨i=12∨i=13∨i=14∨i=15∨i=16∨i=17∨i=18∨i=19∨i=20∨i=21) with rfl | rfl | rfl | rfl | rfl | rfl | rfl | rfl | rfl | rfl | rfl | rfl | rfl | rfl | rfl | rfl | rfl | rfl | rfl | rfl | rfl | rfl
  ·refine soft (by decide) ?_
   intro o ac wa g ho hoff hv hS hdn
   exact (x_move (op_is rfl ho)).trans (by rw [((hoff 0 (by decide)).trans x0)]; rfl)
  ·refine soft (by decide) ?_
   intro o ac wa g ho hoff hv hS hdn
   exact (x_move (op_is rfl ho)).trans (by rw [((hoff 0 (by decide)).trans x0)]; rfl)
  ·refine soft (by decide) ?_
   intro o ac wa g ho hoff hv hS hdn
   exact x_nil (op_is rfl ho) ((hv 1 12 rfl (by kernel_rfl)))
  ·refine soft (by decide) ?_
   intro o ac wa g ho hoff hv hS hdn
   exact x_field (op_is rfl ho) (by rw [(hv 2 13 rfl (by kernel_rfl))]; show (Instr.fieldAt _ (pa _ _) _).run _ _=.ok (pa _ _) _; unfold pa; go_simp)
  ·refine soft (by decide) ?_
   intro o ac wa g ho hoff hv hS hdn
   have hc:=(hc _ _ _ hS.ph).1
   exact x_load (op_is rfl ho) (by rw [(hv 3 14 rfl (by kernel_rfl))]; show (Instr.loadAt _ (pa _ _)).run _ _=_; unfold pa; go_simp; first | rfl | skip)
  ·refine soft (by decide) ?_
   intro o ac wa g ho hoff hv hS hdn
   exact x_nil (op_is rfl ho) ((hv 4 15 rfl (by kernel_rfl)))
  ·refine soft (by decide) ?_
   intro o ac wa g ho hoff hv hS hdn
   exact x_field (op_is rfl ho) (by rw [(hv 5 16 rfl (by kernel_rfl))]; show (Instr.fieldAt _ (pa _ _) _).run _ _=.ok (pa _ _) _; unfold pa; go_simp)
  ·refine soft (by decide) ?_
   intro o ac wa g ho hoff hv hS hdn
   have hc:=(hc _ _ _ hS.ph).2.2
   exact x_load (op_is rfl ho) (by rw [(hv 6 17 rfl (by kernel_rfl))]; show (Instr.loadAt _ (pa _ _)).run _ _=_; unfold pa; go_simp; first | rfl | skip)
  ·refine soft (by decide) ?_
   intro o ac wa g ho hoff hv hS hdn
   exact (x_move (op_is rfl ho)).trans (by rw [((hoff 0 (by decide)).trans x0)]; rfl)
  ·refine soft (by decide) ?_
   intro o ac wa g ho hoff hv hS hdn
   exact x_nil (op_is rfl ho) ((hv 8 19 rfl (by kernel_rfl)))
  ·refine soft (by decide) ?_
   intro o ac wa g ho hoff hv hS hdn
   exact x_field (op_is rfl ho) (by rw [(hv 9 20 rfl (by kernel_rfl))]; show (Instr.fieldAt _ (pa _ _) _).run _ _=.ok (pa _ _) _; unfold pa; go_simp)
  ·refine soft (by decide) ?_
   intro o ac wa g ho hoff hv hS hdn
   have hc:=(hc _ _ _ hS.ph).2.1
   exact x_load (op_is rfl ho) (by rw [(hv 10 21 rfl (by kernel_rfl))]; show (Instr.loadAt _ (pa _ _)).run _ _=_; unfold pa; go_simp; first | rfl | skip)
  ·refine soft (by decide) ?_
   intro o ac wa g ho hoff hv hS hdn
   exact (x_move (op_is rfl ho)).trans (by rw [((hoff 1 (by decide)).trans x1)]; rfl)
  ·intro o ac wa g K ho hd _ hoff hv hS hpre hnd hlater hK
   have h1:g.1≤0:=by have:=hnd (by simp); simpa [doneP,List.idxOf,List.findIdx,List.findIdx.go] using this
   have hg:g.1=0:=by omega
   obtain ⟨g1,u⟩:=g
   simp only at hg
   subst hg
   refine l_callE (op_is rfl ho) (xs:=#[nn]) (by simp only [List.map_toArray,List.map_cons,List.map_nil]; rw [(hv 12 23 rfl (by kernel_rfl))]; rfl) Tryz.func59 (by kernel_rfl) rfl (hL0 u wa hS.ph) ?_
   rintro e w' ⟨rfl,hp⟩
   refine ⟨_,rfl,?_⟩
   rw [hd]
   refine hK (1,u) w' ⟨by simp,hp⟩ (by intro x hx; simp at hx; rcases hx with rfl | rfl | rfl <;> simp [doneP,List.idxOf,List.findIdx,List.findIdx.go]) fun j hj hr=>?_
   match j,hr with
   | 0,_=>rfl
   | 1,_=>rfl
   | 2,_=>rfl
   | 3,_=>rfl
   | 4,_=>rfl
   | 5,_=>rfl
   | 6,_=>rfl
   | 7,_=>rfl
   | 8,_=>rfl
   | 9,_=>rfl
   | 10,_=>rfl
   | 11,_=>rfl
   | 12,_=>rfl
   | 13,_=>exact absurd rfl hj
   | 14,_=>rfl
   | 15,_=>rfl
   | 16,_=>rfl
   | 17,_=>rfl
   | 18,_=>rfl
   | 19,_=>rfl
   | 20,_=>rfl
   | 21,_=>rfl
   | q+22,_=>rfl
  ·intro o ac wa g K ho hd _ hoff hv hS hpre hnd hlater hK
   have h1:g.1≤1:=by have:=hnd (by simp); simpa [doneP,List.idxOf,List.findIdx,List.findIdx.go] using this
   have h2:1≤g.1:=by have:=hpre 13 (by simp) (by kernel_rfl); simp [doneP,List.idxOf,List.findIdx,List.findIdx.go] at this; omega
   have hg:g.1=1:=by omega
   obtain ⟨g1,u⟩:=g
   simp only at hg
   subst hg
   refine l_callE (op_is rfl ho) (xs:=#[pa p 0,.pointer none,(Value.agg #[.int .i64 xa,.int .i64 xb,.int .i64 xc,.int .i64 xd]),.int .i64 0]) (by simp only [List.map_toArray,List.map_cons,List.map_nil]; rw [(hv 7 18 rfl (by kernel_rfl)),(hv 11 22 rfl (by kernel_rfl)),(hv 13 24 rfl (by kernel_rfl))]; rfl) Tryz.func58 (by kernel_rfl) rfl (hL1 u wa hS.ph) ?_
   rintro e w' ⟨rfl,hp⟩
   refine ⟨_,rfl,?_⟩
   rw [hd]
   refine hK (2,u) w' ⟨by simp,hp⟩ (by intro x hx; simp at hx; rcases hx with rfl | rfl | rfl <;> simp [doneP,List.idxOf,List.findIdx,List.findIdx.go]) fun j hj hr=>?_
   match j,hr with
   | 0,_=>rfl
   | 1,_=>rfl
   | 2,_=>rfl
   | 3,_=>rfl
   | 4,_=>rfl
   | 5,_=>rfl
   | 6,_=>rfl
   | 7,_=>rfl
   | 8,_=>rfl
   | 9,_=>rfl
   | 10,_=>rfl
   | 11,_=>rfl
   | 12,_=>rfl
   | 13,_=>rfl
   | 14,_=>exact absurd rfl hj
   | 15,_=>rfl
   | 16,_=>rfl
   | 17,_=>rfl
   | 18,_=>rfl
   | 19,_=>rfl
   | 20,_=>rfl
   | 21,_=>rfl
   | q+22,_=>rfl
  ·refine soft (by decide) ?_
   intro o ac wa g ho hoff hv hS hdn
   exact (x_move (op_is rfl ho)).trans (by rw [(hv 14 25 rfl (by kernel_rfl))]; rfl)
  ·refine soft (by decide) ?_
   intro o ac wa g ho hoff hv hS hdn
   exact x_extrQ (op_is rfl ho) ((hv 15 10 rfl (by kernel_rfl))) rfl
  ·refine soft (by decide) ?_
   intro o ac wa g ho hoff hv hS hdn
   exact x_extrQ (op_is rfl ho) ((hv 15 10 rfl (by kernel_rfl))) rfl
  ·refine soft (by decide) ?_
   intro o ac wa g ho hoff hv hS hdn
   exact (x_assign (op_is rfl ho)).trans (by rw [(hv 16 26 rfl (by kernel_rfl))]; rfl)
  ·refine soft (by decide) ?_
   intro o ac wa g ho hoff hv hS hdn
   exact x_nil (op_is rfl ho) ((hv 0 11 rfl (by kernel_rfl)))
  ·refine soft (by decide) ?_
   intro o ac wa g ho hoff hv hS hdn
   exact x_field (op_is rfl ho) (by rw [(hv 19 28 rfl (by kernel_rfl))]; show (Instr.fieldAt _ (pa _ _) _).run _ _=.ok (pa _ _) _; unfold pa; go_simp)
  ·intro o ac wa g K ho hd _ hoff hv hS hpre hnd hlater hK
   have h1:g.1≤2:=by have:=hnd (by simp); simpa [doneP,List.idxOf,List.findIdx,List.findIdx.go] using this
   have h2:2≤g.1:=by have:=hpre 14 (by simp) (by kernel_rfl); simp [doneP,List.idxOf,List.findIdx,List.findIdx.go] at this; omega
   have hg:g.1=2:=by omega
   obtain ⟨g1,u⟩:=g
   simp only at hg
   subst hg
   obtain ⟨w',hr',hp⟩:=hL2 u wa hS.ph
   refine l_skip hd (x_store (op_is rfl ho) (by rw [(hv 20 29 rfl (by kernel_rfl)),(hv 17 27 rfl (by kernel_rfl))]; exact hr')) ?_
   refine hK (3,u) w' ⟨by simp,hp⟩ (by intro x hx; simp at hx; rcases hx with rfl | rfl | rfl <;> simp [doneP,List.idxOf,List.findIdx,List.findIdx.go]) fun j hj hr=>?_
   match j,hr with
   | 0,_=>rfl
   | 1,_=>rfl
   | 2,_=>rfl
   | 3,_=>rfl
   | 4,_=>rfl
   | 5,_=>rfl
   | 6,_=>rfl
   | 7,_=>rfl
   | 8,_=>rfl
   | 9,_=>rfl
   | 10,_=>rfl
   | 11,_=>rfl
   | 12,_=>rfl
   | 13,_=>rfl
   | 14,_=>rfl
   | 15,_=>rfl
   | 16,_=>rfl
   | 17,_=>rfl
   | 18,_=>rfl
   | 19,_=>rfl
   | 20,_=>rfl
   | 21,_=>exact absurd rfl hj
   | q+22,_=>rfl
 ·intro a' w' g hsz hdf hoff hS hdn hval
  obtain ⟨g1,u⟩:=g
  have hg:g1=3:=by have h:=hdn 21 (by simp); simp [doneP,List.idxOf,List.findIdx,List.findIdx.go] at h; have:=hS.le; simp only at this; omega
  subst hg
  exact hEnd a' w' u hsz hdf (fun s hs=>ev_same (hoff s hs)) (hval 18 4 rfl) hS.ph
end Go.Proofs.YtcinlaacgbfojaaGreatDoor

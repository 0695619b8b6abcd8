/- Package trie's nth, Select, alone, by contract. -/
import Derived.Test.YtloljphbdfjgdaaGreatDoorK26
import Derived.Test.YtloljphbdfjgdaaGreatDoorK05
import Derived.Test.YtloljphbdfjgdaaGreatDoorK06
import Derived.Test.YtloljphbdfjgdaaGreatDoorK25
import Derived.Test.YtloljphbdfjgdaaGreatDoorK21
import Derived.Test.YtloljphbdfjgdaaGreatDoorK03
namespace Go.Proofs.YtloljphbdfjgdaaGreatDoor
open Go.RowKit
structure NF (w:World) (tb:Nat) (z:Option (Int × Int)) (s:PSt) (a:Act) (x:World):Prop where
 hs:a.tmps.size=58
 hd:a.defers=[]
 x0:a.eval (.tmp 0)=pt tb
 x1:a.eval (.tmp 1)=.pointer none
 x6:a.eval (.tmp 6)=.pointer (some ⟨w.heap.size,0,none⟩)
 x8:a.eval (.tmp 8)=.pointer (some ⟨w.heap.size+1,0,none⟩)
 ex:∃ u a1 b1 n j,a.eval (.tmp 3)=.int .i64 (j:Nat)∧NI w z s u a1 b1 n j x∧(n=.nilIface∨n=nv u)
def NthR (w:World) (z:Option (Int × Int)) (e:Ending) (y:World):Prop:=∃ p,z=some p∧e=.returned (.tuple #[.agg #[.int .i64 p.1,.int .i64 p.2],.int .i64 0])∧Turned [] w y
set_option maxRecDepth 100000 in
set_option maxHeartbeats 1600000 in
theorem nth_round {w x:World} {tb p:Nat} {F:List Nat} {s:PSt} {z:Option (Int × Int)} {a:Act} {Q:Exit→Act→World→Prop} (hT:TrieB w tb p) (hA:PoolAt w p F s) (hO:s.Ok) (h:NF w tb z s a x)
  (hQ:∀ a' y,bodyPost Tryz.prog Tryz.f54 (NthR w z) .ret a' y→Q .ret a' y) :
  (atc Tryz.f54.body [1,1,1]).wp Tryz.prog (Exit.then (fun a' y=>NF w tb z s a' y∧spanAt y w.heap.size < spanAt x w.heap.size) Q) a x:=by
 obtain ⟨hs,hd,x0,x1,x6,x8,⟨u,a1,b1,n,j,x3,hI,hn⟩⟩:=h
 have hlen:=spanAt_of hI.sp
 refine wp_block ?_
 refine wp_seq (nth_r1 hs hd x0 x1 x3 x6 x8 ?_)
 clear hs hd x0 x1 x3 x6 x8
 intro a2 hs hd x0 x1 x3 x6 x8
 obtain ⟨T,nvv,hN⟩:=nv_form u
 refine wp_seq (nth_rd (T:=T) (nvv:=nvv) hs hd x0 x1 x3 x6 x8 hI (fun y hy=>?_) ?_)
 ·rcases hn with rfl | rfl
  ·rw [← hN]; exact cReadT ((hT.still hI.turned).still hy) ((hA.still hI.turned).still hy) hO hI.rep hI.wf hI.lo hI.hi
  ·rw [hN]; exact cReadD y
 clear hs hd x0 x1 x3 x6 x8 hI
 intro a3 y hs hd x0 x1 x3 x6 x8 hI
 refine wp_seq (nth_r5 hs hd x0 x1 x3 x6 x8 hI ?_)
 clear hs hd x0 x1 x3 x6 x8
 intro a4 hs hd x0 x1 x3 x6 x8 x26
 cases u with
 | leaf h kk vv =>
  cases hN
  have hj:j=0:=by have:=hI.lt; rw [Tr.cnt_leaf] at this; omega
  subst hj
  refine wp_lastR (nth_L hs hd x0 x1 x3 x6 x8 x26 hI (fun a' y h=>⟨rfl,hQ a' y h⟩) fun y' hy=>⟨(kk,vv),?_,rfl,hy⟩)
  rw [hI.pick]; rfl
 | node h q c l r =>
  obtain ⟨g1,g2,g3,g4,g5,g6,g7,g8,g9,g10⟩:=id hI.wf
  have hpow:=Tr.pow_pos' q
  cases hN
  have hlo:a1≤c:=hI.lo
  have hhi:c+2 * 2 ^ q - 1≤b1:=hI.hi
  have hsm:=hI.rep.small hI.wf hO
  have hjl:=hI.lt
  rw [Tr.cnt_node] at hsm hjl
  have hpk:z=(l.pairs ++ r.pairs)[j]?:=hI.pick
  have hlc:l.cnt=l.pairs.length:=rfl
  have hRd:∀ y',Turned [] y y'→Calls Tryz.prog 53 #[pt tb,.pointer none,.agg #[.int .i64 l.hd,.int .i64 c,.int .i64 (c+2 ^ q - 1),.nilIface]] y' fun e w'=>e=.returned (.tuple #[.agg #[.int .i64 l.hd,.int .i64 c,.int .i64 (c+2 ^ q - 1),nv l],.int .i64 0])∧Turned [] y' w':=fun y' hy=>cReadT ((hT.still hI.turned).still hy) ((hA.still hI.turned).still hy) hO hI.rep.2.1 g9 g5 (by omega)
  have fin:∀ (u':Tr) (a2 b2:Int) (n':Value) (j':Nat),(n'=.nilIface∨n'=nv u')→c≤a2→b2≤c+2 * 2 ^ q - 1→b2 - a2+1=2 ^ q→∀ a8 z',a8.tmps.size=58→a8.defers=[]→a8.eval (.tmp 0)=pt tb→a8.eval (.tmp 1)=.pointer none→a8.eval (.tmp 3)=.int .i64 (j':Nat)→a8.eval (.tmp 6)=.pointer (some ⟨w.heap.size,0,none⟩)→a8.eval (.tmp 8)=.pointer (some ⟨w.heap.size+1,0,none⟩)→NI w z s u' a2 b2 n' j' z'→NF w tb z s a8 z'∧spanAt z' w.heap.size < spanAt x w.heap.size:=by
   intro u' a2 b2 n' j' hn' h1 h2 h3 a8 z' hs hd x0 x1 x3 x6 x8 hJ
   refine ⟨⟨hs,hd,x0,x1,x6,x8,⟨_,_,_,_,_,x3,hJ,hn'⟩⟩,?_⟩
   rw [spanAt_of hJ.sp,hlen]
   omega
  by_cases hlj:l.cnt≤j
  ·have hp2:z=r.pairs[j - l.cnt]?:=by rw [hpk,List.getElem?_append_right (by omega)]; rfl
   cases l with
   | leaf hl kl vl =>
    exact wp_last (nth_ILg (u':=r) (j2:=j - 1) (K:=fun a' y=>NF w tb z s a' y∧spanAt y w.heap.size < spanAt x w.heap.size) hs hd x0 x1 x3 x6 x8 x26 hI (cChild0 _ _ _ g2 g3 g1) hRd (cChild1 _ _ _ g2 g3 g1) (by rw [Tr.cnt_leaf] at hlj; omega) (by omega) (by rw [Tr.cnt_leaf] at hlj; omega) g10 hI.rep.2.2 g7 (by omega) (by rw [Tr.cnt_leaf] at *; omega) hp2 (fin r _ _ _ _ (.inl rfl) (by omega) (by omega) (by omega)))
   | node hl ql bl ll lr =>
    have hcn:=Tr.cnt_node hl ql bl ll lr
    exact wp_last (nth_INg (u':=r) (j2:=j - (ll.cnt+lr.cnt)) (K:=fun a' y=>NF w tb z s a' y∧spanAt y w.heap.size < spanAt x w.heap.size) hs hd x0 x1 x3 x6 x8 x26 hI (cChild0 _ _ _ g2 g3 g1) hRd (cChild1 _ _ _ g2 g3 g1) (by rw [hcn] at hlj; omega) (by omega) (by omega) (by rw [hcn] at hlj; omega) g10 hI.rep.2.2 g7 (by omega) (by rw [hcn] at hlj hjl; omega) (by rw [← hcn]; exact hp2) (fin r _ _ _ _ (.inl rfl) (by omega) (by omega) (by omega)))
  ·have hp2:z=l.pairs[j]?:=by rw [hpk,List.getElem?_append_left (by omega)]
   cases l with
   | leaf hl kl vl =>
    exact wp_last (nth_ILs (u':=.leaf hl kl vl) (K:=fun a' y=>NF w tb z s a' y∧spanAt y w.heap.size < spanAt x w.heap.size) hs hd x0 x1 x3 x6 x8 x26 hI (cChild0 _ _ _ g2 g3 g1) hRd (by rw [Tr.cnt_leaf] at hlj; omega) rfl g9 hI.rep.2.1 g5 (by omega) (by omega) hp2 (fin _ _ _ _ _ (.inr rfl) (by omega) (by omega) (by omega)))
   | node hl ql bl ll lr =>
    have hcn:=Tr.cnt_node hl ql bl ll lr
    exact wp_last (nth_INs (u':=.node hl ql bl ll lr) (K:=fun a' y=>NF w tb z s a' y∧spanAt y w.heap.size < spanAt x w.heap.size) hs hd x0 x1 x3 x6 x8 x26 hI (cChild0 _ _ _ g2 g3 g1) hRd (by rw [hcn] at hlj; omega) rfl g9 hI.rep.2.1 g5 (by omega) (by omega) hp2 (fin _ _ _ _ _ (.inr rfl) (by omega) (by omega) (by omega)))
set_option maxRecDepth 100000 in
set_option maxHeartbeats 1600000 in
theorem cNth {w:World} {tb p:Nat} {F:List Nat} {s:PSt} {t:Tr} {a b:Int} {n:Value} (hT:TrieB w tb p) (hA:PoolAt w p F s) (hO:s.Ok) (hc:Rep s t) (hw:t.WF) (ha:a≤t.lo) (hb:t.hi≤b) (hn:n=.nilIface∨n=nv t) (j:Nat) (hj:j < t.cnt) :
  Calls Tryz.prog 54 #[pt tb,.pointer none,.agg #[.int .i64 t.hd,.int .i64 a,.int .i64 b,n],.int .i64 (j:Nat)] w (NthR w t.pairs[j]?):=by
 have HT:Hid (TrieB w tb p):=hT
 have HA:Hid (PoolAt w p F s):=hA
 have HO:Hid s.Ok:=hO
 have HN:Hid (n=.nilIface∨n=nv t):=hn
 have HC:Hid (Rep s t∧t.WF∧a≤t.lo∧t.hi≤b∧j < t.cnt):=⟨hc,hw,ha,hb,hj⟩
 obtain ⟨c1,hc1⟩:∃ z,z=t.hd:=⟨_,rfl⟩
 have HU:Hid (c1=t.hd):=hc1
 rw [← hc1]
 clear hT hA hO hc hw ha hb hc1 hj
 rcases hn with rfl | hnn
 ·clear HN
  go_enter Tryz.func54,Tryz.ntmps54
  go_wp2
  refine wp_loop (fun a x=>NF w tb t.pairs[j]? s a x) (fun _ x=>spanAt x w.heap.size) ⟨rfl,rfl,rfl,rfl,rfl,rfl,⟨t,a,b,.nilIface,j,rfl,⟨((Turned.refl _ _).alloc _).alloc _,by rw [← HU.out]; exact blk_old (blk_new _ _) _,by have:=blk_new (w.alloc (.cells #[.int .i64 c1,.int .i64 a,.int .i64 b,.nilIface] 120 (0,0))) (.cells #[.int .i64 0,.int .i64 0] 60 (0,0)); rw [World.size_alloc] at this; exact this,HC.out.2.1,HC.out.1,HC.out.2.2.1,HC.out.2.2.2.1,HC.out.2.2.2.2,rfl⟩,.inl rfl⟩⟩ (fun a x hx=>?_)
  exact nth_round HT.out HA.out HO.out hx (fun a' y h=>h)
 ·obtain ⟨T,nvv,hN⟩:=nv_form t
  rw [hN] at hnn
  subst hnn
  have HNN:Hid (nv t=.iface T nvv):=hN
  clear HN hN
  go_enter Tryz.func54,Tryz.ntmps54
  go_wp2
  refine wp_loop (fun a x=>NF w tb t.pairs[j]? s a x) (fun _ x=>spanAt x w.heap.size) ⟨rfl,rfl,rfl,rfl,rfl,rfl,⟨t,a,b,.iface T nvv,j,rfl,⟨((Turned.refl _ _).alloc _).alloc _,by rw [← HU.out]; exact blk_old (blk_new _ _) _,by have:=blk_new (w.alloc (.cells #[.int .i64 c1,.int .i64 a,.int .i64 b,.iface T nvv] 120 (0,0))) (.cells #[.int .i64 0,.int .i64 0] 60 (0,0)); rw [World.size_alloc] at this; exact this,HC.out.2.1,HC.out.1,HC.out.2.2.1,HC.out.2.2.2.1,HC.out.2.2.2.2,rfl⟩,.inr HNN.out.symm⟩⟩ (fun a x hx=>?_)
  exact nth_round HT.out HA.out HO.out hx (fun a' y h=>h)
set_option maxRecDepth 100000 in
set_option maxHeartbeats 1600000 in
theorem cSelect {w:World} {tb p:Nat} {F:List Nat} {s:PSt} {t:Tr} (hT:TrieB w tb p) (hA:PoolAt w p F s) (hO:s.Ok) (hr:Rep s t) (hw:t.WF) (j:Nat) (hj:j < t.cnt) :
  Calls Tryz.prog 24 #[pt tb,.pointer none,.int .i64 t.hd,.int .i64 (j:Nat)] w (NthR w t.pairs[j]?):=by
 have hpos:=hr.top.pos
 have hsp:=hw.span
 have hz:(t.hd == 0)=false:=by simp; omega
 have hsm:=hr.small hw hO
 have HD:Hid (∀ x,Turned [] w x→Calls Tryz.prog 53 #[pt tb,.pointer none,.agg #[.int .i64 t.hd,.int .i64 0,.int .i64 4294967295,.nilIface]] x fun e w'=>e=.returned (.tuple #[.agg #[.int .i64 t.hd,.int .i64 0,.int .i64 4294967295,nv t],.int .i64 0])∧Turned [] x w'):=fun x hx=>cReadT (hT.still hx) (hA.still hx) hO hr hw hsp.1 hsp.2.2
 have HN:Hid (∀ x,Turned [] w x→Calls Tryz.prog 54 #[pt tb,.pointer none,.agg #[.int .i64 t.hd,.int .i64 0,.int .i64 4294967295,nv t],.int .i64 (j:Nat)] x (NthR x t.pairs[j]?)):=fun x hx=>cNth (hT.still hx) (hA.still hx) hO hr hw hsp.1 hsp.2.2 (.inr rfl) j hj
 have hj0:¬ (j:Int) < 0:=by omega
 clear hT hA hO hpos hsp
 cases t with
 | leaf h k v =>
  have HD2:Hid (∀ x,Turned [] w x→Calls Tryz.prog 53 #[pt tb,.pointer none,.agg #[.int .i64 h,.int .i64 0,.int .i64 4294967295,.nilIface]] x fun e w'=>e=.returned (.tuple #[.agg #[.int .i64 h,.int .i64 0,.int .i64 4294967295,.iface 128 (.agg #[.int .i64 k,.int .i64 v])],.int .i64 0])∧Turned [] x w'):=HD.out
  have HN2:Hid (∀ x,Turned [] w x→Calls Tryz.prog 54 #[pt tb,.pointer none,.agg #[.int .i64 h,.int .i64 0,.int .i64 4294967295,.iface 128 (.agg #[.int .i64 k,.int .i64 v])],.int .i64 (j:Nat)] x (NthR x (Tr.leaf h k v).pairs[j]?)):=HN.out
  have hz2:(h == 0)=false:=hz
  show Calls _ _ #[_,_,.int .i64 h,_] _ _
  have hjc:¬ (1:Int)≤(j:Int):=by rw [Tr.cnt_leaf] at hj; omega
  generalize (Tr.leaf h k v).pairs[j]?=zz at *
  have mm:=m_leaf_count
  clear HD hz HN hr hw hsm hj
  go_enter Tryz.func24,Tryz.ntmps24
  go_wp2_with (first
   | (go_at_call 39; refine (cRootSpot _ _).mono ?_; rintro e w1 ⟨rfl,ht1⟩; obtain ⟨hb,ht⟩:=one_cells ht1; have HB1:Hid _:=hb; have HT1:Hid (Turned [] w w1):=ht; clear ht1 ht hb)
   | (go_at_call 53; refine (HD2.out _ HT1.out).mono ?_; rintro e w2 ⟨rfl,ht2⟩; have HB2:Hid _:=ht2.heap HB1.out (by simp); have HT2:Hid (Turned [] w w2):=HT1.out.trans ht2; clear ht2)
   | (go_at_call 139; refine (cLeafCount _ _ _).mono ?_; rintro e w3 ⟨rfl,ht3⟩; obtain ⟨hb,ht⟩:=one_cells ht3; obtain ⟨⟨s0,s1,s2,s3⟩,-⟩:=cells4 hb; have HB3:Hid _:=ht.heap HB2.out (by simp); have HT3:Hid (Turned [] w w3):=HT2.out.trans ht; clear ht3 ht hb)
   | (go_at_call 54; refine (HN2.out _ HT3.out).mono ?_; rintro e w4 ⟨zp,hzp,rfl,ht4⟩; obtain ⟨⟨c0,c1⟩,z0,z1⟩:=cells2 (ht4.heap HB3.out (by simp)); have HZ:Hid _:=hzp; have HT4:Hid (Turned [] w w4):=HT3.out.trans ht4; clear ht4 hzp))
  exact bodyPost_ret (v:=.tuple #[.agg #[.int .i64 zp.1,.int .i64 zp.2],.int .i64 0]) (by simp [results,Tryz.results24,go_sem,c0,c1]) rfl ⟨zp,HZ.out,rfl,(HT4.out.set (.inr (Nat.le_refl _)) _ _).set (.inr (Nat.le_refl _)) _ _⟩
 | node h q c l r =>
  have HD2:Hid (∀ x,Turned [] w x→Calls Tryz.prog 53 #[pt tb,.pointer none,.agg #[.int .i64 h,.int .i64 0,.int .i64 4294967295,.nilIface]] x fun e w'=>e=.returned (.tuple #[.agg #[.int .i64 h,.int .i64 0,.int .i64 4294967295,.iface 151 (.agg #[.int .i64 c,.int .i64 q,.int .i64 l.hd,.int .i64 r.hd,.int .i64 (l.cnt+r.cnt:Nat)])],.int .i64 0])∧Turned [] x w'):=HD.out
  have HN2:Hid (∀ x,Turned [] w x→Calls Tryz.prog 54 #[pt tb,.pointer none,.agg #[.int .i64 h,.int .i64 0,.int .i64 4294967295,.iface 151 (.agg #[.int .i64 c,.int .i64 q,.int .i64 l.hd,.int .i64 r.hd,.int .i64 (l.cnt+r.cnt:Nat)])],.int .i64 (j:Nat)] x (NthR x (Tr.node h q c l r).pairs[j]?)):=HN.out
  have hz2:(h == 0)=false:=hz
  show Calls _ _ #[_,_,.int .i64 h,_] _ _
  have hjc:¬ ((l.cnt+r.cnt:Nat):Int)≤(j:Int):=by rw [Tr.cnt_node] at hj; omega
  generalize (Tr.node h q c l r).pairs[j]?=zz at *
  generalize ((l.cnt+r.cnt:Nat):Int)=cn at *
  have mm:=m_inner_count
  clear HD hz HN hr hw hsm hj
  go_enter Tryz.func24,Tryz.ntmps24
  go_wp2_with (first
   | (go_at_call 39; refine (cRootSpot _ _).mono ?_; rintro e w1 ⟨rfl,ht1⟩; obtain ⟨hb,ht⟩:=one_cells ht1; have HB1:Hid _:=hb; have HT1:Hid (Turned [] w w1):=ht; clear ht1 ht hb)
   | (go_at_call 53; refine (HD2.out _ HT1.out).mono ?_; rintro e w2 ⟨rfl,ht2⟩; have HB2:Hid _:=ht2.heap HB1.out (by simp); have HT2:Hid (Turned [] w w2):=HT1.out.trans ht2; clear ht2)
   | (go_at_call 141; refine (cInnerCount _ _ _ _ _ _).mono ?_; rintro e w3 ⟨rfl,ht3⟩; obtain ⟨hb,ht⟩:=one_cells ht3; obtain ⟨⟨s0,s1,s2,s3⟩,-⟩:=cells4 hb; have HB3:Hid _:=ht.heap HB2.out (by simp); have HT3:Hid (Turned [] w w3):=HT2.out.trans ht; clear ht3 ht hb)
   | (go_at_call 54; refine (HN2.out _ HT3.out).mono ?_; rintro e w4 ⟨zp,hzp,rfl,ht4⟩; obtain ⟨⟨c0,c1⟩,z0,z1⟩:=cells2 (ht4.heap HB3.out (by simp)); have HZ:Hid _:=hzp; have HT4:Hid (Turned [] w w4):=HT3.out.trans ht4; clear ht4 hzp))
  exact bodyPost_ret (v:=.tuple #[.agg #[.int .i64 zp.1,.int .i64 zp.2],.int .i64 0]) (by simp [results,Tryz.results24,go_sem,c0,c1]) rfl ⟨zp,HZ.out,rfl,(HT4.out.set (.inr (Nat.le_refl _)) _ _).set (.inr (Nat.le_refl _)) _ _⟩
end Go.Proofs.YtloljphbdfjgdaaGreatDoor
/- Drawn regions with a chain of calls. (Written by tools/gen/gencall.py.) -/
namespace Go.Proofs.YtloljphbdfjgdaaGreatDoor
open Go.RowKit
def undo_r5V (tb p:Nat) (h:Int):Nat→Nat→Value:=fun _ j=>match j with | 0=>(pa tb 0) | 1=>(pa tb 0) | 2=>(pa tb 0) | 3=>(pa p 0) | 4=>(Value.pointer none) | 5=>(Value.int IntKind.i64 h) | 6=>(Value.int IntKind.i64 0) | 7=>(Value.int IntKind.i64 0) | _=>undef
end Go.Proofs.YtloljphbdfjgdaaGreatDoor
/- Package trie's Undo, alone, by contract. (Written by tools/gen/genundo.py.) -/
namespace Go.Proofs.YtloljphbdfjgdaaGreatDoor
open Go.RowKit Go.Shelf
attribute [local go_sem] Oper.semAt_some
theorem Turned.drop {x:Nat} {l:List Nat} {w w':World} (h:Turned (x :: l) w w') (hx:w'.heap[x]?=w.heap[x]?):Turned l w w' :=
 ⟨h.os,h.tape,h.output,h.size,fun k hk hn=>by
  by_cases e:k=x
  ·subst e; exact hx
  ·exact h.block k hk (by simp; exact ⟨e,hn⟩)⟩
structure Gave (s s':PSt) (St St':List Nat) (it:Nat) (l:List Int):Prop where
 pv:PV s' St' (it+l.length)
 n:s'.n=s.n
 faults:s'.faults=s.faults
 room:St'.length=St.length+l.length
 ct:∀ h x,Ct s h x→h∉l→Ct s' h x
theorem Gave.nil {s:PSt} {St:List Nat} {it:Nat} (h:PV s St it):Gave s s St St it []:=⟨h,rfl,rfl,rfl,fun _ _ h _=>h⟩
theorem cGive {w:World} {p:Nat} {F:List Nat} {s s0:PSt} {St St0:List Nat} {it:Nat} {l:List Int} {h:Int} {x:Nd} (hA:PoolAt w p F s) (hG:Gave s0 s St0 St it l) (hf:it+l.length+1≤1000000000) (hc:Ct s h x) :
  Calls Tryz.prog 75 #[.pointer (some ⟨p,0,none⟩),.pointer none,.int .i64 h] w fun e w'=>e=.returned (.int .i64 0)∧Turned F w w'∧∃ F' s' St',PoolAt w' p F' s'∧Wider F F' w∧Gave s0 s' St0 St' it (h :: l):=by
 obtain ⟨p1,p2,p3,p4⟩:=hc.plc
 have hg:=hG.pv.gens _ p1 p2
 have hfit:=hG.pv.fits
 have hgv:=poolLaws.give hA hG.pv.ok p1 p2 hg.1 (by omega) p4 rfl
 rw [← p3] at hgv
 refine hgv.mono ?_
 rintro e w' ⟨rfl,ht,F',hA',hW⟩
 refine ⟨rfl,ht,F',_,_,hA',hW,(hG.pv.give hf p1 p2 (hc.used hG.pv) _).more (by simp; omega) (by simp; omega),hG.n,hG.faults,by have:=hG.room; simp; omega,fun h' x' hc' hn=>?_⟩
 simp only [List.mem_cons,not_or] at hn
 exact (hG.ct h' x' hc' hn.2).give hc hn.1 _
section
variable {x:World} {b3 b4 b6 bx tb p B it:Nat} {v:Value} {l:List Int} {F:List Nat} {s:PSt} {St:List Nat} {a:Act} {Q:Exit→Act→World→Prop}
structure UJ (b3 b4 tb p it:Nat) (l:List Int) (s:PSt) (St:List Nat) (j:Nat) (G:List Nat) (w:World):Prop where
 ex:∃ F' s' St',G=b3 :: b4 :: tb :: F'∧PoolAt w p F' s'∧Gave s s' St St' it (l.drop (l.length - j))∧b3∉F'∧b4∉F'∧tb∉F'
 h3:w.heap[b3]?=some (.cells #[.pointer (some ⟨tb,0,none⟩)] 29 (0,0))
 h4:w.heap[b4]?=some (.cells #[.pointer none] 111 (0,0))
 hT:w.heap[tb]?=some (.cells #[.pointer (some ⟨p,0,none⟩)] 96 (0,0))
theorem UJ.keep {j:Nat} {G L:List Nat} {w w':World} (h:UJ b3 b4 tb p it l s St j G w) (ht:Turned L w w') (hL:∀ x,x∈L→x∉G):UJ b3 b4 tb p it l s St j G w':=by
 obtain ⟨F',s',St',rfl,hA,hg,n3,n4,nT⟩:=h.ex
 exact ⟨⟨F',s',St',rfl,poolLaws.keep hA ht (fun x hx hm=>hL x hx (by simp [hm])),hg,n3,n4,nT⟩,ht.heap h.h3 (fun hm=>hL _ hm (by simp)),ht.heap h.h4 (fun hm=>hL _ hm (by simp)),ht.heap h.hT (fun hm=>hL _ hm (by simp))⟩
end
end Go.Proofs.YtloljphbdfjgdaaGreatDoor
/- Package trie's Undo, alone: whole. -/
namespace Go.Proofs.YtloljphbdfjgdaaGreatDoor
open Go.RowKit
theorem poolAt_cells {w:World} {p:Nat} {F:List Nat} {s:PSt} (h:PoolAt w p F s) {x:Nat} (hx:x∈F):∃ cs T,w.heap[x]?=some (.cells cs T (0,0))∧T∈([86,93,156,84,89]:List TypeId):=by
 obtain ⟨sb,pb,nb,L,hp,rfl⟩:=h
 rcases mem_blocks hx with rfl | rfl | rfl | rfl | ⟨k,hk,rfl⟩
 ·exact ⟨_,_,hp.pool,by decide⟩
 ·exact ⟨_,_,hp.slots,by decide⟩
 ·exact ⟨_,_,hp.pile.head,by decide⟩
 ·exact ⟨_,_,hp.pile.next,by decide⟩
 ·exact ⟨_,_,hp.life k hk,by decide⟩
theorem poolAt_noDeferred {w:World} {p:Nat} {F:List Nat} {s:PSt} (h:PoolAt w p F s) {x:Nat} {d:Option (List Deferred)} (hx:x∈F) (hd:w.heap[x]?=some (.deferred d)):False:=by
 obtain ⟨cs,T,hh,-⟩:=poolAt_cells h hx
 rw [hd] at hh; cases hh
theorem poolAt_other {w:World} {p:Nat} {F:List Nat} {s:PSt} (h:PoolAt w p F s) {x:Nat} {y:Array Value} {S:TypeId} (hy:w.heap[x]?=some (.cells y S (0,0))) (hS:S∉([86,93,156,84,89]:List TypeId)):x∉F:=fun hx=>by
 obtain ⟨cs,T,hh,hT⟩:=poolAt_cells h hx
 rw [hy] at hh
 simp only [Option.some.injEq,Obj.cells.injEq] at hh
 rw [hh.2.1] at hS
 exact hS hT
def UndoR (w:World) (p tb it:Nat) (F:List Nat) (s:PSt) (St:List Nat) (l:List Int) (e:Ending) (w':World):Prop:=e=.returned (.int .i64 0)∧Turned F w w'∧∃ F' s' St',PoolAt w' p F' s'∧Wider F F' w∧tb∉F'∧Gave s s' St St' it l
end Go.Proofs.YtloljphbdfjgdaaGreatDoor
/- Drawn regions of package trie's change. (Written by tools/gen/gentake2.py.) -/
namespace Go.Proofs.YtloljphbdfjgdaaGreatDoor
open Go.RowKit
def take_r2V (cb tb p:Nat) (nn:Value) (xa xb xc xd r1 r2:Int):Nat × (Nat→Value)→Nat→Value:=fun _ j=>match j with | 0=>(pa cb 0) | 1=>(pa cb 0) | 2=>(pa cb 0) | 3=>(pa cb 0) | 4=>(pa tb 0) | 5=>(pa tb 0) | 6=>(pa tb 0) | 7=>(pa p 0) | 8=>(pa cb 0) | 9=>(pa cb 0) | 10=>(pa cb 1) | 11=>(Value.pointer none) | 12=>nn | 13=>(Value.agg #[.int .i64 xa,.int .i64 xb,.int .i64 xc,.int .i64 xd]) | 14=>(Value.tuple #[.int .i64 r1,.int .i64 r2]) | 15=>(Value.tuple #[.int .i64 r1,.int .i64 r2]) | 16=>(.int .i64 r1) | 17=>(.int .i64 r2) | 18=>(.int .i64 r1) | 19=>(pa cb 0) | 20=>(pa cb 7) | 21=>undef | _=>undef
set_option maxRecDepth 100000 in
set_option maxHeartbeats 1600000 in
theorem take_r2 {cb tb p:Nat} {nn:Value} {xa xb xc xd r1 r2:Int} {Ph:Nat→(Nat→Value)→World→Prop} {K:Act→World→Prop} {Q:Exit→Act→World→Prop} {a0:Act} {w:World} (hs:a0.tmps.size=52) (x0:a0.eval (.tmp 0)=pa cb 0) (x1:a0.eval (.tmp 1)=nn) (hc:∀ g u x,Ph g u x→x.cell? ⟨cb,0,none⟩=some (pa tb 0)∧x.cell? ⟨cb,1,none⟩=some (.pointer none)∧x.cell? ⟨tb,0,none⟩=some (pa p 0)) (hA:Ph 0 (fun _=>undef) w.drew)
  (hL0:∀ u x,Ph 0 u x→Calls Tryz.prog 73 #[nn] x fun e w'=>e=.returned (Value.agg #[.int .i64 xa,.int .i64 xb,.int .i64 xc,.int .i64 xd])∧Ph 1 u w')
  (hL1:∀ u x,Ph 1 u x→Calls Tryz.prog 72 #[pa p 0,.pointer none,(Value.agg #[.int .i64 xa,.int .i64 xb,.int .i64 xc,.int .i64 xd]),.int .i64 0] x fun e w'=>e=.returned (Value.tuple #[.int .i64 r1,.int .i64 r2])∧Ph 2 u w')
  (hL2:∀ u x,Ph 2 u x→∃ w',(Instr.storeAt 25 (pa cb 7) (.int .i64 r2)).run Tryz.prog x=.ok () w'∧Ph 3 u w')
  (hEnd:∀ a' x u,a'.tmps.size=a0.tmps.size→a'.defers=a0.defers→(∀ s,some s∉([some 11,some 12,some 13,some 14,some 15,some 16,some 17,some 18,some 19,some 20,some 21,some 22,some 23,some 24,some 25,some 10,some 26,some 27,some 4,some 28,some 29,none]:List (Option Nat))→a'.eval (.tmp s)=a0.eval (.tmp s))→a'.eval (.tmp 4)=(.int .i64 r1)→Ph 3 u x→K a' x):(Code.region 2 (opsR 2 Tryz.f43.body) true).wp Tryz.prog (Exit.then K Q) a0 w:=by
 refine wp_region_ghost3 (G:=Nat × (Nat→Value)) (by kernel_rfl) [some 11,some 12,some 13,some 14,some 15,some 16,some 17,some 18,some 19,some 20,some 21,some 22,some 23,some 24,some 25,some 10,some 26,some 27,some 4,some 28,some 29,none] (by rw [hs]; kernel_rfl) (take_r2V cb tb p nn xa xb xc xd r1 r2) [13,14,21] ?_ (doneP [13,14,21]) (StP 3 Ph) ((0,fun _=>undef)) (⟨Nat.zero_le _,hA⟩) (by intro x hx; simp at hx; rcases hx with rfl | rfl | rfl <;> rfl) (by decide) ?_ ?_
 ·exact fun i g b h _=>absurd h (noG (by kernel_rfl) i g b)
 ·intro i hi hgd
  rcases (by simp at hi; omega:i=0∨i=1∨i=2∨i=3∨i=4∨i=5∨i=6∨i=7∨i=8∨i=9∨i=10∨i=11∨i=12∨i=13∨i=14∨i=15∨i=16∨i=17∨i=18∨i=19∨i=20∨i=21) with rfl | rfl | rfl | rfl | rfl | rfl | rfl | rfl | rfl | rfl | rfl | rfl | rfl | rfl | rfl | rfl | rfl | rfl | rfl | rfl | rfl | rfl
  ·refine soft (by decide) ?_
   intro o ac wa g ho hoff hv hS hdn
   exact (x_move (op_is rfl ho)).trans (by rw [((hoff 0 (by decide)).trans x0)]; rfl)
  ·refine soft (by decide) ?_
   intro o ac wa g ho hoff hv hS hdn
   exact (x_move (op_is rfl ho)).trans (by rw [((hoff 0 (by decide)).trans x0)]; rfl)
  ·refine soft (by decide) ?_
   intro o ac wa g ho hoff hv hS hdn
   exact x_nil (op_is rfl ho) ((hv 1 12 rfl (by kernel_rfl)))
  ·refine soft (by decide) ?_
   intro o ac wa g ho hoff hv hS hdn
   exact x_field (op_is rfl ho) (by rw [(hv 2 13 rfl (by kernel_rfl))]; show (Instr.fieldAt _ (pa _ _) _).run _ _=.ok (pa _ _) _; unfold pa; go_simp)
  ·refine soft (by decide) ?_
   intro o ac wa g ho hoff hv hS hdn
   have hc:=(hc _ _ _ hS.ph).1
   exact x_load (op_is rfl ho) (by rw [(hv 3 14 rfl (by kernel_rfl))]; show (Instr.loadAt _ (pa _ _)).run _ _=_; unfold pa; go_simp; first | rfl | skip)
  ·refine soft (by decide) ?_
   intro o ac wa g ho hoff hv hS hdn
   exact x_nil (op_is rfl ho) ((hv 4 15 rfl (by kernel_rfl)))
  ·refine soft (by decide) ?_
   intro o ac wa g ho hoff hv hS hdn
   exact x_field (op_is rfl ho) (by rw [(hv 5 16 rfl (by kernel_rfl))]; show (Instr.fieldAt _ (pa _ _) _).run _ _=.ok (pa _ _) _; unfold pa; go_simp)
  ·refine soft (by decide) ?_
   intro o ac wa g ho hoff hv hS hdn
   have hc:=(hc _ _ _ hS.ph).2.2
   exact x_load (op_is rfl ho) (by rw [(hv 6 17 rfl (by kernel_rfl))]; show (Instr.loadAt _ (pa _ _)).run _ _=_; unfold pa; go_simp; first | rfl | skip)
  ·refine soft (by decide) ?_
   intro o ac wa g ho hoff hv hS hdn
   exact (x_move (op_is rfl ho)).trans (by rw [((hoff 0 (by decide)).trans x0)]; rfl)
  ·refine soft (by decide) ?_
   intro o ac wa g ho hoff hv hS hdn
   exact x_nil (op_is rfl ho) ((hv 8 19 rfl (by kernel_rfl)))
  ·refine soft (by decide) ?_
   intro o ac wa g ho hoff hv hS hdn
   exact x_field (op_is rfl ho) (by rw [(hv 9 20 rfl (by kernel_rfl))]; show (Instr.fieldAt _ (pa _ _) _).run _ _=.ok (pa _ _) _; unfold pa; go_simp)
  ·refine soft (by decide) ?_
   intro o ac wa g ho hoff hv hS hdn
   have hc:=(hc _ _ _ hS.ph).2.1
   exact x_load (op_is rfl ho) (by rw [(hv 10 21 rfl (by kernel_rfl))]; show (Instr.loadAt _ (pa _ _)).run _ _=_; unfold pa; go_simp; first | rfl | skip)
  ·refine soft (by decide) ?_
   intro o ac wa g ho hoff hv hS hdn
   exact (x_move (op_is rfl ho)).trans (by rw [((hoff 1 (by decide)).trans x1)]; rfl)
  ·intro o ac wa g K ho hd _ hoff hv hS hpre hnd hlater hK
   have h1:g.1≤0:=by have:=hnd (by simp); simpa [doneP,List.idxOf,List.findIdx,List.findIdx.go] using this
   have hg:g.1=0:=by omega
   obtain ⟨g1,u⟩:=g
   simp only at hg
   subst hg
   refine l_callE (op_is rfl ho) (xs:=#[nn]) (by simp only [List.map_toArray,List.map_cons,List.map_nil]; rw [(hv 12 23 rfl (by kernel_rfl))]; rfl) Tryz.func73 (by kernel_rfl) rfl (hL0 u wa hS.ph) ?_
   rintro e w' ⟨rfl,hp⟩
   refine ⟨_,rfl,?_⟩
   rw [hd]
   refine hK (1,u) w' ⟨by simp,hp⟩ (by intro x hx; simp at hx; rcases hx with rfl | rfl | rfl <;> simp [doneP,List.idxOf,List.findIdx,List.findIdx.go]) fun j hj hr=>?_
   match j,hr with
   | 0,_=>rfl
   | 1,_=>rfl
   | 2,_=>rfl
   | 3,_=>rfl
   | 4,_=>rfl
   | 5,_=>rfl
   | 6,_=>rfl
   | 7,_=>rfl
   | 8,_=>rfl
   | 9,_=>rfl
   | 10,_=>rfl
   | 11,_=>rfl
   | 12,_=>rfl
   | 13,_=>exact absurd rfl hj
   | 14,_=>rfl
   | 15,_=>rfl
   | 16,_=>rfl
   | 17,_=>rfl
   | 18,_=>rfl
   | 19,_=>rfl
   | 20,_=>rfl
   | 21,_=>rfl
   | q+22,_=>rfl
  ·intro o ac wa g K ho hd _ hoff hv hS hpre hnd hlater hK
   have h1:g.1≤1:=by have:=hnd (by simp); simpa [doneP,List.idxOf,List.findIdx,List.findIdx.go] using this
   have h2:1≤g.1:=by have:=hpre 13 (by simp) (by kernel_rfl); simp [doneP,List.idxOf,List.findIdx,List.findIdx.go] at this; omega
   have hg:g.1=1:=by omega
   obtain ⟨g1,u⟩:=g
   simp only at hg
   subst hg
   refine l_callE (op_is rfl ho) (xs:=#[pa p 0,.pointer none,(Value.agg #[.int .i64 xa,.int .i64 xb,.int .i64 xc,.int .i64 xd]),.int .i64 0]) (by simp only [List.map_toArray,List.map_cons,List.map_nil]; rw [(hv 7 18 rfl (by kernel_rfl)),(hv 11 22 rfl (by kernel_rfl)),(hv 13 24 rfl (by kernel_rfl))]; rfl) Tryz.func72 (by kernel_rfl) rfl (hL1 u wa hS.ph) ?_
   rintro e w' ⟨rfl,hp⟩
   refine ⟨_,rfl,?_⟩
   rw [hd]
   refine hK (2,u) w' ⟨by simp,hp⟩ (by intro x hx; simp at hx; rcases hx with rfl | rfl | rfl <;> simp [doneP,List.idxOf,List.findIdx,List.findIdx.go]) fun j hj hr=>?_
   match j,hr with
   | 0,_=>rfl
   | 1,_=>rfl
   | 2,_=>rfl
   | 3,_=>rfl
   | 4,_=>rfl
   | 5,_=>rfl
   | 6,_=>rfl
   | 7,_=>rfl
   | 8,_=>rfl
   | 9,_=>rfl
   | 10,_=>rfl
   | 11,_=>rfl
   | 12,_=>rfl
   | 13,_=>rfl
   | 14,_=>exact absurd rfl hj
   | 15,_=>rfl
   | 16,_=>rfl
   | 17,_=>rfl
   | 18,_=>rfl
   | 19,_=>rfl
   | 20,_=>rfl
   | 21,_=>rfl
   | q+22,_=>rfl
  ·refine soft (by decide) ?_
   intro o ac wa g ho hoff hv hS hdn
   exact (x_move (op_is rfl ho)).trans (by rw [(hv 14 25 rfl (by kernel_rfl))]; rfl)
  ·refine soft (by decide) ?_
   intro o ac wa g ho hoff hv hS hdn
   exact x_extrQ (op_is rfl ho) ((hv 15 10 rfl (by kernel_rfl))) rfl
  ·refine soft (by decide) ?_
   intro o ac wa g ho hoff hv hS hdn
   exact x_extrQ (op_is rfl ho) ((hv 15 10 rfl (by kernel_rfl))) rfl
  ·refine soft (by decide) ?_
   intro o ac wa g ho hoff hv hS hdn
   exact (x_assign (op_is rfl ho)).trans (by rw [(hv 16 26 rfl (by kernel_rfl))]; rfl)
  ·refine soft (by decide) ?_
   intro o ac wa g ho hoff hv hS hdn
   exact x_nil (op_is rfl ho) ((hv 0 11 rfl (by kernel_rfl)))
  ·refine soft (by decide) ?_
   intro o ac wa g ho hoff hv hS hdn
   exact x_field (op_is rfl ho) (by rw [(hv 19 28 rfl (by kernel_rfl))]; show (Instr.fieldAt _ (pa _ _) _).run _ _=.ok (pa _ _) _; unfold pa; go_simp)
  ·intro o ac wa g K ho hd _ hoff hv hS hpre hnd hlater hK
   have h1:g.1≤2:=by have:=hnd (by simp); simpa [doneP,List.idxOf,List.findIdx,List.findIdx.go] using this
   have h2:2≤g.1:=by have:=hpre 14 (by simp) (by kernel_rfl); simp [doneP,List.idxOf,List.findIdx,List.findIdx.go] at this; omega
   have hg:g.1=2:=by omega
   obtain ⟨g1,u⟩:=g
   simp only at hg
   subst hg
   obtain ⟨w',hr',hp⟩:=hL2 u wa hS.ph
   refine l_skip hd (x_store (op_is rfl ho) (by rw [(hv 20 29 rfl (by kernel_rfl)),(hv 17 27 rfl (by kernel_rfl))]; exact hr')) ?_
   refine hK (3,u) w' ⟨by simp,hp⟩ (by intro x hx; simp at hx; rcases hx with rfl | rfl | rfl <;> simp [doneP,List.idxOf,List.findIdx,List.findIdx.go]) fun j hj hr=>?_
   match j,hr with
   | 0,_=>rfl
   | 1,_=>rfl
   | 2,_=>rfl
   | 3,_=>rfl
   | 4,_=>rfl
   | 5,_=>rfl
   | 6,_=>rfl
   | 7,_=>rfl
   | 8,_=>rfl
   | 9,_=>rfl
   | 10,_=>rfl
   | 11,_=>rfl
   | 12,_=>rfl
   | 13,_=>rfl
   | 14,_=>rfl
   | 15,_=>rfl
   | 16,_=>rfl
   | 17,_=>rfl
   | 18,_=>rfl
   | 19,_=>rfl
   | 20,_=>rfl
   | 21,_=>exact absurd rfl hj
   | q+22,_=>rfl
 ·intro a' w' g hsz hdf hoff hS hdn hval
  obtain ⟨g1,u⟩:=g
  have hg:g1=3:=by have h:=hdn 21 (by simp); simp [doneP,List.idxOf,List.findIdx,List.findIdx.go] at h; have:=hS.le; simp only at this; omega
  subst hg
  exact hEnd a' w' u hsz hdf (fun s hs=>ev_same (hoff s hs)) (hval 18 4 rfl) hS.ph
end Go.Proofs.YtloljphbdfjgdaaGreatDoor
/- A change of a map in the midst of its making: its memory. -/
namespace Go.Proofs.YtloljphbdfjgdaaGreatDoor
open Go.RowKit
abbrev chObj (tb:Nat) (root old:Int) (had:Bool) (gv mv:Value) (err:Int):Obj:=.cells #[.pointer (some ⟨tb,0,none⟩),.pointer none,.int .i64 root,.int .i64 old,.bool had,gv,mv,.int .i64 err] 125 (0,0)
abbrev lsts (gv mv:Value):List Nat:=gv.ownBlock.toList ++ mv.ownBlock.toList
structure CG (B:Nat) (w:World) (cb tb p:Nat) (F:List Nat) (s:PSt) (root old:Int) (had:Bool) (gv mv:Value) (gone made:List Int) (err:Int):Prop where
 obj:w.heap[cb]?=some (chObj tb root old had gv mv err)
 at_:PoolAt w p F s
 tr:w.heap[tb]?=some (.cells #[.pointer (some ⟨p,0,none⟩)] 96 (0,0))
 gr:IR B w gv gone
 mr:IR B w mv made
 ap:∀ g,gv.ownBlock=some g→mv.ownBlock≠some g
section
variable {B:Nat} {w w':World} {cb tb p:Nat} {F:List Nat} {s:PSt} {root old:Int} {had:Bool} {gv mv:Value} {gone made:List Int} {err:Int}
theorem IR.type {v:Value} {l:List Int} (h:IR B w v l) {g:Nat} (hg:v.ownBlock=some g):∃ cs,w.heap[g]?=some (.cells cs 3 (0,0)):=by
 rcases h.own.2 with ⟨h0,_⟩ | ⟨g',c,cs,hv,_,hh,_⟩
 ·rw [h0] at hg; cases hg
 ·rw [hv] at hg; cases hg; exact ⟨cs,hh⟩
theorem CG.ncb (h:CG B w cb tb p F s root old had gv mv gone made err):cb∉F:=poolAt_other h.at_ h.obj (by decide)
theorem CG.ntb (h:CG B w cb tb p F s root old had gv mv gone made err):tb∉F:=poolAt_other h.at_ h.tr (by decide)
theorem CG.ntc (h:CG B w cb tb p F s root old had gv mv gone made err):tb≠cb:=other_type h.tr h.obj (by decide)
theorem CG.ngF (h:CG B w cb tb p F s root old had gv mv gone made err) {g:Nat} (hg:gv.ownBlock=some g):g∉F:=by
 obtain ⟨cs,hc⟩:=h.gr.type hg
 exact poolAt_other h.at_ hc (by decide)
theorem CG.nmF (h:CG B w cb tb p F s root old had gv mv gone made err) {g:Nat} (hg:mv.ownBlock=some g):g∉F:=by
 obtain ⟨cs,hc⟩:=h.mr.type hg
 exact poolAt_other h.at_ hc (by decide)
theorem CG.ngc (h:CG B w cb tb p F s root old had gv mv gone made err) {g:Nat} (hg:gv.ownBlock=some g):g≠cb:=by
 obtain ⟨cs,hc⟩:=h.gr.type hg
 exact other_type hc h.obj (by decide)
theorem CG.nmc (h:CG B w cb tb p F s root old had gv mv gone made err) {g:Nat} (hg:mv.ownBlock=some g):g≠cb:=by
 obtain ⟨cs,hc⟩:=h.mr.type hg
 exact other_type hc h.obj (by decide)
theorem CG.ngt (h:CG B w cb tb p F s root old had gv mv gone made err) {g:Nat} (hg:gv.ownBlock=some g):g≠tb:=by
 obtain ⟨cs,hc⟩:=h.gr.type hg
 exact other_type hc h.tr (by decide)
theorem CG.nmt (h:CG B w cb tb p F s root old had gv mv gone made err) {g:Nat} (hg:mv.ownBlock=some g):g≠tb:=by
 obtain ⟨cs,hc⟩:=h.mr.type hg
 exact other_type hc h.tr (by decide)
theorem CG.keep (h:CG B w cb tb p F s root old had gv mv gone made err) {L:List Nat} (ht:Turned L w w') (h1:cb∉L) (h2:tb∉L) (h3:∀ x,x∈L→x∉F) (h4:∀ g,gv.ownBlock=some g→g∉L) (h5:∀ g,mv.ownBlock=some g→g∉L):CG B w' cb tb p F s root old had gv mv gone made err :=
 ⟨ht.heap h.obj h1,poolLaws.keep h.at_ ht h3,ht.heap h.tr h2,h.gr.keep ht h4,h.mr.keep ht h5,h.ap⟩
theorem CG.still (h:CG B w cb tb p F s root old had gv mv gone made err) (ht:Turned [] w w'):CG B w' cb tb p F s root old had gv mv gone made err:=h.keep ht (by simp) (by simp) (by simp) (by simp) (by simp)
theorem CG.pool (h:CG B w cb tb p F s root old had gv mv gone made err) (ht:Turned F w w') {F':List Nat} {s':PSt} (hA:PoolAt w' p F' s'):CG B w' cb tb p F' s' root old had gv mv gone made err :=
 ⟨ht.heap h.obj h.ncb,hA,ht.heap h.tr h.ntb,h.gr.keep ht (fun _ hg=>h.ngF hg),h.mr.keep ht (fun _ hg=>h.nmF hg),h.ap⟩
theorem CG.cell (h:CG B w cb tb p F s root old had gv mv gone made err) {root' old':Int} {had':Bool} {err':Int} {k:Nat} {v:Value} (hk:(#[.pointer (some ⟨tb,0,none⟩),.pointer none,.int .i64 root,.int .i64 old,.bool had,gv,mv,.int .i64 err]:Array Value).setIfInBounds k v=#[.pointer (some ⟨tb,0,none⟩),.pointer none,.int .i64 root',.int .i64 old',.bool had',gv,mv,.int .i64 err']) :
  CG B (w.setCell ⟨cb,k,none⟩ v) cb tb p F s root' old' had' gv mv gone made err':=by
 have ht:Turned [cb] w (w.setCell ⟨cb,k,none⟩ v):=(Turned.refl _ _).set (.inl (by simp)) _ _
 refine ⟨?_,poolLaws.keep h.at_ ht (by simpa using h.ncb),ht.heap h.tr (by simpa using h.ntc),h.gr.keep ht (fun g hg=>by simpa using h.ngc hg),h.mr.keep ht (fun g hg=>by simpa using h.nmc hg),h.ap⟩
 have:=blk_set h.obj k v
 rw [hk] at this
 exact this
theorem CG.grew (h:CG B w cb tb p F s root old had gv mv gone made err) {mv':Value} {made':List Int} (ht:Turned mv.ownBlock.toList w w') (hr:IR B w' mv' made') (ho:mv'.ownBlock=mv.ownBlock∨mv'.ownBlock=some w.heap.size) :
  CG B (w'.setCell ⟨cb,6,none⟩ mv') cb tb p F s root old had gv mv' gone made' err∧w'.heap[cb]?=some (chObj tb root old had gv mv err):=by
 have hcb:w'.heap[cb]?=some (chObj tb root old had gv mv err):=ht.heap h.obj (fun hm=>h.nmc (Option.mem_toList.1 hm) rfl)
 have hlt:=lt_of_heap h.obj
 have t2:Turned [cb] w' (w'.setCell ⟨cb,6,none⟩ mv'):=(Turned.refl _ _).set (.inl (by simp)) _ _
 have hnew:∀ g,mv'.ownBlock=some g→g≠cb∧∀ k,gv.ownBlock=some k→k≠g:=fun g hg=>by
  rcases ho with e | e
  ·rw [e] at hg
   exact ⟨h.nmc hg,fun k hk e'=>by subst e'; exact h.ap k hk hg⟩
  ·rw [e] at hg
   cases hg
   exact ⟨by omega,fun k hk e'=>by have:=(h.gr.fresh hk).2; omega⟩
 refine ⟨⟨?_,poolLaws.keep (poolLaws.keep h.at_ ht (fun x hx=>h.nmF (Option.mem_toList.1 hx))) t2 (by simpa using h.ncb),t2.heap (ht.heap h.tr (fun hm=>h.nmt (Option.mem_toList.1 hm) rfl)) (by simpa using h.ntc),(h.gr.keep ht (fun g hg hm=>h.ap g hg (Option.mem_toList.1 hm))).keep t2 (fun g hg=>by simpa using h.ngc hg),hr.keep t2 (fun g hg=>by simpa using (hnew g hg).1),fun g hg e=>(hnew g e).2 g hg rfl⟩,hcb⟩
 exact blk_set hcb 6 mv'
theorem CG.went (h:CG B w cb tb p F s root old had gv mv gone made err) {gv':Value} {gone':List Int} (ht:Turned gv.ownBlock.toList w w') (hr:IR B w' gv' gone') (ho:gv'.ownBlock=gv.ownBlock∨gv'.ownBlock=some w.heap.size) :
  CG B (w'.setCell ⟨cb,5,none⟩ gv') cb tb p F s root old had gv' mv gone' made err∧w'.heap[cb]?=some (chObj tb root old had gv mv err):=by
 have hcb:w'.heap[cb]?=some (chObj tb root old had gv mv err):=ht.heap h.obj (fun hm=>h.ngc (Option.mem_toList.1 hm) rfl)
 have hlt:=lt_of_heap h.obj
 have t2:Turned [cb] w' (w'.setCell ⟨cb,5,none⟩ gv'):=(Turned.refl _ _).set (.inl (by simp)) _ _
 have hnew:∀ g,gv'.ownBlock=some g→g≠cb∧∀ k,mv.ownBlock=some k→k≠g:=fun g hg=>by
  rcases ho with e | e
  ·rw [e] at hg
   exact ⟨h.ngc hg,fun k hk e'=>by subst e'; exact h.ap k hg hk⟩
  ·rw [e] at hg
   cases hg
   exact ⟨by omega,fun k hk e'=>by have:=(h.mr.fresh hk).2; omega⟩
 refine ⟨⟨?_,poolLaws.keep (poolLaws.keep h.at_ ht (fun x hx=>h.ngF (Option.mem_toList.1 hx))) t2 (by simpa using h.ncb),t2.heap (ht.heap h.tr (fun hm=>h.ngt (Option.mem_toList.1 hm) rfl)) (by simpa using h.ntc),hr.keep t2 (fun g hg=>by simpa using (hnew g hg).1),(h.mr.keep ht (fun g hg hm=>h.ap g (Option.mem_toList.1 hm) hg)).keep t2 (fun g hg=>by simpa using h.nmc hg),fun g hg e=>(hnew g hg).2 g e rfl⟩,hcb⟩
 exact blk_set hcb 5 gv'
end
theorem infoIntT:(Tryz.prog.info? 3).map (fun i=>(i.zero,i.size,i.bytes))=some (some (.int .i64 0),1,8):=by kernel_rfl
theorem undIntsT:Tryz.prog.underlying 38=some (.slice 3):=by kernel_rfl
theorem run_apInt {w:World} {B:Nat} {v:Value} {l:List Int} {x:Int} {g c:Nat} (hr:IR B w v l) (hg:w.cell? ⟨g,0,none⟩=some (.int .i64 x)) (hm:l.length≤100000) (hB:B≤w.heap.size) :
  ∃ v' w',(Builtin.append_ #[38,38] 38 #[v,.slice (some ⟨g,0,none⟩) 1 c]).run Tryz.prog w=.ok v' w'∧IR B w' v' (l ++ [x])∧Turned v.ownBlock.toList w w'∧(v'.ownBlock=v.ownBlock∨v'.ownBlock=some w.heap.size):=by
 obtain ⟨i,hi,hzz⟩:=Option.map_eq_some_iff.1 infoIntT
 simp only [Prod.mk.injEq] at hzz
 obtain ⟨hz,hs1,hb⟩:=hzz
 obtain ⟨v',w',hrun,h2,h3,h4,h5⟩:=run_append_own_at (P:=Tryz.prog) w B 38 38 3 i _ 1 8 undIntsT hi hz hs1 hb rfl (by decide) v l.length (l.map (.int .i64 ·)) hr.own ⟨g,0,none⟩ 1 c [.int .i64 x] rfl (fun j u hj=>by
  cases j with
  | zero=>simp at hj; subst hj; simpa [Addr.add] using hg
  | succ j=>simp at hj) (by intro u hu; simp at hu; subst hu; rfl) (by unfold maxLen; omega) (by omega) hB
 exact ⟨v',w',hrun,⟨by rw [List.length_append,List.map_append]; simpa using h2⟩,⟨h3.os,h3.tape,h3.output,h3.size,fun k hk hn=>h3.block k hk fun e=>hn (by rw [← e]; simp)⟩,h5⟩
end Go.Proofs.YtloljphbdfjgdaaGreatDoor
/- A frame, spelled out. -/
namespace Go.Proofs.YtloljphbdfjgdaaGreatDoor
open Go.RowKit
def lit52 (c:Nat→Value):Array Value:=#[c 0,c 1,c 2,c 3,c 4,c 5,c 6,c 7,c 8,c 9,c 10,c 11,c 12,c 13,c 14,c 15,c 16,c 17,c 18,c 19,c 20,c 21,c 22,c 23,c 24,c 25,c 26,c 27,c 28,c 29,c 30,c 31,c 32,c 33,c 34,c 35,c 36,c 37,c 38,c 39,c 40,c 41,c 42,c 43,c 44,c 45,c 46,c 47,c 48,c 49,c 50,c 51]
set_option maxRecDepth 100000 in
theorem lit52_eq (c:Nat→Value):lit52 c=((List.range 52).map c).toArray:=by rfl
theorem expand52 {a:Act} (hs:a.tmps.size=52) (hd:a.defers=[]):∃ c:Nat→Value,a=⟨lit52 c,[]⟩∧∀ s,c s=a.eval (.tmp s):=by
 refine ⟨fun s=>a.tmps.getD s undef,?_,fun s=>rfl⟩
 obtain ⟨t,d⟩:=a
 simp only at hs hd
 subst hd
 congr 1
 rw [lit52_eq]
 refine Array.ext (by simp [hs]) fun i h1 h2=>?_
 simp [Array.getD,h1]
end Go.Proofs.YtloljphbdfjgdaaGreatDoor

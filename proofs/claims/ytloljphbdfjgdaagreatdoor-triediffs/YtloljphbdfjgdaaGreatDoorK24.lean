/- The ways through a round of package trie's leftmost. (Written by tools/gen/genleft.py.) -/
import Derived.Test.YtloljphbdfjgdaaGreatDoorK23
import Derived.Test.YtloljphbdfjgdaaGreatDoorK03
import Derived.Test.YtloljphbdfjgdaaGreatDoorK22
namespace Go.Proofs.YtloljphbdfjgdaaGreatDoor
open Go.RowKit
section
variable {w x:World} {tb p:Nat} {F:List Nat} {s:PSt} {t u u':Tr} {a1 b1 a2 b2:Int} {nvv:Value} {T:TypeId} {q:Nat} {c lh rh cn h kk vv:Int} {R:Ending→World→Prop} {a:Act} {K:Act→World→Prop} {Q:Exit→Act→World→Prop} {n:Value}
set_option maxRecDepth 100000 in
set_option maxHeartbeats 1600000 in
theorem left_r1 (hs:a.tmps.size=34) (hd:a.defers=[]) (x0:a.eval (.tmp 0)=pt tb) (x1:a.eval (.tmp 1)=.pointer none) (x5:a.eval (.tmp 5)=.pointer (some ⟨w.heap.size,0,none⟩)) (x6:a.eval (.tmp 6)=.pointer (some ⟨w.heap.size+1,0,none⟩))
  
  (hK:∀ a',a'.tmps.size=34→a'.defers=[]→a'.eval (.tmp 0)=pt tb→a'.eval (.tmp 1)=.pointer none→a'.eval (.tmp 5)=.pointer (some ⟨w.heap.size,0,none⟩)→a'.eval (.tmp 6)=.pointer (some ⟨w.heap.size+1,0,none⟩)→K a' x):(atc Tryz.f56.body [1,1,1,1,0]).wp Tryz.prog (Exit.then K Q) a x:=by
 obtain ⟨cc,hcc,hce⟩:=expand34 hs hd
 have g0:=(hce 0).trans x0
 have g1:=(hce 1).trans x1
 have g5:=(hce 5).trans x5
 have g6:=(hce 6).trans x6
 clear hce hs hd x0 x1 x5 x6
 subst hcc
 conv=>arg 2; whnf
 simp only [lit34,g0,g1,g5,g6]
 clear g0 g1 g5 g6
 go_wp2
 exact hK _ rfl rfl rfl rfl rfl rfl
set_option maxRecDepth 100000 in
set_option maxHeartbeats 1600000 in
theorem left_rd (hs:a.tmps.size=34) (hd:a.defers=[]) (x0:a.eval (.tmp 0)=pt tb) (x1:a.eval (.tmp 1)=.pointer none) (x5:a.eval (.tmp 5)=.pointer (some ⟨w.heap.size,0,none⟩)) (x6:a.eval (.tmp 6)=.pointer (some ⟨w.heap.size+1,0,none⟩))
  (hI:LI w t s u a1 b1 n x) (hR:∀ y,Turned [] x y→Calls Tryz.prog 53 #[pt tb,.pointer none,.agg #[.int .i64 u.hd,.int .i64 a1,.int .i64 b1,n]] y fun e w'=>e=.returned (.tuple #[.agg #[.int .i64 u.hd,.int .i64 a1,.int .i64 b1,.iface T nvv],.int .i64 0])∧Turned [] y w')
  (hK:∀ a' y,a'.tmps.size=34→a'.defers=[]→a'.eval (.tmp 0)=pt tb→a'.eval (.tmp 1)=.pointer none→a'.eval (.tmp 5)=.pointer (some ⟨w.heap.size,0,none⟩)→a'.eval (.tmp 6)=.pointer (some ⟨w.heap.size+1,0,none⟩)→LI w t s u a1 b1 (.iface T nvv) y→K a' y):(atc Tryz.f56.body [1,1,1,1,1,0]).wp Tryz.prog (Exit.then K Q) a x:=by
 obtain ⟨cc,hcc,hce⟩:=expand34 hs hd
 have g0:=(hce 0).trans x0
 have g1:=(hce 1).trans x1
 have g5:=(hce 5).trans x5
 have g6:=(hce 6).trans x6
 clear hce hs hd x0 x1 x5 x6
 subst hcc
 conv=>arg 2; whnf
 simp only [lit34,g0,g1,g5,g6]
 clear g0 g1 g5 g6
 have HI:Hid _:=hI
 have HR:Hid _:=hR
 obtain ⟨⟨e0,e1,e2,e3⟩,-⟩:=cells4 hI.sp
 generalize hU:u.hd=uh at *
 have HK:Hid _:=hK
 clear hI hK hR
 go_wp2_with (go_at_call 53; refine (HR.out _ (Turned.refl _ _)).mono ?_; rintro e w2 ⟨rfl,ht2⟩; have h2:=ht2.heap HI.out.sp (by simp); rw [hU] at h2; obtain ⟨⟨c0,c1,c2,c3⟩,y0,y1,y2,y3⟩:=cells4 h2; have HT2:Hid (Turned [] x w2):=ht2; have HS2:Hid _:=h2; clear ht2 h2)
 have h5:=set4 HS2.out (.int .i64 uh) (.int .i64 a1) (.int .i64 b1) (.iface T nvv)
 exact HK.out _ _ rfl rfl rfl rfl rfl rfl ((HI.out.still HT2.out).spot h5.2 (by rw [hU]; exact h5.1))
set_option maxRecDepth 100000 in
set_option maxHeartbeats 1600000 in
theorem left_r5 (hs:a.tmps.size=34) (hd:a.defers=[]) (x0:a.eval (.tmp 0)=pt tb) (x1:a.eval (.tmp 1)=.pointer none) (x5:a.eval (.tmp 5)=.pointer (some ⟨w.heap.size,0,none⟩)) (x6:a.eval (.tmp 6)=.pointer (some ⟨w.heap.size+1,0,none⟩))
  (hI:LI w t s u a1 b1 (.iface T nvv) x)
  (hK:∀ a',a'.tmps.size=34→a'.defers=[]→a'.eval (.tmp 0)=pt tb→a'.eval (.tmp 1)=.pointer none→a'.eval (.tmp 5)=.pointer (some ⟨w.heap.size,0,none⟩)→a'.eval (.tmp 6)=.pointer (some ⟨w.heap.size+1,0,none⟩)→a'.eval (.tmp 23)=.iface T nvv→K a' x):(atc Tryz.f56.body [1,1,1,1,1,1,0]).wp Tryz.prog (Exit.then K Q) a x:=by
 obtain ⟨cc,hcc,hce⟩:=expand34 hs hd
 have g0:=(hce 0).trans x0
 have g1:=(hce 1).trans x1
 have g5:=(hce 5).trans x5
 have g6:=(hce 6).trans x6
 clear hce hs hd x0 x1 x5 x6
 subst hcc
 conv=>arg 2; whnf
 simp only [lit34,g0,g1,g5,g6]
 clear g0 g1 g5 g6
 obtain ⟨⟨e0,e1,e2,e3⟩,-⟩:=cells4 hI.sp
 have HK:Hid _:=hK
 clear hI hK
 go_wp2
 exact HK.out _ rfl rfl rfl rfl rfl rfl rfl
set_option maxRecDepth 100000 in
set_option maxHeartbeats 1600000 in
theorem left_L (hs:a.tmps.size=34) (hd:a.defers=[]) (x0:a.eval (.tmp 0)=pt tb) (x1:a.eval (.tmp 1)=.pointer none) (x5:a.eval (.tmp 5)=.pointer (some ⟨w.heap.size,0,none⟩)) (x6:a.eval (.tmp 6)=.pointer (some ⟨w.heap.size+1,0,none⟩)) (x23:a.eval (.tmp 23)=.iface 128 (.agg #[.int .i64 kk,.int .i64 vv]))
  (hI:LI w t s u a1 b1 (.iface 128 (.agg #[.int .i64 kk,.int .i64 vv])) x) (hQ:∀ a' y,bodyPost Tryz.prog Tryz.f56 R .ret a' y→Q .ret a' y)
  (hR:∀ y,Turned [] w y→R (.returned (.tuple #[.agg #[.int .i64 kk,.int .i64 vv],.int .i64 0])) y):(atc Tryz.f56.body [1,1,1,1,1,1,1]).wp Tryz.prog (Exit.then K Q) a x:=by
 obtain ⟨cc,hcc,hce⟩:=expand34 hs hd
 have g0:=(hce 0).trans x0
 have g1:=(hce 1).trans x1
 have g5:=(hce 5).trans x5
 have g6:=(hce 6).trans x6
 have g23:=(hce 23).trans x23
 clear hce hs hd x0 x1 x5 x6 x23
 subst hcc
 conv=>arg 2; whnf
 simp only [lit34,g0,g1,g5,g6,g23]
 clear g0 g1 g5 g6 g23
 have as1:=as_leaf_leaf
 have HI:Hid _:=hI
 have HR:Hid _:=hR
 have HQ:Hid _:=hQ
 clear hI hR hQ
 go_wp2_with (go_at_call 65; refine (cLeafPair _ _ _).mono ?_; rintro e w3 ⟨rfl,ht3⟩; have ht4:Turned [] x w3:=((Turned.refl _ _).alloc _).trans ht3; obtain ⟨⟨r0,r1⟩,z0,z1⟩:=cells2 (ht4.heap HI.out.res (by simp)); have HT3:Hid (Turned [] w w3):=HI.out.turned.trans ht4; clear ht3 ht4)
 refine HQ.out _ _ (bodyPost_ret (v:=.tuple #[.agg #[.int .i64 kk,.int .i64 vv],.int .i64 0]) (by simp [results,Tryz.results56,go_sem,r0,r1]) rfl (HR.out _ ?_))
 refine Turned.set (Turned.set HT3.out (.inr ?_) _ _) (.inr ?_) _ _ <;> simp
set_option maxRecDepth 100000 in
set_option maxHeartbeats 1600000 in
theorem left_I (hs:a.tmps.size=34) (hd:a.defers=[]) (x0:a.eval (.tmp 0)=pt tb) (x1:a.eval (.tmp 1)=.pointer none) (x5:a.eval (.tmp 5)=.pointer (some ⟨w.heap.size,0,none⟩)) (x6:a.eval (.tmp 6)=.pointer (some ⟨w.heap.size+1,0,none⟩)) (x23:a.eval (.tmp 23)=.iface 151 (.agg #[.int .i64 c,.int .i64 q,.int .i64 lh,.int .i64 rh,.int .i64 cn]))
  (hI:LI w t s u a1 b1 (.iface 151 (.agg #[.int .i64 c,.int .i64 q,.int .i64 lh,.int .i64 rh,.int .i64 cn])) x) (hCh:∀ y,Calls Tryz.prog 78 #[.agg #[.int .i64 c,.int .i64 q,.int .i64 lh,.int .i64 rh,.int .i64 cn],.int .i64 0] y fun e w'=>e=.returned (.agg #[.int .i64 u'.hd,.int .i64 a2,.int .i64 b2,.nilIface])∧Turned [] y w') (hw:u'.WF) (hp:Rep s u') (hlo:a2≤u'.lo) (hhi:u'.hi≤b2) (hf:t.pairs.head?=u'.pairs.head?)
  (hK:∀ a' y,a'.tmps.size=34→a'.defers=[]→a'.eval (.tmp 0)=pt tb→a'.eval (.tmp 1)=.pointer none→a'.eval (.tmp 5)=.pointer (some ⟨w.heap.size,0,none⟩)→a'.eval (.tmp 6)=.pointer (some ⟨w.heap.size+1,0,none⟩)→LI w t s u' a2 b2 .nilIface y→K a' y):(atc Tryz.f56.body [1,1,1,1,1,1,1]).wp Tryz.prog (Exit.then K Q) a x:=by
 obtain ⟨cc,hcc,hce⟩:=expand34 hs hd
 have g0:=(hce 0).trans x0
 have g1:=(hce 1).trans x1
 have g5:=(hce 5).trans x5
 have g6:=(hce 6).trans x6
 have g23:=(hce 23).trans x23
 clear hce hs hd x0 x1 x5 x6 x23
 subst hcc
 conv=>arg 2; whnf
 simp only [lit34,g0,g1,g5,g6,g23]
 clear g0 g1 g5 g6 g23
 have as1:=as_inner_leaf
 have as2:=as_inner_inner
 have HI:Hid _:=hI
 have HK:Hid _:=hK
 have HCh:Hid _:=hCh
 have HX:Hid (u'.WF∧Rep s u'∧a2≤u'.lo∧u'.hi≤b2∧t.pairs.head?=u'.pairs.head?):=⟨hw,hp,hlo,hhi,hf⟩
 generalize hU:u'.hd=uh at *
 clear hI hK hCh hw hp hlo hhi hf
 go_wp2_with (go_at_call 78; refine (HCh.out _).mono ?_; rintro e w2 ⟨rfl,ht2⟩; have ht3:Turned [] x w2:=((Turned.refl _ _).alloc _).trans ht2; have h2:=ht3.heap HI.out.sp (by simp); obtain ⟨⟨c0,c1,c2,c3⟩,y0,y1,y2,y3⟩:=cells4 h2; have HT2:Hid (Turned [] x w2):=ht3; have HS2:Hid _:=h2; clear ht2 ht3 h2)
 have h5:=set4 HS2.out (.int .i64 uh) (.int .i64 a2) (.int .i64 b2) .nilIface
 obtain ⟨j1,j2,j3,j4,j5⟩:=HX.out
 exact HK.out _ _ rfl rfl rfl rfl rfl rfl ((HI.out.still HT2.out).next h5.2 (by rw [hU]; exact h5.1) j1 j2 j3 j4 j5)
end
end Go.Proofs.YtloljphbdfjgdaaGreatDoor
/- Package trie's leftmost, alone, by contract. -/
namespace Go.Proofs.YtloljphbdfjgdaaGreatDoor
open Go.RowKit
theorem wp_lastR {P:Program} {c:Code} {M:Act→World→Prop} {Q:Exit→Act→World→Prop} {id:Nat} {a:Act} {x:World} (h:c.wp P (Exit.then (fun _ _=>False) (fun e a w=>e=.ret∧Q .ret a w)) a x):c.wp P (Exit.inBlock id (Exit.then M Q)) a x :=
 wp_mono h fun e _ _ h=>by cases e <;> first | exact h.elim | exact h.2 | cases h.1
structure LF (w:World) (tb:Nat) (t:Tr) (s:PSt) (a:Act) (x:World):Prop where
 hs:a.tmps.size=34
 hd:a.defers=[]
 x0:a.eval (.tmp 0)=pt tb
 x1:a.eval (.tmp 1)=.pointer none
 x5:a.eval (.tmp 5)=.pointer (some ⟨w.heap.size,0,none⟩)
 x6:a.eval (.tmp 6)=.pointer (some ⟨w.heap.size+1,0,none⟩)
 ex:∃ u a1 b1 n,LI w t s u a1 b1 n x∧(n=.nilIface∨n=nv u)
def LeftR (w:World) (t:Tr) (e:Ending) (y:World):Prop:=∃ z,t.pairs.head?=some z∧e=.returned (.tuple #[.agg #[.int .i64 z.1,.int .i64 z.2],.int .i64 0])∧Turned [] w y
theorem head_app {l m:List (Int × Int)} (h:l≠[]):(l ++ m).head?=l.head?:=by cases l <;> simp_all
set_option maxRecDepth 100000 in
set_option maxHeartbeats 1600000 in
theorem left_round {w x:World} {tb p:Nat} {F:List Nat} {s:PSt} {t:Tr} {a:Act} {Q:Exit→Act→World→Prop} (hT:TrieB w tb p) (hA:PoolAt w p F s) (hO:s.Ok) (h:LF w tb t s a x)
  (hQ:∀ a' y,bodyPost Tryz.prog Tryz.f56 (LeftR w t) .ret a' y→Q .ret a' y) :
  (atc Tryz.f56.body [1,1,1]).wp Tryz.prog (Exit.then (fun a' y=>LF w tb t s a' y∧spanAt y w.heap.size < spanAt x w.heap.size) Q) a x:=by
 obtain ⟨hs,hd,x0,x1,x5,x6,⟨u,a1,b1,n,hI,hn⟩⟩:=h
 have hlen:=spanAt_of hI.sp
 refine wp_block ?_
 refine wp_seq (left_r1 hs hd x0 x1 x5 x6 ?_)
 clear hs hd x0 x1 x5 x6
 intro a2 hs hd x0 x1 x5 x6
 obtain ⟨T,nvv,hN⟩:=nv_form u
 refine wp_seq (left_rd (T:=T) (nvv:=nvv) hs hd x0 x1 x5 x6 hI (fun y hy=>?_) ?_)
 ·rcases hn with rfl | rfl
  ·rw [← hN]; exact cReadT ((hT.still hI.turned).still hy) ((hA.still hI.turned).still hy) hO hI.rep hI.wf hI.lo hI.hi
  ·rw [hN]; exact cReadD y
 clear hs hd x0 x1 x5 x6 hI
 intro a3 y hs hd x0 x1 x5 x6 hI
 refine wp_seq (left_r5 hs hd x0 x1 x5 x6 hI ?_)
 clear hs hd x0 x1 x5 x6
 intro a4 hs hd x0 x1 x5 x6 x23
 cases u with
 | leaf h kk vv =>
  cases hN
  refine wp_lastR (left_L hs hd x0 x1 x5 x6 x23 hI (fun a' y h=>⟨rfl,hQ a' y h⟩) fun z hz=>⟨(kk,vv),?_,rfl,hz⟩)
  rw [hI.first]; rfl
 | node h q c l r =>
  obtain ⟨g1,g2,g3,g4,g5,g6,g7,g8,g9,g10⟩:=id hI.wf
  have hpow:=Tr.pow_pos' q
  cases hN
  have hlo:a1≤c:=hI.lo
  have hhi:c+2 * 2 ^ q - 1≤b1:=hI.hi
  refine wp_last (left_I (u':=l) (K:=fun a' y=>LF w tb t s a' y∧spanAt y w.heap.size < spanAt x w.heap.size) hs hd x0 x1 x5 x6 x23 hI (cChild0 _ _ _ g2 g3 g1) g9 hI.rep.2.1 g5 (by omega) ?_ ?_)
  ·rw [hI.first]; exact head_app l.pairs_ne
  ·intro a8 z hs hd x0 x1 x5 x6 hJ
   refine ⟨⟨hs,hd,x0,x1,x5,x6,⟨_,_,_,_,hJ,.inl rfl⟩⟩,?_⟩
   rw [spanAt_of hJ.sp,hlen]
   omega
set_option maxRecDepth 100000 in
set_option maxHeartbeats 1600000 in
theorem cLeft {w:World} {tb p:Nat} {F:List Nat} {s:PSt} {t:Tr} {a b:Int} {n:Value} (hT:TrieB w tb p) (hA:PoolAt w p F s) (hO:s.Ok) (hc:Rep s t) (hw:t.WF) (ha:a≤t.lo) (hb:t.hi≤b) (hn:n=.nilIface∨n=nv t) :
  Calls Tryz.prog 56 #[pt tb,.pointer none,.agg #[.int .i64 t.hd,.int .i64 a,.int .i64 b,n]] w (LeftR w t):=by
 have HT:Hid (TrieB w tb p):=hT
 have HA:Hid (PoolAt w p F s):=hA
 have HO:Hid s.Ok:=hO
 have HN:Hid (n=.nilIface∨n=nv t):=hn
 have HC:Hid (Rep s t∧t.WF∧a≤t.lo∧t.hi≤b):=⟨hc,hw,ha,hb⟩
 obtain ⟨c1,hc1⟩:∃ z,z=t.hd:=⟨_,rfl⟩
 have HU:Hid (c1=t.hd):=hc1
 rw [← hc1]
 clear hT hA hO hc hw ha hb hc1
 rcases hn with rfl | hnn
 ·clear HN
  go_enter Tryz.func56,Tryz.ntmps56
  go_wp2
  refine wp_loop (fun a x=>LF w tb t s a x) (fun _ x=>spanAt x w.heap.size) ⟨rfl,rfl,rfl,rfl,rfl,rfl,⟨t,a,b,.nilIface,⟨((Turned.refl _ _).alloc _).alloc _,by rw [← HU.out]; exact blk_old (blk_new _ _) _,by have:=blk_new (w.alloc (.cells #[.int .i64 c1,.int .i64 a,.int .i64 b,.nilIface] 120 (0,0))) (.cells #[.int .i64 0,.int .i64 0] 60 (0,0)); rw [World.size_alloc] at this; exact this,HC.out.2.1,HC.out.1,HC.out.2.2.1,HC.out.2.2.2,rfl⟩,.inl rfl⟩⟩ (fun a x hx=>?_)
  exact left_round HT.out HA.out HO.out hx (fun a' y h=>h)
 ·obtain ⟨T,nvv,hN⟩:=nv_form t
  rw [hN] at hnn
  subst hnn
  have HNN:Hid (nv t=.iface T nvv):=hN
  clear HN hN
  go_enter Tryz.func56,Tryz.ntmps56
  go_wp2
  refine wp_loop (fun a x=>LF w tb t s a x) (fun _ x=>spanAt x w.heap.size) ⟨rfl,rfl,rfl,rfl,rfl,rfl,⟨t,a,b,.iface T nvv,⟨((Turned.refl _ _).alloc _).alloc _,by rw [← HU.out]; exact blk_old (blk_new _ _) _,by have:=blk_new (w.alloc (.cells #[.int .i64 c1,.int .i64 a,.int .i64 b,.iface T nvv] 120 (0,0))) (.cells #[.int .i64 0,.int .i64 0] 60 (0,0)); rw [World.size_alloc] at this; exact this,HC.out.2.1,HC.out.1,HC.out.2.2.1,HC.out.2.2.2,rfl⟩,.inr HNN.out.symm⟩⟩ (fun a x hx=>?_)
  exact left_round HT.out HA.out HO.out hx (fun a' y h=>h)
end Go.Proofs.YtloljphbdfjgdaaGreatDoor
/- A frame, spelled out. -/
namespace Go.Proofs.YtloljphbdfjgdaaGreatDoor
open Go.RowKit
def lit19 (c:Nat→Value):Array Value:=#[c 0,c 1,c 2,c 3,c 4,c 5,c 6,c 7,c 8,c 9,c 10,c 11,c 12,c 13,c 14,c 15,c 16,c 17,c 18]
set_option maxRecDepth 100000 in
theorem lit19_eq (c:Nat→Value):lit19 c=((List.range 19).map c).toArray:=by rfl
theorem expand19 {a:Act} (hs:a.tmps.size=19) (hd:a.defers=[]):∃ c:Nat→Value,a=⟨lit19 c,[]⟩∧∀ s,c s=a.eval (.tmp s):=by
 refine ⟨fun s=>a.tmps.getD s undef,?_,fun s=>rfl⟩
 obtain ⟨t,d⟩:=a
 simp only at hs hd
 subst hd
 congr 1
 rw [lit19_eq]
 refine Array.ext (by simp [hs]) fun i h1 h2=>?_
 simp [Array.getD,h1]
end Go.Proofs.YtloljphbdfjgdaaGreatDoor
/- A round of slices.Backward's iterators. (Written by tools/gen/genback12.py.) -/
namespace Go.Proofs.YtloljphbdfjgdaaGreatDoor
open Go.RowKit Go.Shelf
attribute [local go_sem] Oper.semAt_some
section
variable {x:World} {l bx:Nat} {a:Act} {K:Act→World→Prop} {Q:Exit→Act→World→Prop}
set_option maxRecDepth 100000 in
set_option maxHeartbeats 1600000 in
theorem back_yS {z0 z1 z2 z3 z4 z5 z6:Int} {g m c i:Nat} {Ry:Ending→World→Prop} (hs:a.tmps.size=19) (hd:a.defers=[]) (x0:a.eval (.tmp 0)=.func (.yield l) #[] #[]) (x1:a.eval (.tmp 1)=.pointer (some ⟨bx,0,none⟩)) (x3:a.eval (.tmp 3)=.int .i64 (i:Nat))
  (hb:x.cell? ⟨bx,0,none⟩=some (.slice (some ⟨g,0,none⟩) m c)) (him:i < m) (k0:x.cell? ⟨g,i * 7,none⟩=some (.int .i64 z0)) (k1:x.cell? ⟨g,i * 7+1,none⟩=some (.int .i64 z1)) (k2:x.cell? ⟨g,i * 7+2,none⟩=some (.int .i64 z2)) (k3:x.cell? ⟨g,i * 7+3,none⟩=some (.int .i64 z3)) (k4:x.cell? ⟨g,i * 7+4,none⟩=some (.int .i64 z4)) (k5:x.cell? ⟨g,i * 7+5,none⟩=some (.int .i64 z5)) (k6:x.cell? ⟨g,i * 7+6,none⟩=some (.int .i64 z6)) (hY:YieldAt Fence.wide 0 Tryz.prog l #[.int .i64 (i:Nat),.agg #[.int .i64 z0,.int .i64 z1,.int .i64 z2,.int .i64 z3,.int .i64 z4,.int .i64 z5,.int .i64 z6]] x Ry)
  (hK:∀ e y,Ry e y→∃ r,e=.returned (.bool r)∧∀ a',a'.tmps.size=19→a'.defers=[]→a'.eval (.tmp 0)=.func (.yield l) #[] #[]→a'.eval (.tmp 1)=.pointer (some ⟨bx,0,none⟩)→a'.eval (.tmp 3)=.int .i64 (i:Nat)→a'.eval (.tmp 18)=.bool (!r)→K a' y):(atc Tryz.f108.body [1,1,1,1,0,1,0]).wp Tryz.prog (Exit.then K Q) a x:=by
 obtain ⟨cc,hcc,hce⟩:=expand19 hs hd
 have g0:=(hce 0).trans x0
 have g1:=(hce 1).trans x1
 have g3:=(hce 3).trans x3
 clear hce hs hd x0 x1 x3
 subst hcc
 conv=>arg 2; whnf
 simp only [lit19,g0,g1,g3]
 clear g0 g1 g3
 obtain ⟨fn,tmps,assign,body,hy,hR⟩:=hY
 have HR:Hid (RoundIn Fence.wide 0 Tryz.prog l fn tmps assign body x Ry):=hR
 have HK:Hid _:=hK
 have him2:(i:Int) < (m:Int):=by omega
 clear hR hK
 refine (wpIn_wide (n:=0)).1 ?_
 gi_wp2
 refine ⟨rfl,RoundIn.mono HR.out ?_⟩
 intro e y hry
 obtain ⟨r,rfl,hk⟩:=HK.out e y hry
 gi_wp2
 exact hk _ rfl rfl rfl rfl rfl rfl
set_option maxRecDepth 100000 in
set_option maxHeartbeats 1600000 in
theorem back_tS {i:Nat} (hs:a.tmps.size=19) (hd:a.defers=[]) (x0:a.eval (.tmp 0)=.func (.yield l) #[] #[]) (x1:a.eval (.tmp 1)=.pointer (some ⟨bx,0,none⟩)) (x3:a.eval (.tmp 3)=.int .i64 (i:Nat))
  
  (hK:∀ a',a'.tmps.size=19→a'.defers=[]→a'.eval (.tmp 0)=.func (.yield l) #[] #[]→a'.eval (.tmp 1)=.pointer (some ⟨bx,0,none⟩)→a'.eval (.tmp 3)=.int .i64 (i:Nat)→K a' x):(atc Tryz.f108.body [1,1,1,0]).wp Tryz.prog (Exit.then K Q) a x:=by
 obtain ⟨cc,hcc,hce⟩:=expand19 hs hd
 have g0:=(hce 0).trans x0
 have g1:=(hce 1).trans x1
 have g3:=(hce 3).trans x3
 clear hce hs hd x0 x1 x3
 subst hcc
 conv=>arg 2; whnf
 simp only [lit19,g0,g1,g3]
 clear g0 g1 g3
 have HK:Hid _:=hK
 clear hK
 go_wp2
 exact HK.out _ rfl rfl rfl rfl rfl
set_option maxRecDepth 100000 in
set_option maxHeartbeats 1600000 in
theorem back_fS (hs:a.tmps.size=19) (hd:a.defers=[]) (x0:a.eval (.tmp 0)=.func (.yield l) #[] #[]) (x1:a.eval (.tmp 1)=.pointer (some ⟨bx,0,none⟩)) (x3:a.eval (.tmp 3)=.int .i64 (-1))
  
  (hQ:∀ a',a'.defers=[]→Q (.exit 0) a' x):(atc Tryz.f108.body [1,1,1,0]).wp Tryz.prog (Exit.then K Q) a x:=by
 obtain ⟨cc,hcc,hce⟩:=expand19 hs hd
 have g0:=(hce 0).trans x0
 have g1:=(hce 1).trans x1
 have g3:=(hce 3).trans x3
 clear hce hs hd x0 x1 x3
 subst hcc
 conv=>arg 2; whnf
 simp only [lit19,g0,g1,g3]
 clear g0 g1 g3
 have HQ:Hid _:=hQ
 clear hQ
 go_wp2
 exact HQ.out _ rfl
set_option maxRecDepth 100000 in
set_option maxHeartbeats 1600000 in
theorem back_cS {i:Nat} (hs:a.tmps.size=19) (hd:a.defers=[]) (x0:a.eval (.tmp 0)=.func (.yield l) #[] #[]) (x1:a.eval (.tmp 1)=.pointer (some ⟨bx,0,none⟩)) (x3:a.eval (.tmp 3)=.int .i64 (i:Nat)) (x18:a.eval (.tmp 18)=.bool false)
  
  (hK:∀ a',a'.tmps.size=19→a'.defers=[]→a'.eval (.tmp 0)=.func (.yield l) #[] #[]→a'.eval (.tmp 1)=.pointer (some ⟨bx,0,none⟩)→a'.eval (.tmp 3)=.int .i64 (i:Nat)→K a' x):(atc Tryz.f108.body [1,1,1,1,0,1,1]).wp Tryz.prog (Exit.then K Q) a x:=by
 obtain ⟨cc,hcc,hce⟩:=expand19 hs hd
 have g0:=(hce 0).trans x0
 have g1:=(hce 1).trans x1
 have g3:=(hce 3).trans x3
 have g18:=(hce 18).trans x18
 clear hce hs hd x0 x1 x3 x18
 subst hcc
 conv=>arg 2; whnf
 simp only [lit19,g0,g1,g3,g18]
 clear g0 g1 g3 g18
 have HK:Hid _:=hK
 clear hK
 go_wp2
 exact HK.out _ rfl rfl rfl rfl rfl
set_option maxRecDepth 100000 in
set_option maxHeartbeats 1600000 in
theorem back_dS {i:Nat} (hs:a.tmps.size=19) (hd:a.defers=[]) (x0:a.eval (.tmp 0)=.func (.yield l) #[] #[]) (x1:a.eval (.tmp 1)=.pointer (some ⟨bx,0,none⟩)) (x3:a.eval (.tmp 3)=.int .i64 (i:Nat)) (x18:a.eval (.tmp 18)=.bool true)
  
  (hQ:∀ a',a'.defers=[]→Q .ret a' x):(atc Tryz.f108.body [1,1,1,1,0,1,1]).wp Tryz.prog (Exit.then K Q) a x:=by
 obtain ⟨cc,hcc,hce⟩:=expand19 hs hd
 have g0:=(hce 0).trans x0
 have g1:=(hce 1).trans x1
 have g3:=(hce 3).trans x3
 have g18:=(hce 18).trans x18
 clear hce hs hd x0 x1 x3 x18
 subst hcc
 conv=>arg 2; whnf
 simp only [lit19,g0,g1,g3,g18]
 clear g0 g1 g3 g18
 have HQ:Hid _:=hQ
 clear hQ
 go_wp2
 exact HQ.out _ rfl
set_option maxRecDepth 100000 in
set_option maxHeartbeats 1600000 in
theorem back_rS {i:Nat} (hs:a.tmps.size=19) (hd:a.defers=[]) (x0:a.eval (.tmp 0)=.func (.yield l) #[] #[]) (x1:a.eval (.tmp 1)=.pointer (some ⟨bx,0,none⟩)) (x3:a.eval (.tmp 3)=.int .i64 (i:Nat))
  (hi:i≤1000000)
  (hK:∀ a',a'.tmps.size=19→a'.defers=[]→a'.eval (.tmp 0)=.func (.yield l) #[] #[]→a'.eval (.tmp 1)=.pointer (some ⟨bx,0,none⟩)→a'.eval (.tmp 3)=.int .i64 ((i:Int) - 1)→K a' x):(atc Tryz.f108.body [1,1,1,1,1]).wp Tryz.prog (Exit.then K Q) a x:=by
 obtain ⟨cc,hcc,hce⟩:=expand19 hs hd
 have g0:=(hce 0).trans x0
 have g1:=(hce 1).trans x1
 have g3:=(hce 3).trans x3
 clear hce hs hd x0 x1 x3
 subst hcc
 conv=>arg 2; whnf
 simp only [lit19,g0,g1,g3]
 clear g0 g1 g3
 have HK:Hid _:=hK
 have hi2:(i:Int)≤1000000:=by omega
 clear hK
 go_wp2
 exact HK.out _ rfl rfl rfl rfl rfl
set_option maxRecDepth 100000 in
set_option maxHeartbeats 1600000 in
theorem back_yI {z0:Int} {g m c i:Nat} {Ry:Ending→World→Prop} (hs:a.tmps.size=19) (hd:a.defers=[]) (x0:a.eval (.tmp 0)=.func (.yield l) #[] #[]) (x1:a.eval (.tmp 1)=.pointer (some ⟨bx,0,none⟩)) (x3:a.eval (.tmp 3)=.int .i64 (i:Nat))
  (hb:x.cell? ⟨bx,0,none⟩=some (.slice (some ⟨g,0,none⟩) m c)) (him:i < m) (k0:x.cell? ⟨g,i,none⟩=some (.int .i64 z0)) (hY:YieldAt Fence.wide 0 Tryz.prog l #[.int .i64 (i:Nat),.int .i64 z0] x Ry)
  (hK:∀ e y,Ry e y→∃ r,e=.returned (.bool r)∧∀ a',a'.tmps.size=19→a'.defers=[]→a'.eval (.tmp 0)=.func (.yield l) #[] #[]→a'.eval (.tmp 1)=.pointer (some ⟨bx,0,none⟩)→a'.eval (.tmp 3)=.int .i64 (i:Nat)→a'.eval (.tmp 18)=.bool (!r)→K a' y):(atc Tryz.f103.body [1,1,1,1,0,1,0]).wp Tryz.prog (Exit.then K Q) a x:=by
 obtain ⟨cc,hcc,hce⟩:=expand19 hs hd
 have g0:=(hce 0).trans x0
 have g1:=(hce 1).trans x1
 have g3:=(hce 3).trans x3
 clear hce hs hd x0 x1 x3
 subst hcc
 conv=>arg 2; whnf
 simp only [lit19,g0,g1,g3]
 clear g0 g1 g3
 obtain ⟨fn,tmps,assign,body,hy,hR⟩:=hY
 have HR:Hid (RoundIn Fence.wide 0 Tryz.prog l fn tmps assign body x Ry):=hR
 have HK:Hid _:=hK
 have him2:(i:Int) < (m:Int):=by omega
 clear hR hK
 refine (wpIn_wide (n:=0)).1 ?_
 gi_wp2
 refine ⟨rfl,RoundIn.mono HR.out ?_⟩
 intro e y hry
 obtain ⟨r,rfl,hk⟩:=HK.out e y hry
 gi_wp2
 exact hk _ rfl rfl rfl rfl rfl rfl
set_option maxRecDepth 100000 in
set_option maxHeartbeats 1600000 in
theorem back_tI {i:Nat} (hs:a.tmps.size=19) (hd:a.defers=[]) (x0:a.eval (.tmp 0)=.func (.yield l) #[] #[]) (x1:a.eval (.tmp 1)=.pointer (some ⟨bx,0,none⟩)) (x3:a.eval (.tmp 3)=.int .i64 (i:Nat))
  
  (hK:∀ a',a'.tmps.size=19→a'.defers=[]→a'.eval (.tmp 0)=.func (.yield l) #[] #[]→a'.eval (.tmp 1)=.pointer (some ⟨bx,0,none⟩)→a'.eval (.tmp 3)=.int .i64 (i:Nat)→K a' x):(atc Tryz.f103.body [1,1,1,0]).wp Tryz.prog (Exit.then K Q) a x:=by
 obtain ⟨cc,hcc,hce⟩:=expand19 hs hd
 have g0:=(hce 0).trans x0
 have g1:=(hce 1).trans x1
 have g3:=(hce 3).trans x3
 clear hce hs hd x0 x1 x3
 subst hcc
 conv=>arg 2; whnf
 simp only [lit19,g0,g1,g3]
 clear g0 g1 g3
 have HK:Hid _:=hK
 clear hK
 go_wp2
 exact HK.out _ rfl rfl rfl rfl rfl
set_option maxRecDepth 100000 in
set_option maxHeartbeats 1600000 in
theorem back_fI (hs:a.tmps.size=19) (hd:a.defers=[]) (x0:a.eval (.tmp 0)=.func (.yield l) #[] #[]) (x1:a.eval (.tmp 1)=.pointer (some ⟨bx,0,none⟩)) (x3:a.eval (.tmp 3)=.int .i64 (-1))
  
  (hQ:∀ a',a'.defers=[]→Q (.exit 0) a' x):(atc Tryz.f103.body [1,1,1,0]).wp Tryz.prog (Exit.then K Q) a x:=by
 obtain ⟨cc,hcc,hce⟩:=expand19 hs hd
 have g0:=(hce 0).trans x0
 have g1:=(hce 1).trans x1
 have g3:=(hce 3).trans x3
 clear hce hs hd x0 x1 x3
 subst hcc
 conv=>arg 2; whnf
 simp only [lit19,g0,g1,g3]
 clear g0 g1 g3
 have HQ:Hid _:=hQ
 clear hQ
 go_wp2
 exact HQ.out _ rfl
set_option maxRecDepth 100000 in
set_option maxHeartbeats 1600000 in
theorem back_cI {i:Nat} (hs:a.tmps.size=19) (hd:a.defers=[]) (x0:a.eval (.tmp 0)=.func (.yield l) #[] #[]) (x1:a.eval (.tmp 1)=.pointer (some ⟨bx,0,none⟩)) (x3:a.eval (.tmp 3)=.int .i64 (i:Nat)) (x18:a.eval (.tmp 18)=.bool false)
  
  (hK:∀ a',a'.tmps.size=19→a'.defers=[]→a'.eval (.tmp 0)=.func (.yield l) #[] #[]→a'.eval (.tmp 1)=.pointer (some ⟨bx,0,none⟩)→a'.eval (.tmp 3)=.int .i64 (i:Nat)→K a' x):(atc Tryz.f103.body [1,1,1,1,0,1,1]).wp Tryz.prog (Exit.then K Q) a x:=by
 obtain ⟨cc,hcc,hce⟩:=expand19 hs hd
 have g0:=(hce 0).trans x0
 have g1:=(hce 1).trans x1
 have g3:=(hce 3).trans x3
 have g18:=(hce 18).trans x18
 clear hce hs hd x0 x1 x3 x18
 subst hcc
 conv=>arg 2; whnf
 simp only [lit19,g0,g1,g3,g18]
 clear g0 g1 g3 g18
 have HK:Hid _:=hK
 clear hK
 go_wp2
 exact HK.out _ rfl rfl rfl rfl rfl
set_option maxRecDepth 100000 in
set_option maxHeartbeats 1600000 in
theorem back_dI {i:Nat} (hs:a.tmps.size=19) (hd:a.defers=[]) (x0:a.eval (.tmp 0)=.func (.yield l) #[] #[]) (x1:a.eval (.tmp 1)=.pointer (some ⟨bx,0,none⟩)) (x3:a.eval (.tmp 3)=.int .i64 (i:Nat)) (x18:a.eval (.tmp 18)=.bool true)
  
  (hQ:∀ a',a'.defers=[]→Q .ret a' x):(atc Tryz.f103.body [1,1,1,1,0,1,1]).wp Tryz.prog (Exit.then K Q) a x:=by
 obtain ⟨cc,hcc,hce⟩:=expand19 hs hd
 have g0:=(hce 0).trans x0
 have g1:=(hce 1).trans x1
 have g3:=(hce 3).trans x3
 have g18:=(hce 18).trans x18
 clear hce hs hd x0 x1 x3 x18
 subst hcc
 conv=>arg 2; whnf
 simp only [lit19,g0,g1,g3,g18]
 clear g0 g1 g3 g18
 have HQ:Hid _:=hQ
 clear hQ
 go_wp2
 exact HQ.out _ rfl
set_option maxRecDepth 100000 in
set_option maxHeartbeats 1600000 in
theorem back_rI {i:Nat} (hs:a.tmps.size=19) (hd:a.defers=[]) (x0:a.eval (.tmp 0)=.func (.yield l) #[] #[]) (x1:a.eval (.tmp 1)=.pointer (some ⟨bx,0,none⟩)) (x3:a.eval (.tmp 3)=.int .i64 (i:Nat))
  (hi:i≤1000000)
  (hK:∀ a',a'.tmps.size=19→a'.defers=[]→a'.eval (.tmp 0)=.func (.yield l) #[] #[]→a'.eval (.tmp 1)=.pointer (some ⟨bx,0,none⟩)→a'.eval (.tmp 3)=.int .i64 ((i:Int) - 1)→K a' x):(atc Tryz.f103.body [1,1,1,1,1]).wp Tryz.prog (Exit.then K Q) a x:=by
 obtain ⟨cc,hcc,hce⟩:=expand19 hs hd
 have g0:=(hce 0).trans x0
 have g1:=(hce 1).trans x1
 have g3:=(hce 3).trans x3
 clear hce hs hd x0 x1 x3
 subst hcc
 conv=>arg 2; whnf
 simp only [lit19,g0,g1,g3]
 clear g0 g1 g3
 have HK:Hid _:=hK
 have hi2:(i:Int)≤1000000:=by omega
 clear hK
 go_wp2
 exact HK.out _ rfl rfl rfl rfl rfl
end
end Go.Proofs.YtloljphbdfjgdaaGreatDoor
/- slices.Backward's iterators, by contract. (Written by tools/gen/genback12b.py.) -/
namespace Go.Proofs.YtloljphbdfjgdaaGreatDoor
open Go.RowKit
def stepA (x:Tr × Int):Value:=.agg (stepC x).toArray
theorem stepC_ints (x:Tr × Int):∃ z0 z1 z2 z3 z4 z5 z6:Int,stepC x=[.int .i64 z0,.int .i64 z1,.int .i64 z2,.int .i64 z3,.int .i64 z4,.int .i64 z5,.int .i64 z6]:=by
 obtain ⟨t,sd⟩:=x
 cases t <;> exact ⟨_,_,_,_,_,_,_,rfl⟩
theorem stepA_of {x:Tr × Int} {z0 z1 z2 z3 z4 z5 z6:Int} (h:stepC x=[.int .i64 z0,.int .i64 z1,.int .i64 z2,.int .i64 z3,.int .i64 z4,.int .i64 z5,.int .i64 z6]):stepA x=.agg #[.int .i64 z0,.int .i64 z1,.int .i64 z2,.int .i64 z3,.int .i64 z4,.int .i64 z5,.int .i64 z6]:=by
 unfold stepA; rw [h]
theorem flat_step:∀ (l:List (Tr × Int)) (i:Nat) (hi:i < l.length) (j:Nat),j < 7→(l.flatMap stepC)[i * 7+j]?=(stepC l[i])[j]?
 | [],i,hi,j,_=>by simp at hi
 | x :: l,0,_,j,hj=>by
  simp only [List.flatMap_cons,List.getElem_cons_zero,Nat.zero_mul,Nat.zero_add]
  rw [List.getElem?_append_left (by rw [stepC_len]; exact hj)]
 | x :: l,i+1,hi,j,hj=>by
  simp only [List.flatMap_cons,List.getElem_cons_succ]
  rw [List.getElem?_append_right (by rw [stepC_len]; omega),stepC_len,show (i+1) * 7+j - 7=i * 7+j by omega]
  exact flat_step l i (by simpa using hi) j hj
theorem SR.cells {B:Nat} {w:World} {g c:Nat} {l:List (Tr × Int)} (h:SR B w (.slice (some ⟨g,0,none⟩) l.length c) l) {i:Nat} (hi:i < l.length) {z0 z1 z2 z3 z4 z5 z6:Int} (hz:stepC l[i]=[.int .i64 z0,.int .i64 z1,.int .i64 z2,.int .i64 z3,.int .i64 z4,.int .i64 z5,.int .i64 z6]) :
  w.cell? ⟨g,i * 7,none⟩=some (.int .i64 z0)∧w.cell? ⟨g,i * 7+1,none⟩=some (.int .i64 z1)∧w.cell? ⟨g,i * 7+2,none⟩=some (.int .i64 z2)∧w.cell? ⟨g,i * 7+3,none⟩=some (.int .i64 z3)∧w.cell? ⟨g,i * 7+4,none⟩=some (.int .i64 z4)∧w.cell? ⟨g,i * 7+5,none⟩=some (.int .i64 z5)∧w.cell? ⟨g,i * 7+6,none⟩=some (.int .i64 z6):=by
 have key:∀ j,j < 7→w.cell? ⟨g,i * 7+j,none⟩=(stepC l[i])[j]?:=fun j hj=>(h.own.cellAt _ (by omega)).trans (flat_step l i hi j hj)
 rw [hz] at key
 exact ⟨key 0 (by omega),key 1 (by omega),key 2 (by omega),key 3 (by omega),key 4 (by omega),key 5 (by omega),key 6 (by omega)⟩
theorem IR.cells {B:Nat} {w:World} {g c:Nat} {l:List Int} (h:IR B w (.slice (some ⟨g,0,none⟩) l.length c) l) {i:Nat} (hi:i < l.length):w.cell? ⟨g,i,none⟩=some (.int .i64 l[i]):=by
 have:=h.own.cellAt i (by omega)
 rw [this]
 simp [hi]
theorem wp_last' {P:Program} {c:Code} {M:Act→World→Prop} {Q:Exit→Act→World→Prop} {a:Act} {x:World} (h:c.wp P (Exit.then M (fun _ _ _=>False)) a x):c.wp P (Exit.then M Q) a x :=
 wp_mono h fun e _ _ h=>by cases e <;> first | exact h | exact h.elim
def xsS (l:List (Tr × Int)) (j:Nat):Array Value:=#[.int .i64 ((l.length - 1 - j:Nat):Int),stepA (l.getD (l.length - 1 - j) (.leaf 0 0 0,0))]
def PreS (bx B:Nat) (v:Value) (l:List (Tr × Int)) (W:World):Prop:=W.heap[bx]?=some (.cells #[v] 130 (0,0))∧SR B W v l
theorem PreS.keep {bx B:Nat} {v:Value} {l:List (Tr × Int)} {W W':World} {M:List Nat} (h:PreS bx B v l W) (ht:Turned M W W') (hb:bx∉M) (hv:∀ g,v.ownBlock=some g→g∉M):PreS bx B v l W':=⟨ht.heap h.1 hb,SR.keep h.2 ht hv⟩
theorem PreS.lt {bx B:Nat} {v:Value} {l:List (Tr × Int)} {W:World} (h:PreS bx B v l W):bx < W.heap.size∧∀ g,v.ownBlock=some g→g < W.heap.size:=⟨lt_of_heap h.1,fun _ hg=>(h.2.fresh hg).2⟩
structure BFS (l' bx B:Nat) (v:Value) (l:List (Tr × Int)) (J:Nat→List Nat→World→Prop) (G:List Nat) (W:World) (a:Act) (x:World):Prop where
 hs:a.tmps.size=19
 hd:a.defers=[]
 x0:a.eval (.tmp 0)=.func (.yield l') #[] #[]
 x1:a.eval (.tmp 1)=.pointer (some ⟨bx,0,none⟩)
 ex:∃ j G',j≤l.length∧a.eval (.tmp 3)=.int .i64 ((l.length:Int) - 1 - j)∧J j G' x∧Wider G G' W∧Turned G W x∧PreS bx B v l x
set_option maxRecDepth 100000 in
set_option maxHeartbeats 1600000 in
theorem iterS {bx B:Nat} {v:Value} {l:List (Tr × Int)} (hl:l.length≤10000):IterY Tryz.prog 108 #[.pointer (some ⟨bx,0,none⟩)] l.length (xsS l) [] (bx :: v.ownBlock.toList) (PreS bx B v l):=by
 intro l' J Jx G W hT hJ hP hG
 refine callsIn_wide.2 ?_
 have hPl:=hP.lt
 have hbG:bx∉G:=fun hm=>(hG bx hm).2 (by simp)
 have hvG:∀ g,v.ownBlock=some g→g∉G:=fun g hg hm=>(hG g hm).2 (by rw [hg]; simp)
 have HP:Hid (PreS bx B v l W):=hP
 have HJ:Hid (J 0 G W):=hJ
 have HT:Hid (TakerY Tryz.prog l' l.length (xsS l) J Jx):=hT
 obtain ⟨va,vc,hv⟩:=hP.2.form
 have hc:=(cells1 hP.1).1
 rw [hv] at hc
 have HX:Hid (bx∉G∧(∀ g,v.ownBlock=some g→g∉G)∧bx < W.heap.size∧(∀ g,v.ownBlock=some g→g < W.heap.size)):=⟨hbG,hvG,hPl.1,hPl.2⟩
 have HV:Hid (v=.slice va l.length vc):=hv
 have hl2:(l.length:Int)≤10000:=by omega
 show Calls _ _ #[.func (.yield l') #[] #[],.pointer (some ⟨bx,0,none⟩)] _ _
 clear hP hJ hT hbG hvG hPl hG hv
 go_enter Tryz.func108,Tryz.ntmps108
 go_wp2
 have HC:Hid _:=hc
 clear hc
 refine wp_loop (BFS l' bx B v l J G W) (fun a _=>(intOf (a.eval (.tmp 3))+1).toNat) ⟨rfl,rfl,rfl,rfl,⟨0,G,Nat.zero_le _,by show Value.int _ _=_; simp,HJ.out,fun x hx=>.inl hx,Turned.refl _ _,HP.out⟩⟩ ?_
 rintro a x ⟨hs,hd,x0,x1,⟨j,G',hj,x3,hJ,hW,hTu,hPr⟩⟩
 have nb:bx∉G':=fun hm=>by
  rcases hW _ hm with h | h
  ·exact HX.out.1 h
  ·have:=HX.out.2.2.1; omega
 have nv':∀ g,v.ownBlock=some g→g∉G':=fun g hg hm=>by
  rcases hW _ hm with h | h
  ·exact HX.out.2.1 g hg h
  ·have:=HX.out.2.2.2 g hg; omega
 by_cases he:j=l.length
 ·subst he
  rw [show ((l.length:Int) - 1 - (l.length:Nat))=-1 by omega] at x3
  refine wp_seq (back_fS hs hd x0 x1 x3 fun a' hd'=>?_)
  refine ⟨hd',.tuple #[],by simp [results,Tryz.results108],⟨_,rfl⟩,hTu,hPr,.inl ⟨G',hJ,hW⟩⟩
 ·obtain ⟨i,hi⟩:∃ i:Nat,i=l.length - 1 - j:=⟨_,rfl⟩
  have x3':a.eval (.tmp 3)=.int .i64 (i:Nat):=by rw [x3]; congr 1; omega
  have hmeas:(intOf (a.eval (.tmp 3))+1).toNat=i+1:=by rw [x3']; simp [intOf]
  rw [hmeas]
  refine wp_seq (back_tS hs hd x0 x1 x3' ?_)
  clear hs hd x0 x1 x3 x3' hmeas
  intro a2 hs hd x0 x1 x3
  have hil:i < l.length:=by omega
  have hY:=HT.out.takes j (by omega) G' x hJ
  have hxs:xsS l j=#[.int .i64 (i:Nat),stepA l[i]]:=by
   unfold xsS
   rw [← hi,List.getD_eq_getElem?_getD,List.getElem?_eq_getElem hil]
   rfl
  rw [hxs] at hY
  have hrow:=hPr.2
  rw [HV.out] at hrow
  rcases hrow.own.2 with ⟨h0,h00⟩ | ⟨g,c,cs,hve,-⟩
  ·exfalso; omega
  ·cases hve
   have hcx:=(cells1 hPr.1).1
   rw [HV.out] at hcx
   have hi':=hil
   obtain ⟨z0,z1,z2,z3,z4,z5,z6,hz⟩:=stepC_ints (l[i]'hil)
   have hk:=SR.cells hrow hil hz
   obtain ⟨k0,k1,k2,k3,k4,k5,k6⟩:=hk
   refine wp_seq (wp_block ?_)
   refine wp_seq (back_yS (Ry:=fun e w3=>Turned G' x w3∧((e=.returned (.bool true)∧∃ G2,J (j+1) G2 w3∧Wider G' G2 x)∨(e=.returned (.bool false)∧Jx j w3))) hs hd x0 x1 x3 hcx hil k0 k1 k2 k3 k4 k5 k6 ?_ ?_)
   ·show YieldAt _ _ _ _ #[.int .i64 (i:Nat),.agg #[.int .i64 z0,.int .i64 z1,.int .i64 z2,.int .i64 z3,.int .i64 z4,.int .i64 z5,.int .i64 z6]] _ _
    rw [← stepA_of hz]; exact hY
   ·clear hs hd x0 x1 x3
    rintro e y ⟨ht,⟨rfl,G2,hJ2,hW2⟩ | ⟨rfl,hx⟩⟩
    ·refine ⟨true,rfl,?_⟩
     intro a3 hs hd x0 x1 x3 x18
     refine wp_mono (back_cS (K:=fun a' y'=>y'=y∧a'.tmps.size=19∧a'.defers=[]∧a'.eval (.tmp 0)=.func (.yield l') #[] #[]∧a'.eval (.tmp 1)=.pointer (some ⟨bx,0,none⟩)∧a'.eval (.tmp 3)=.int .i64 (i:Nat)) (Q:=fun _ _ _=>False) hs hd x0 x1 x3 x18 (fun a' h1 h2 h3 h4 h5=>⟨rfl,h1,h2,h3,h4,h5⟩)) ?_
     intro e a4 y' h
     cases e with
     | normal =>
      obtain ⟨rfl,hs,hd,x0,x1,x3⟩:=h
      refine wp_last' (back_rS hs hd x0 x1 x3 (by omega) ?_)
      clear hs hd x0 x1 x3
      intro a5 hs hd x0 x1 x3
      refine ⟨⟨hs,hd,x0,x1,⟨j+1,G2,by omega,by rw [x3]; congr 1; omega,hJ2,fun z hz=>?_,hTu.inner ht (fun z hz=>hW z hz),hPr.keep ht nb nv'⟩⟩,?_⟩
      ·rcases hW2 z hz with h | h
       ·exact hW z h
       ·exact .inr (Nat.le_trans hTu.size h)
      ·rw [x3]; simp [intOf]
     | ret=>exact h.elim
     | exit id=>exact h.elim
     | goto t=>exact h.elim
     | panic c=>exact h.elim
     | outgrown=>exact h.elim
    ·refine ⟨false,rfl,?_⟩
     intro a3 hs hd x0 x1 x3 x18
     refine wp_mono (back_dS (K:=fun _ _=>False) (Q:=fun e a' y'=>e=.ret∧y'=y∧a'.defers=[]) hs hd x0 x1 x3 x18 (fun a' h=>⟨rfl,rfl,h⟩)) ?_
     intro e a4 y' h
     cases e with
     | normal=>exact h.elim
     | ret =>
      obtain ⟨-,rfl,hd⟩:=h
      exact ⟨hd,.tuple #[],by simp [results,Tryz.results108],⟨_,rfl⟩,hTu.inner ht (fun z hz=>hW z hz),hPr.keep ht nb nv',.inr ⟨j,by omega,hx⟩⟩
     | exit id=>exact absurd h.1 (by simp)
     | goto t=>exact absurd h.1 (by simp)
     | panic c=>exact absurd h.1 (by simp)
     | outgrown=>exact absurd h.1 (by simp)
def xsI (l:List Int) (j:Nat):Array Value:=#[.int .i64 ((l.length - 1 - j:Nat):Int),(Value.int .i64) (l.getD (l.length - 1 - j) 0)]
def PreI (bx B:Nat) (v:Value) (l:List Int) (W:World):Prop:=W.heap[bx]?=some (.cells #[v] 38 (0,0))∧IR B W v l
theorem PreI.keep {bx B:Nat} {v:Value} {l:List Int} {W W':World} {M:List Nat} (h:PreI bx B v l W) (ht:Turned M W W') (hb:bx∉M) (hv:∀ g,v.ownBlock=some g→g∉M):PreI bx B v l W':=⟨ht.heap h.1 hb,IR.keep h.2 ht hv⟩
theorem PreI.lt {bx B:Nat} {v:Value} {l:List Int} {W:World} (h:PreI bx B v l W):bx < W.heap.size∧∀ g,v.ownBlock=some g→g < W.heap.size:=⟨lt_of_heap h.1,fun _ hg=>(h.2.fresh hg).2⟩
structure BFI (l' bx B:Nat) (v:Value) (l:List Int) (J:Nat→List Nat→World→Prop) (G:List Nat) (W:World) (a:Act) (x:World):Prop where
 hs:a.tmps.size=19
 hd:a.defers=[]
 x0:a.eval (.tmp 0)=.func (.yield l') #[] #[]
 x1:a.eval (.tmp 1)=.pointer (some ⟨bx,0,none⟩)
 ex:∃ j G',j≤l.length∧a.eval (.tmp 3)=.int .i64 ((l.length:Int) - 1 - j)∧J j G' x∧Wider G G' W∧Turned G W x∧PreI bx B v l x
set_option maxRecDepth 100000 in
set_option maxHeartbeats 1600000 in
theorem iterI {bx B:Nat} {v:Value} {l:List Int} (hl:l.length≤10000):IterY Tryz.prog 103 #[.pointer (some ⟨bx,0,none⟩)] l.length (xsI l) [] (bx :: v.ownBlock.toList) (PreI bx B v l):=by
 intro l' J Jx G W hT hJ hP hG
 refine callsIn_wide.2 ?_
 have hPl:=hP.lt
 have hbG:bx∉G:=fun hm=>(hG bx hm).2 (by simp)
 have hvG:∀ g,v.ownBlock=some g→g∉G:=fun g hg hm=>(hG g hm).2 (by rw [hg]; simp)
 have HP:Hid (PreI bx B v l W):=hP
 have HJ:Hid (J 0 G W):=hJ
 have HT:Hid (TakerY Tryz.prog l' l.length (xsI l) J Jx):=hT
 obtain ⟨va,vc,hv⟩:=hP.2.form
 have hc:=(cells1 hP.1).1
 rw [hv] at hc
 have HX:Hid (bx∉G∧(∀ g,v.ownBlock=some g→g∉G)∧bx < W.heap.size∧(∀ g,v.ownBlock=some g→g < W.heap.size)):=⟨hbG,hvG,hPl.1,hPl.2⟩
 have HV:Hid (v=.slice va l.length vc):=hv
 have hl2:(l.length:Int)≤10000:=by omega
 show Calls _ _ #[.func (.yield l') #[] #[],.pointer (some ⟨bx,0,none⟩)] _ _
 clear hP hJ hT hbG hvG hPl hG hv
 go_enter Tryz.func103,Tryz.ntmps103
 go_wp2
 have HC:Hid _:=hc
 clear hc
 refine wp_loop (BFI l' bx B v l J G W) (fun a _=>(intOf (a.eval (.tmp 3))+1).toNat) ⟨rfl,rfl,rfl,rfl,⟨0,G,Nat.zero_le _,by show Value.int _ _=_; simp,HJ.out,fun x hx=>.inl hx,Turned.refl _ _,HP.out⟩⟩ ?_
 rintro a x ⟨hs,hd,x0,x1,⟨j,G',hj,x3,hJ,hW,hTu,hPr⟩⟩
 have nb:bx∉G':=fun hm=>by
  rcases hW _ hm with h | h
  ·exact HX.out.1 h
  ·have:=HX.out.2.2.1; omega
 have nv':∀ g,v.ownBlock=some g→g∉G':=fun g hg hm=>by
  rcases hW _ hm with h | h
  ·exact HX.out.2.1 g hg h
  ·have:=HX.out.2.2.2 g hg; omega
 by_cases he:j=l.length
 ·subst he
  rw [show ((l.length:Int) - 1 - (l.length:Nat))=-1 by omega] at x3
  refine wp_seq (back_fI hs hd x0 x1 x3 fun a' hd'=>?_)
  refine ⟨hd',.tuple #[],by simp [results,Tryz.results103],⟨_,rfl⟩,hTu,hPr,.inl ⟨G',hJ,hW⟩⟩
 ·obtain ⟨i,hi⟩:∃ i:Nat,i=l.length - 1 - j:=⟨_,rfl⟩
  have x3':a.eval (.tmp 3)=.int .i64 (i:Nat):=by rw [x3]; congr 1; omega
  have hmeas:(intOf (a.eval (.tmp 3))+1).toNat=i+1:=by rw [x3']; simp [intOf]
  rw [hmeas]
  refine wp_seq (back_tI hs hd x0 x1 x3' ?_)
  clear hs hd x0 x1 x3 x3' hmeas
  intro a2 hs hd x0 x1 x3
  have hil:i < l.length:=by omega
  have hY:=HT.out.takes j (by omega) G' x hJ
  have hxs:xsI l j=#[.int .i64 (i:Nat),(Value.int .i64) l[i]]:=by
   unfold xsI
   rw [← hi,List.getD_eq_getElem?_getD,List.getElem?_eq_getElem hil]
   rfl
  rw [hxs] at hY
  have hrow:=hPr.2
  rw [HV.out] at hrow
  rcases hrow.own.2 with ⟨h0,h00⟩ | ⟨g,c,cs,hve,-⟩
  ·exfalso; omega
  ·cases hve
   have hcx:=(cells1 hPr.1).1
   rw [HV.out] at hcx
   have hi':=hil
   have k0:=IR.cells hrow hil
   refine wp_seq (wp_block ?_)
   refine wp_seq (back_yI (Ry:=fun e w3=>Turned G' x w3∧((e=.returned (.bool true)∧∃ G2,J (j+1) G2 w3∧Wider G' G2 x)∨(e=.returned (.bool false)∧Jx j w3))) hs hd x0 x1 x3 hcx hil k0 ?_ ?_)
   ·exact hY
   ·clear hs hd x0 x1 x3
    rintro e y ⟨ht,⟨rfl,G2,hJ2,hW2⟩ | ⟨rfl,hx⟩⟩
    ·refine ⟨true,rfl,?_⟩
     intro a3 hs hd x0 x1 x3 x18
     refine wp_mono (back_cI (K:=fun a' y'=>y'=y∧a'.tmps.size=19∧a'.defers=[]∧a'.eval (.tmp 0)=.func (.yield l') #[] #[]∧a'.eval (.tmp 1)=.pointer (some ⟨bx,0,none⟩)∧a'.eval (.tmp 3)=.int .i64 (i:Nat)) (Q:=fun _ _ _=>False) hs hd x0 x1 x3 x18 (fun a' h1 h2 h3 h4 h5=>⟨rfl,h1,h2,h3,h4,h5⟩)) ?_
     intro e a4 y' h
     cases e with
     | normal =>
      obtain ⟨rfl,hs,hd,x0,x1,x3⟩:=h
      refine wp_last' (back_rI hs hd x0 x1 x3 (by omega) ?_)
      clear hs hd x0 x1 x3
      intro a5 hs hd x0 x1 x3
      refine ⟨⟨hs,hd,x0,x1,⟨j+1,G2,by omega,by rw [x3]; congr 1; omega,hJ2,fun z hz=>?_,hTu.inner ht (fun z hz=>hW z hz),hPr.keep ht nb nv'⟩⟩,?_⟩
      ·rcases hW2 z hz with h | h
       ·exact hW z h
       ·exact .inr (Nat.le_trans hTu.size h)
      ·rw [x3]; simp [intOf]
     | ret=>exact h.elim
     | exit id=>exact h.elim
     | goto t=>exact h.elim
     | panic c=>exact h.elim
     | outgrown=>exact h.elim
    ·refine ⟨false,rfl,?_⟩
     intro a3 hs hd x0 x1 x3 x18
     refine wp_mono (back_dI (K:=fun _ _=>False) (Q:=fun e a' y'=>e=.ret∧y'=y∧a'.defers=[]) hs hd x0 x1 x3 x18 (fun a' h=>⟨rfl,rfl,h⟩)) ?_
     intro e a4 y' h
     cases e with
     | normal=>exact h.elim
     | ret =>
      obtain ⟨-,rfl,hd⟩:=h
      exact ⟨hd,.tuple #[],by simp [results,Tryz.results103],⟨_,rfl⟩,hTu.inner ht (fun z hz=>hW z hz),hPr.keep ht nb nv',.inr ⟨j,by omega,hx⟩⟩
     | exit id=>exact absurd h.1 (by simp)
     | goto t=>exact absurd h.1 (by simp)
     | panic c=>exact absurd h.1 (by simp)
     | outgrown=>exact absurd h.1 (by simp)
end Go.Proofs.YtloljphbdfjgdaaGreatDoor
/- How many keys are below one, by the way down: nothing of the program. -/
namespace Go.Proofs.YtloljphbdfjgdaaGreatDoor
open Go.RowKit
namespace Tr
def rup (x:Tr × Int) (s:Int × Int):Int × Int:=(if x.2=1 then s.1+((x.1.cnt:Int) - s.2) else s.1,(x.1.cnt:Int))
def rini (k:Int) (u:Tr):Int × Int:=(if u.hi < k then (u.cnt:Int) else 0,(u.cnt:Int))
theorem rank_all {l:List (Int × Int)} {k:Int} (h:∀ x∈l,x.1 < k):rankL l k=l.length:=by
 have:=rankL_right (l:=l) (m:=[]) (k:=k) h
 rw [List.append_nil] at this
 rw [this]; rfl
theorem rank_zero {l:List (Int × Int)} {k:Int} (h:∀ x∈l,k≤x.1):rankL l k=0:=by
 have:=rankL_left (l:=[]) (m:=l) (k:=k) h
 rw [List.nil_append] at this
 rw [this]; rfl
theorem rank_way (k:Int):∀ {t:Tr},t.WF→(t.way k).foldr rup (rini k (t.stop k))=((rankL t.pairs k:Int),(t.cnt:Int))
 | leaf h k' v,_=>by
  show rini k (leaf h k' v)=_
  unfold rini
  by_cases e:k' < k
  ·rw [if_pos (by simpa [hi] using e),rank_all (by intro x hx; simp [pairs] at hx; subst hx; exact e)]; rfl
  ·rw [if_neg (by simpa [hi] using e),rank_zero (by intro x hx; simp [pairs] at hx; subst hx; omega)]; rfl
 | node h q c l r,hw=>by
  obtain ⟨_,_,_,_,h5,h6,h7,h8,hl,hr⟩:=id hw
  have hp:=pow_pos' q
  have hcn:((node h q c l r).cnt:Int)=l.cnt+r.cnt:=by simp [cnt,pairs]
  by_cases a1:c≤k∧k < c+2 ^ q
  ·rw [show way k (node h q c l r)=(node h q c l r,0) :: way k l by simp only [way]; rw [if_pos a1],show stop k (node h q c l r)=stop k l by simp only [stop]; rw [if_pos a1],List.foldr_cons,rank_way k hl]
   show (if (0:Int)=1 then _ else _,_)=_
   rw [if_neg (by omega)]
   show ((rankL l.pairs k:Int),_)=((rankL (l.pairs ++ r.pairs) k:Int),_)
   rw [rankL_left (fun x hx=>by have:=hr.mem x hx; omega)]
  ·by_cases a2:c+2 ^ q≤k∧k < c+2 * 2 ^ q
   ·rw [show way k (node h q c l r)=(node h q c l r,1) :: way k r by simp only [way]; rw [if_neg a1,if_pos a2],show stop k (node h q c l r)=stop k r by simp only [stop]; rw [if_neg a1,if_pos a2],List.foldr_cons,rank_way k hr]
    show (if (1:Int)=1 then _ else _,_)=_
    rw [if_pos rfl]
    show ((rankL r.pairs k:Int)+(((node h q c l r).cnt:Int) - r.cnt),_)=((rankL (l.pairs ++ r.pairs) k:Int),_)
    rw [rankL_right (fun x hx=>by have:=hl.mem x hx; omega),hcn]
    have:l.cnt=l.pairs.length:=rfl
    congr 1
    omega
   ·rw [show way k (node h q c l r)=[] by simp only [way]; rw [if_neg a1,if_neg a2],show stop k (node h q c l r)=node h q c l r by simp only [stop]; rw [if_neg a1,if_neg a2]]
    show rini k _=_
    unfold rini
    by_cases e:(node h q c l r).hi < k
    ·rw [if_pos e,rank_all (fun x hx=>by have:=hw.mem x hx; omega)]; rfl
    ·rw [if_neg e,rank_zero (fun x hx=>by have:=hw.mem x hx; simp only [hi,lo] at e this; omega)]; rfl
end Tr
theorem cBackS (a:Option Addr) (n c:Nat) (w:World):Calls Tryz.prog 79 #[.slice a n c] w fun e w'=>e=.returned (.func (.func 108) #[] #[.pointer (some ⟨w.heap.size,0,none⟩)])∧w'=w.alloc (.cells #[.slice a n c] 130 (0,0)):=by
 go_enter Tryz.func79,Tryz.ntmps79
 go_wp2
 go_ret
 exact ⟨rfl,rfl⟩
theorem cBackI (a:Option Addr) (n c:Nat) (w:World):Calls Tryz.prog 74 #[.slice a n c] w fun e w'=>e=.returned (.func (.func 103) #[] #[.pointer (some ⟨w.heap.size,0,none⟩)])∧w'=w.alloc (.cells #[.slice a n c] 38 (0,0)):=by
 go_enter Tryz.func74,Tryz.ntmps74
 go_wp2
 go_ret
 exact ⟨rfl,rfl⟩
end Go.Proofs.YtloljphbdfjgdaaGreatDoor
/- A frame, spelled out. -/
namespace Go.Proofs.YtloljphbdfjgdaaGreatDoor
open Go.RowKit
def lit40 (c:Nat→Value):Array Value:=#[c 0,c 1,c 2,c 3,c 4,c 5,c 6,c 7,c 8,c 9,c 10,c 11,c 12,c 13,c 14,c 15,c 16,c 17,c 18,c 19,c 20,c 21,c 22,c 23,c 24,c 25,c 26,c 27,c 28,c 29,c 30,c 31,c 32,c 33,c 34,c 35,c 36,c 37,c 38,c 39]
set_option maxRecDepth 100000 in
theorem lit40_eq (c:Nat→Value):lit40 c=((List.range 40).map c).toArray:=by rfl
theorem expand40 {a:Act} (hs:a.tmps.size=40) (hd:a.defers=[]):∃ c:Nat→Value,a=⟨lit40 c,[]⟩∧∀ s,c s=a.eval (.tmp s):=by
 refine ⟨fun s=>a.tmps.getD s undef,?_,fun s=>rfl⟩
 obtain ⟨t,d⟩:=a
 simp only at hs hd
 subst hd
 congr 1
 rw [lit40_eq]
 refine Array.ext (by simp [hs]) fun i h1 h2=>?_
 simp [Array.getD,h1]
theorem expand40d {a:Act} {ds:List Deferred} (hs:a.tmps.size=40) (hd:a.defers=ds):∃ c:Nat→Value,a=⟨lit40 c,ds⟩∧∀ s,c s=a.eval (.tmp s):=by
 refine ⟨fun s=>a.tmps.getD s undef,?_,fun s=>rfl⟩
 obtain ⟨t,d⟩:=a
 simp only at hs hd
 subst hd
 congr 1
 rw [lit40_eq]
 refine Array.ext (by simp [hs]) fun i h1 h2=>?_
 simp [Array.getD,h1]
end Go.Proofs.YtloljphbdfjgdaaGreatDoor

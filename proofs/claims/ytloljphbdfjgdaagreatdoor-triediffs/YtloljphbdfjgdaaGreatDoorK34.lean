/- A round of package trie's visit, the iterator. (Written by tools/gen/genvis2.py.) -/
import Derived.Test.YtloljphbdfjgdaaGreatDoorK33
namespace Go.Proofs.YtloljphbdfjgdaaGreatDoor
open Go.RowKit
attribute [local go_sem] Oper.semAt_some
section
variable {x:World} {a:Act} {K:Act→World→Prop} {Q:Exit→Act→World→Prop} {l' bt b0 b1 b3 tb g n c:Nat} {uh sa sb lo hi:Int}
set_option maxRecDepth 100000 in
set_option maxHeartbeats 1600000 in
theorem visit_end (hs:a.tmps.size=50) (hd:a.defers=[]) (x0:a.eval (.tmp 0)=.func (.yield l') #[] #[]) (x1:a.eval (.tmp 1)=.pointer (some ⟨bt,0,none⟩)) (x2:a.eval (.tmp 2)=.pointer (some ⟨b0,0,none⟩)) (x3:a.eval (.tmp 3)=.pointer (some ⟨b1,0,none⟩)) (x4:a.eval (.tmp 4)=.pointer (some ⟨b3,0,none⟩)) {va:Option Addr} (x6:a.eval (.tmp 6)=.slice va 0 c) (hQ:∀ a',a'.defers=[]→Q (.exit 0) a' x):(atc Tryz.f92.body [1,0,0]).wp Tryz.prog (Exit.then K Q) a x:=by
 obtain ⟨cc,hcc,hce⟩:=expand50 hs hd
 have g0:=(hce 0).trans x0
 have g1:=(hce 1).trans x1
 have g2:=(hce 2).trans x2
 have g3:=(hce 3).trans x3
 have g4:=(hce 4).trans x4
 have g6:=(hce 6).trans x6
 clear hce hs hd x0 x1 x2 x3 x4 x6
 subst hcc
 conv=>arg 2; whnf
 simp only [lit50,g0,g1,g2,g3,g4,g6]
 clear g0 g1 g2 g3 g4 g6
 have HQ:Hid _:=hQ
 clear hQ
 go_wp2
 exact HQ.out _ rfl
set_option maxRecDepth 100000 in
set_option maxHeartbeats 1600000 in
theorem visit_L {nz:Value} {kk vv:Int} (hs:a.tmps.size=50) (hd:a.defers=[]) (x0:a.eval (.tmp 0)=.func (.yield l') #[] #[]) (x1:a.eval (.tmp 1)=.pointer (some ⟨bt,0,none⟩)) (x2:a.eval (.tmp 2)=.pointer (some ⟨b0,0,none⟩)) (x3:a.eval (.tmp 3)=.pointer (some ⟨b1,0,none⟩)) (x4:a.eval (.tmp 4)=.pointer (some ⟨b3,0,none⟩)) (x6:a.eval (.tmp 6)=.slice (some ⟨g,0,none⟩) (n+1) c) (hn:n≤40) (hc:n+1≤c)
  (hB0:x.heap[b0]?=some (.cells #[.pointer (some ⟨tb,0,none⟩)] 29 (0,0))) (hB1:x.heap[b1]?=some (.cells #[.pointer none] 111 (0,0))) (k0:x.cell? ⟨g,n * 4,none⟩=some (.int .i64 uh)) (k1:x.cell? ⟨g,n * 4+1,none⟩=some (.int .i64 sa)) (k2:x.cell? ⟨g,n * 4+2,none⟩=some (.int .i64 sb)) (k3:x.cell? ⟨g,n * 4+3,none⟩=some nz)
  (hRd:∀ y,Turned [] x y→Calls Tryz.prog 53 #[.pointer (some ⟨tb,0,none⟩),.pointer none,.agg #[.int .i64 uh,.int .i64 sa,.int .i64 sb,nz]] y fun e w'=>e=.returned (.tuple #[.agg #[.int .i64 uh,.int .i64 sa,.int .i64 sb,.iface 128 (.agg #[.int .i64 kk,.int .i64 vv])],.int .i64 0])∧Turned [] y w')
  {Ry:World→Ending→World→Prop} (hY:∀ y,Turned [] x y→YieldAt Fence.wide 0 Tryz.prog l' #[.agg #[.int .i64 uh,.int .i64 sa,.int .i64 sb,.iface 128 (.agg #[.int .i64 kk,.int .i64 vv])],.int .i64 0] y (Ry y))
  (hK:∀ y z e nb,Turned [] x y→y.heap[nb]?=some (.cells #[.int .i64 uh,.int .i64 sa,.int .i64 sb,.iface 128 (.agg #[.int .i64 kk,.int .i64 vv])] 120 (0,0))→x.heap.size≤nb→Ry y e z→(e=.returned (.bool false)∧∀ a',a'.defers=[]→Q .ret a' z)∨(e=.returned (.bool true)∧z.heap[nb]?=some (.cells #[.int .i64 uh,.int .i64 sa,.int .i64 sb,.iface 128 (.agg #[.int .i64 kk,.int .i64 vv])] 120 (0,0))∧(∀ a',a'.tmps.size=50→a'.defers=[]→a'.eval (.tmp 0)=.func (.yield l') #[] #[]→a'.eval (.tmp 1)=.pointer (some ⟨bt,0,none⟩)→a'.eval (.tmp 2)=.pointer (some ⟨b0,0,none⟩)→a'.eval (.tmp 3)=.pointer (some ⟨b1,0,none⟩)→a'.eval (.tmp 4)=.pointer (some ⟨b3,0,none⟩)→a'.eval (.tmp 6)=.slice (some ⟨g,0,none⟩) n c→K a' z))):(atc Tryz.f92.body [1,0,0]).wp Tryz.prog (Exit.then K Q) a x:=by
 obtain ⟨cc,hcc,hce⟩:=expand50 hs hd
 have g0:=(hce 0).trans x0
 have g1:=(hce 1).trans x1
 have g2:=(hce 2).trans x2
 have g3:=(hce 3).trans x3
 have g4:=(hce 4).trans x4
 have g6:=(hce 6).trans x6
 clear hce hs hd x0 x1 x2 x3 x4 x6
 subst hcc
 conv=>arg 2; whnf
 simp only [lit50,g0,g1,g2,g3,g4,g6]
 clear g0 g1 g2 g3 g4 g6
 have HK:Hid _:=hK
 have HY:Hid _:=hY
 have HB:Hid _:=And.intro hB0 (And.intro hB1 (And.intro k0 (And.intro k1 (And.intro k2 k3))))
 have HRd:Hid _:=hRd
 have hn1:(n:Int)≤40:=by omega
 clear hK hY hB0 hB1 k0 k1 k2 k3 hRd
 go_wp2
 rename_i Kr hKr
 obtain ⟨hB0,hB1,k0,k1,k2,k3⟩:=HB.out
 refine visit_r3 (b0:=b0) (b1:=b1) (tb:=tb) (gb:=g) (n:=n) (c:=c) (uh:=uh) (sa:=sa) (sb:=sb) (T:=128) (nn:=(.agg #[.int .i64 kk,.int .i64 vv])) rfl rfl rfl rfl rfl hB0 hB1 k0 k1 k2 k3 HRd.out ?_
 intro a1 y nb hs hd hoff x8 x9 ht hnb hnl
 have x0:a1.eval (.tmp 0)=.func (.yield l') #[] #[]:=hoff 0 (by decide)
 have x1:a1.eval (.tmp 1)=.pointer (some ⟨bt,0,none⟩):=hoff 1 (by decide)
 have x2:a1.eval (.tmp 2)=.pointer (some ⟨b0,0,none⟩):=hoff 2 (by decide)
 have x3:a1.eval (.tmp 3)=.pointer (some ⟨b1,0,none⟩):=hoff 3 (by decide)
 have x4:a1.eval (.tmp 4)=.pointer (some ⟨b3,0,none⟩):=hoff 4 (by decide)
 have x6:a1.eval (.tmp 6)=.slice (some ⟨g,0,none⟩) (n+1) c:=hoff 6 (by decide)
 have x7:a1.eval (.tmp 7)=.int .i64 (n:Nat):=hoff 7 (by decide)
 obtain ⟨fn,tmps,assign,body,hy,hR⟩:=HY.out y ht
 have hk:=HK.out y
 have HR:Hid (RoundIn Fence.wide 0 Tryz.prog l' fn tmps assign body y (Ry y)):=hR
 have HK2:Hid _:=fun z e=>hk z e nb ht hnb hnl
 obtain ⟨⟨e0,e1,e2,e3⟩,-⟩:=cells4 hnb
 have hs2:a1.tmps.size=50:=hs
 have hd2:a1.defers=[]:=hd
 clear hoff hR HK hk HY hB0 hB1 k0 k1 k2 k3 HB HRd ht hnb hnl
 obtain ⟨cc,hcc,hce⟩:=expand50 hs2 hd2
 have g0:=(hce 0).trans x0
 have g1:=(hce 1).trans x1
 have g2:=(hce 2).trans x2
 have g3:=(hce 3).trans x3
 have g4:=(hce 4).trans x4
 have g6:=(hce 6).trans x6
 have g7:=(hce 7).trans x7
 have g8:=(hce 8).trans x8
 have g9:=(hce 9).trans x9
 clear hce hs hd hs2 hd2 x0 x1 x2 x3 x4 x6 x7 x8 x9
 subst hcc
 simp only [lit50,g0,g1,g2,g3,g4,g6,g7,g8,g9]
 clear g0 g1 g2 g3 g4 g6 g7 g8 g9
 unfold pa
 have hnc:n≤c:=by omega
 have as1:=as_leaf_inner
 refine hKr _ _ ?_
 clear hKr Kr
 refine (wpIn_wide (n:=0)).1 ?_
 gi_wp2
 refine ⟨rfl,RoundIn.mono HR.out ?_⟩
 intro e z hry
 rcases HK2.out z e hry with ⟨rfl,hq⟩ | ⟨rfl,hnz,hk⟩
 ·have HQ:Hid _:=hq
  clear hq hry HK2 HR hy
  gi_wp2
  exact HQ.out _ rfl
 ·obtain ⟨⟨f0,f1,f2,f3⟩,-⟩:=cells4 hnz
  have HQ:Hid _:=hk
  clear hk hry HK2 HR hy e0 e1 e2 e3 hnz
  gi_wp2
  exact HQ.out _ rfl rfl rfl rfl rfl rfl rfl rfl
set_option maxRecDepth 100000 in
set_option maxHeartbeats 1600000 in
theorem visit_I {nz:Value} {f q lh rh cn:Int} (hs:a.tmps.size=50) (hd:a.defers=[]) (x0:a.eval (.tmp 0)=.func (.yield l') #[] #[]) (x1:a.eval (.tmp 1)=.pointer (some ⟨bt,0,none⟩)) (x2:a.eval (.tmp 2)=.pointer (some ⟨b0,0,none⟩)) (x3:a.eval (.tmp 3)=.pointer (some ⟨b1,0,none⟩)) (x4:a.eval (.tmp 4)=.pointer (some ⟨b3,0,none⟩)) (x6:a.eval (.tmp 6)=.slice (some ⟨g,0,none⟩) (n+1) c) (hn:n≤40) (hc:n+1≤c)
  (hB0:x.heap[b0]?=some (.cells #[.pointer (some ⟨tb,0,none⟩)] 29 (0,0))) (hB1:x.heap[b1]?=some (.cells #[.pointer none] 111 (0,0))) (k0:x.cell? ⟨g,n * 4,none⟩=some (.int .i64 uh)) (k1:x.cell? ⟨g,n * 4+1,none⟩=some (.int .i64 sa)) (k2:x.cell? ⟨g,n * 4+2,none⟩=some (.int .i64 sb)) (k3:x.cell? ⟨g,n * 4+3,none⟩=some nz)
  (hRd:∀ y,Turned [] x y→Calls Tryz.prog 53 #[.pointer (some ⟨tb,0,none⟩),.pointer none,.agg #[.int .i64 uh,.int .i64 sa,.int .i64 sb,nz]] y fun e w'=>e=.returned (.tuple #[.agg #[.int .i64 uh,.int .i64 sa,.int .i64 sb,.iface 151 (.agg #[.int .i64 f,.int .i64 q,.int .i64 lh,.int .i64 rh,.int .i64 cn])],.int .i64 0])∧Turned [] y w')
  {Ry:World→Ending→World→Prop} (hY:∀ y,Turned [] x y→YieldAt Fence.wide 0 Tryz.prog l' #[.agg #[.int .i64 uh,.int .i64 sa,.int .i64 sb,.iface 151 (.agg #[.int .i64 f,.int .i64 q,.int .i64 lh,.int .i64 rh,.int .i64 cn])],.int .i64 0] y (Ry y))
  (hK:∀ y z e nb,Turned [] x y→y.heap[nb]?=some (.cells #[.int .i64 uh,.int .i64 sa,.int .i64 sb,.iface 151 (.agg #[.int .i64 f,.int .i64 q,.int .i64 lh,.int .i64 rh,.int .i64 cn])] 120 (0,0))→x.heap.size≤nb→Ry y e z→(e=.returned (.bool false)∧∀ a',a'.defers=[]→Q .ret a' z)∨(e=.returned (.bool true)∧z.heap[nb]?=some (.cells #[.int .i64 uh,.int .i64 sa,.int .i64 sb,.iface 151 (.agg #[.int .i64 f,.int .i64 q,.int .i64 lh,.int .i64 rh,.int .i64 cn])] 120 (0,0))∧(∃ (_:z.heap[b3]?=some (.cells #[.int .i64 lo,.int .i64 hi] 116 (0,0))),∃ RM:World→Value→World→Prop,(∀ z',Turned [] z z'→Calls Tryz.prog 93 #[.agg #[.int .i64 f,.int .i64 q,.int .i64 lh,.int .i64 rh,.int .i64 cn],.slice (some ⟨g,0,none⟩) n c,.agg #[.int .i64 lo,.int .i64 hi]] z' fun e w'=>∃ v',e=.returned v'∧RM z' v' w')∧∀ a' z' v' u,Turned [] z z'→RM z' v' u→a'.tmps.size=50→a'.defers=[]→a'.eval (.tmp 0)=.func (.yield l') #[] #[]→a'.eval (.tmp 1)=.pointer (some ⟨bt,0,none⟩)→a'.eval (.tmp 2)=.pointer (some ⟨b0,0,none⟩)→a'.eval (.tmp 3)=.pointer (some ⟨b1,0,none⟩)→a'.eval (.tmp 4)=.pointer (some ⟨b3,0,none⟩)→a'.eval (.tmp 6)=v'→K a' u))):(atc Tryz.f92.body [1,0,0]).wp Tryz.prog (Exit.then K Q) a x:=by
 obtain ⟨cc,hcc,hce⟩:=expand50 hs hd
 have g0:=(hce 0).trans x0
 have g1:=(hce 1).trans x1
 have g2:=(hce 2).trans x2
 have g3:=(hce 3).trans x3
 have g4:=(hce 4).trans x4
 have g6:=(hce 6).trans x6
 clear hce hs hd x0 x1 x2 x3 x4 x6
 subst hcc
 conv=>arg 2; whnf
 simp only [lit50,g0,g1,g2,g3,g4,g6]
 clear g0 g1 g2 g3 g4 g6
 have HK:Hid _:=hK
 have HY:Hid _:=hY
 have HB:Hid _:=And.intro hB0 (And.intro hB1 (And.intro k0 (And.intro k1 (And.intro k2 k3))))
 have HRd:Hid _:=hRd
 have hn1:(n:Int)≤40:=by omega
 clear hK hY hB0 hB1 k0 k1 k2 k3 hRd
 go_wp2
 rename_i Kr hKr
 obtain ⟨hB0,hB1,k0,k1,k2,k3⟩:=HB.out
 refine visit_r3 (b0:=b0) (b1:=b1) (tb:=tb) (gb:=g) (n:=n) (c:=c) (uh:=uh) (sa:=sa) (sb:=sb) (T:=151) (nn:=(.agg #[.int .i64 f,.int .i64 q,.int .i64 lh,.int .i64 rh,.int .i64 cn])) rfl rfl rfl rfl rfl hB0 hB1 k0 k1 k2 k3 HRd.out ?_
 intro a1 y nb hs hd hoff x8 x9 ht hnb hnl
 have x0:a1.eval (.tmp 0)=.func (.yield l') #[] #[]:=hoff 0 (by decide)
 have x1:a1.eval (.tmp 1)=.pointer (some ⟨bt,0,none⟩):=hoff 1 (by decide)
 have x2:a1.eval (.tmp 2)=.pointer (some ⟨b0,0,none⟩):=hoff 2 (by decide)
 have x3:a1.eval (.tmp 3)=.pointer (some ⟨b1,0,none⟩):=hoff 3 (by decide)
 have x4:a1.eval (.tmp 4)=.pointer (some ⟨b3,0,none⟩):=hoff 4 (by decide)
 have x6:a1.eval (.tmp 6)=.slice (some ⟨g,0,none⟩) (n+1) c:=hoff 6 (by decide)
 have x7:a1.eval (.tmp 7)=.int .i64 (n:Nat):=hoff 7 (by decide)
 obtain ⟨fn,tmps,assign,body,hy,hR⟩:=HY.out y ht
 have hk:=HK.out y
 have HR:Hid (RoundIn Fence.wide 0 Tryz.prog l' fn tmps assign body y (Ry y)):=hR
 have HK2:Hid _:=fun z e=>hk z e nb ht hnb hnl
 obtain ⟨⟨e0,e1,e2,e3⟩,-⟩:=cells4 hnb
 have hs2:a1.tmps.size=50:=hs
 have hd2:a1.defers=[]:=hd
 clear hoff hR HK hk HY hB0 hB1 k0 k1 k2 k3 HB HRd ht hnb hnl
 obtain ⟨cc,hcc,hce⟩:=expand50 hs2 hd2
 have g0:=(hce 0).trans x0
 have g1:=(hce 1).trans x1
 have g2:=(hce 2).trans x2
 have g3:=(hce 3).trans x3
 have g4:=(hce 4).trans x4
 have g6:=(hce 6).trans x6
 have g7:=(hce 7).trans x7
 have g8:=(hce 8).trans x8
 have g9:=(hce 9).trans x9
 clear hce hs hd hs2 hd2 x0 x1 x2 x3 x4 x6 x7 x8 x9
 subst hcc
 simp only [lit50,g0,g1,g2,g3,g4,g6,g7,g8,g9]
 clear g0 g1 g2 g3 g4 g6 g7 g8 g9
 unfold pa
 have hnc:n≤c:=by omega
 have as1:=as_inner_inner
 refine hKr _ _ ?_
 clear hKr Kr
 refine (wpIn_wide (n:=0)).1 ?_
 gi_wp2
 refine ⟨rfl,RoundIn.mono HR.out ?_⟩
 intro e z hry
 rcases HK2.out z e hry with ⟨rfl,hq⟩ | ⟨rfl,hnz,hk⟩
 ·have HQ:Hid _:=hq
  clear hq hry HK2 HR hy
  gi_wp2
  exact HQ.out _ rfl
 ·obtain ⟨⟨f0,f1,f2,f3⟩,-⟩:=cells4 hnz
  obtain ⟨hB,RM,hM,hk⟩:=hk
  obtain ⟨⟨s0,s1⟩,-⟩:=cells2 hB
  have HQ:Hid _:=hk
  have HM:Hid _:=hM
  have hb3:=lt_of_heap hB
  clear hk hM hry HK2 HR hy e0 e1 e2 e3 hnz hB
  gi_wp2
  refine ⟨trivial,rfl,(callsIn_wide.2 (HM.out _ ((Turned.refl _ _).alloc _))).mono ?_⟩
  rintro e u ⟨v',rfl,hrm⟩
  have HRM:Hid _:=hrm
  clear hrm
  gi_wp2
  exact HQ.out _ _ _ _ ((Turned.refl _ _).alloc _) HRM.out rfl rfl rfl rfl rfl rfl rfl rfl
end
end Go.Proofs.YtloljphbdfjgdaaGreatDoor

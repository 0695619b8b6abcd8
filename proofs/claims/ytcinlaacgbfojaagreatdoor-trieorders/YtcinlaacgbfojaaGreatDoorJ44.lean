/- The ways through TrieOrders. (Written by tools/gen/genorl.py.) -/
import Derived.Test.YtcinlaacgbfojaaGreatDoorJ43
namespace Go.Proofs.YtcinlaacgbfojaaGreatDoor
open Go.RowKit
theorem wp_endB {P:Program} {c:Code} {Q:Exit→Act→World→Prop} {a:Act} {x:World} (h:c.wp P (Exit.then (Q .normal) Q) a x):c.wp P Q a x :=
 wp_mono h (fun e a w h=>by cases e <;> exact h)
theorem two_cell {x:World} {rb k:Nat} {r0 r1:Value} (hr:x.heap[rb]?=some (.cells #[r0,r1] 37 (0,0))) (hk:k < 2):∃ u,x.cell? ⟨rb,k,none⟩=some u:=by
 rcases (by omega:k=0∨k=1) with rfl | rfl
 ·exact ⟨_,cell_at hr 0⟩
 ·exact ⟨_,cell_at hr 1⟩
theorem pSrc_new (x:World) (ky vy:Int):PSrc (x.alloc (.cells #[.int .i64 ky,.int .i64 vy] 28 (0,0))) (.slice (some ⟨x.heap.size,0,none⟩) 1 1) [(ky,vy)] :=
 ⟨.inr ⟨_,0,1,rfl,fun i hi=>by
  have e:i=0:=by simp at hi; omega
  subst e
  have h:=blk_new x (.cells #[.int .i64 ky,.int .i64 vy] 28 (0,0))
  exact ⟨cell_at h 0,cell_at h 1⟩⟩⟩
section
variable {W x:World} {p tb rb ll lc dl dc il ic kl kc i k j qb qo kb db dq nb c:Nat} {la da ia ka:Option Addr} {by_ ky vy vv er rt:Int} {t:Bool} {a:Act} {K:Act→World→Prop} {Q:Exit→Act→World→Prop}
set_option maxRecDepth 100000 in
set_option maxHeartbeats 1600000 in
theorem or_6 (hs:a.tmps.size=255) (hd:a.defers=[]) (x0:a.eval (.tmp 0)=.slice la ll lc) (x1:a.eval (.tmp 1)=.slice da dl dc) (x2:a.eval (.tmp 2)=.int .i64 by_) (x7:a.eval (.tmp 7)=.slice ia il ic) (x8:a.eval (.tmp 8)=.slice ka kl kc)
  
  (hK:∀ a',a'.tmps.size=255→a'.defers=[]→a'.eval (.tmp 0)=.slice la ll lc→a'.eval (.tmp 1)=.slice da dl dc→a'.eval (.tmp 2)=.int .i64 by_→a'.eval (.tmp 7)=.slice ia il ic→a'.eval (.tmp 8)=.slice ka kl kc→a'.eval (.tmp 9)=.int .i64 0→ K a' x):(atc Tryz.f3.body [1,1,1,1,0,0]).wp Tryz.prog (Exit.then K Q) a x:=by
 obtain ⟨cc,hcc,hce⟩:=expand255 hs hd
 have g0:=(hce 0).trans x0
 have g1:=(hce 1).trans x1
 have g2:=(hce 2).trans x2
 have g7:=(hce 7).trans x7
 have g8:=(hce 8).trans x8
 clear hce hs hd x0 x1 x2 x7 x8
 subst hcc
 conv=>arg 2; whnf
 simp only [lit255,g0,g1,g2,g7,g8]
 clear g0 g1 g2 g7 g8
 have HK:Hid _:=hK
 clear hK
 go_wp2
 exact HK.out _ rfl rfl rfl rfl rfl rfl rfl rfl 
set_option maxRecDepth 100000 in
set_option maxHeartbeats 1600000 in
theorem or_7in (hs:a.tmps.size=255) (hd:a.defers=[]) (x0:a.eval (.tmp 0)=.slice la ll lc) (x1:a.eval (.tmp 1)=.slice da dl dc) (x2:a.eval (.tmp 2)=.int .i64 by_) (x7:a.eval (.tmp 7)=.slice ia il ic) (x8:a.eval (.tmp 8)=.slice ka kl kc) (x9:a.eval (.tmp 9)=.int .i64 i)
  (hi:(i:Int) < ll)
  (hK:∀ a',a'.tmps.size=255→a'.defers=[]→a'.eval (.tmp 0)=.slice la ll lc→a'.eval (.tmp 1)=.slice da dl dc→a'.eval (.tmp 2)=.int .i64 by_→a'.eval (.tmp 7)=.slice ia il ic→a'.eval (.tmp 8)=.slice ka kl kc→a'.eval (.tmp 9)=.int .i64 i→ K a' x):(atc Tryz.f3.body [1,1,1,1,0,1,0,0,0]).wp Tryz.prog (Exit.then K Q) a x:=by
 obtain ⟨cc,hcc,hce⟩:=expand255 hs hd
 have g0:=(hce 0).trans x0
 have g1:=(hce 1).trans x1
 have g2:=(hce 2).trans x2
 have g7:=(hce 7).trans x7
 have g8:=(hce 8).trans x8
 have g9:=(hce 9).trans x9
 clear hce hs hd x0 x1 x2 x7 x8 x9
 subst hcc
 conv=>arg 2; whnf
 simp only [lit255,g0,g1,g2,g7,g8,g9]
 clear g0 g1 g2 g7 g8 g9
 have HK:Hid _:=hK
 clear hK
 go_wp2
 exact HK.out _ rfl rfl rfl rfl rfl rfl rfl rfl 
set_option maxRecDepth 100000 in
set_option maxHeartbeats 1600000 in
theorem or_7out (hs:a.tmps.size=255) (hd:a.defers=[]) (x0:a.eval (.tmp 0)=.slice la ll lc) (x1:a.eval (.tmp 1)=.slice da dl dc) (x2:a.eval (.tmp 2)=.int .i64 by_) (x7:a.eval (.tmp 7)=.slice ia il ic) (x8:a.eval (.tmp 8)=.slice ka kl kc) (x9:a.eval (.tmp 9)=.int .i64 i)
  (hi:¬ (i:Int) < ll)
  (hQ:∀ a',a'.tmps.size=255→a'.defers=[]→a'.eval (.tmp 0)=.slice la ll lc→a'.eval (.tmp 1)=.slice da dl dc→a'.eval (.tmp 2)=.int .i64 by_→a'.eval (.tmp 7)=.slice ia il ic→a'.eval (.tmp 8)=.slice ka kl kc→ Q (.exit 0) a' x):(atc Tryz.f3.body [1,1,1,1,0,1,0,0,0]).wp Tryz.prog (Exit.then K Q) a x:=by
 obtain ⟨cc,hcc,hce⟩:=expand255 hs hd
 have g0:=(hce 0).trans x0
 have g1:=(hce 1).trans x1
 have g2:=(hce 2).trans x2
 have g7:=(hce 7).trans x7
 have g8:=(hce 8).trans x8
 have g9:=(hce 9).trans x9
 clear hce hs hd x0 x1 x2 x7 x8 x9
 subst hcc
 conv=>arg 2; whnf
 simp only [lit255,g0,g1,g2,g7,g8,g9]
 clear g0 g1 g2 g7 g8 g9
 have HK:Hid _:=hQ
 clear hQ
 go_wp2
 exact HK.out _ rfl rfl rfl rfl rfl rfl rfl 
set_option maxRecDepth 100000 in
set_option maxHeartbeats 1600000 in
theorem or_9 (hs:a.tmps.size=255) (hd:a.defers=[]) (x0:a.eval (.tmp 0)=.slice (some ⟨qb,qo,none⟩) ll lc) (x1:a.eval (.tmp 1)=.slice da dl dc) (x2:a.eval (.tmp 2)=.int .i64 by_) (x7:a.eval (.tmp 7)=.slice ia il ic) (x8:a.eval (.tmp 8)=.slice ka kl kc) (x9:a.eval (.tmp 9)=.int .i64 i)
  (hi:(i:Int) < ll) (h0:x.cell? ⟨qb,qo+i * 2,none⟩=some (.int .i64 ky)) {PP:World→Prop} (HP:Calls Tryz.prog 5 #[.slice ia il ic,.int .i64 ky] x fun e x'=>e=.returned (.tuple #[.int .i64 vv,.bool t])∧PP x')
  (hK:∀ a' y,a'.tmps.size=255→a'.defers=[]→a'.eval (.tmp 0)=.slice (some ⟨qb,qo,none⟩) ll lc→a'.eval (.tmp 1)=.slice da dl dc→a'.eval (.tmp 2)=.int .i64 by_→a'.eval (.tmp 7)=.slice ia il ic→a'.eval (.tmp 8)=.slice ka kl kc→a'.eval (.tmp 9)=.int .i64 i→a'.eval (.tmp 11)=.bool t→PP y→K a' y):(atc Tryz.f3.body [1,1,1,1,0,1,0,0,1,0,0,0]).wp Tryz.prog (Exit.then K Q) a x:=by
 obtain ⟨cc,hcc,hce⟩:=expand255 hs hd
 have g0:=(hce 0).trans x0
 have g1:=(hce 1).trans x1
 have g2:=(hce 2).trans x2
 have g7:=(hce 7).trans x7
 have g8:=(hce 8).trans x8
 have g9:=(hce 9).trans x9
 clear hce hs hd x0 x1 x2 x7 x8 x9
 subst hcc
 conv=>arg 2; whnf
 simp only [lit255,g0,g1,g2,g7,g8,g9]
 clear g0 g1 g2 g7 g8 g9
 have HK:Hid _:=hK
 clear hK
 go_wp2_with (go_at_call 5; refine HP.mono ?_; rintro e w1 ⟨rfl,hp⟩; have HPP:Hid _:=hp; clear hp HP)
 exact HK.out _ _ rfl rfl rfl rfl rfl rfl rfl rfl rfl HPP.out
set_option maxRecDepth 100000 in
set_option maxHeartbeats 1600000 in
theorem or_10had (hs:a.tmps.size=255) (hd:a.defers=[]) (x0:a.eval (.tmp 0)=.slice (some ⟨qb,qo,none⟩) ll lc) (x1:a.eval (.tmp 1)=.slice da dl dc) (x2:a.eval (.tmp 2)=.int .i64 by_) (x7:a.eval (.tmp 7)=.slice ia il ic) (x8:a.eval (.tmp 8)=.slice ka kl kc) (x9:a.eval (.tmp 9)=.int .i64 i) (x11:a.eval (.tmp 11)=.bool true)
  
  (hK:∀ a',a'.tmps.size=255→a'.defers=[]→a'.eval (.tmp 0)=.slice (some ⟨qb,qo,none⟩) ll lc→a'.eval (.tmp 1)=.slice da dl dc→a'.eval (.tmp 2)=.int .i64 by_→a'.eval (.tmp 7)=.slice ia il ic→a'.eval (.tmp 8)=.slice ka kl kc→a'.eval (.tmp 9)=.int .i64 i→a'.eval (.tmp 72)=.bool false→ K a' x):(atc Tryz.f3.body [1,1,1,1,0,1,0,0,1,0,0,1,0]).wp Tryz.prog (Exit.then K Q) a x:=by
 obtain ⟨cc,hcc,hce⟩:=expand255 hs hd
 have g0:=(hce 0).trans x0
 have g1:=(hce 1).trans x1
 have g2:=(hce 2).trans x2
 have g7:=(hce 7).trans x7
 have g8:=(hce 8).trans x8
 have g9:=(hce 9).trans x9
 have g11:=(hce 11).trans x11
 clear hce hs hd x0 x1 x2 x7 x8 x9 x11
 subst hcc
 conv=>arg 2; whnf
 simp only [lit255,g0,g1,g2,g7,g8,g9,g11]
 clear g0 g1 g2 g7 g8 g9 g11
 have HK:Hid _:=hK
 clear hK
 go_wp2
 exact HK.out _ rfl rfl rfl rfl rfl rfl rfl rfl rfl 
set_option maxRecDepth 100000 in
set_option maxHeartbeats 1600000 in
theorem or_10lo (hs:a.tmps.size=255) (hd:a.defers=[]) (x0:a.eval (.tmp 0)=.slice (some ⟨qb,qo,none⟩) ll lc) (x1:a.eval (.tmp 1)=.slice da dl dc) (x2:a.eval (.tmp 2)=.int .i64 by_) (x7:a.eval (.tmp 7)=.slice ia il ic) (x8:a.eval (.tmp 8)=.slice ka kl kc) (x9:a.eval (.tmp 9)=.int .i64 i) (x11:a.eval (.tmp 11)=.bool false)
  (hi:(i:Int) < ll) (h0:x.cell? ⟨qb,qo+i * 2,none⟩=some (.int .i64 ky)) (h1:ky < 0)
  (hK:∀ a',a'.tmps.size=255→a'.defers=[]→a'.eval (.tmp 0)=.slice (some ⟨qb,qo,none⟩) ll lc→a'.eval (.tmp 1)=.slice da dl dc→a'.eval (.tmp 2)=.int .i64 by_→a'.eval (.tmp 7)=.slice ia il ic→a'.eval (.tmp 8)=.slice ka kl kc→a'.eval (.tmp 9)=.int .i64 i→a'.eval (.tmp 72)=.bool false→ K a' x):(atc Tryz.f3.body [1,1,1,1,0,1,0,0,1,0,0,1,0]).wp Tryz.prog (Exit.then K Q) a x:=by
 obtain ⟨cc,hcc,hce⟩:=expand255 hs hd
 have g0:=(hce 0).trans x0
 have g1:=(hce 1).trans x1
 have g2:=(hce 2).trans x2
 have g7:=(hce 7).trans x7
 have g8:=(hce 8).trans x8
 have g9:=(hce 9).trans x9
 have g11:=(hce 11).trans x11
 clear hce hs hd x0 x1 x2 x7 x8 x9 x11
 subst hcc
 conv=>arg 2; whnf
 simp only [lit255,g0,g1,g2,g7,g8,g9,g11]
 clear g0 g1 g2 g7 g8 g9 g11
 have HK:Hid _:=hK
 clear hK
 go_wp2
 exact HK.out _ rfl rfl rfl rfl rfl rfl rfl rfl rfl 
set_option maxRecDepth 100000 in
set_option maxHeartbeats 1600000 in
theorem or_10hi (hs:a.tmps.size=255) (hd:a.defers=[]) (x0:a.eval (.tmp 0)=.slice (some ⟨qb,qo,none⟩) ll lc) (x1:a.eval (.tmp 1)=.slice da dl dc) (x2:a.eval (.tmp 2)=.int .i64 by_) (x7:a.eval (.tmp 7)=.slice ia il ic) (x8:a.eval (.tmp 8)=.slice ka kl kc) (x9:a.eval (.tmp 9)=.int .i64 i) (x11:a.eval (.tmp 11)=.bool false)
  (hi:(i:Int) < ll) (h0:x.cell? ⟨qb,qo+i * 2,none⟩=some (.int .i64 ky)) (h1:¬ ky≤4294967295) (h2:0≤ky)
  (hK:∀ a',a'.tmps.size=255→a'.defers=[]→a'.eval (.tmp 0)=.slice (some ⟨qb,qo,none⟩) ll lc→a'.eval (.tmp 1)=.slice da dl dc→a'.eval (.tmp 2)=.int .i64 by_→a'.eval (.tmp 7)=.slice ia il ic→a'.eval (.tmp 8)=.slice ka kl kc→a'.eval (.tmp 9)=.int .i64 i→a'.eval (.tmp 72)=.bool false→ K a' x):(atc Tryz.f3.body [1,1,1,1,0,1,0,0,1,0,0,1,0]).wp Tryz.prog (Exit.then K Q) a x:=by
 obtain ⟨cc,hcc,hce⟩:=expand255 hs hd
 have g0:=(hce 0).trans x0
 have g1:=(hce 1).trans x1
 have g2:=(hce 2).trans x2
 have g7:=(hce 7).trans x7
 have g8:=(hce 8).trans x8
 have g9:=(hce 9).trans x9
 have g11:=(hce 11).trans x11
 clear hce hs hd x0 x1 x2 x7 x8 x9 x11
 subst hcc
 conv=>arg 2; whnf
 simp only [lit255,g0,g1,g2,g7,g8,g9,g11]
 clear g0 g1 g2 g7 g8 g9 g11
 have HK:Hid _:=hK
 clear hK
 go_wp2
 exact HK.out _ rfl rfl rfl rfl rfl rfl rfl rfl rfl 
set_option maxRecDepth 100000 in
set_option maxHeartbeats 1600000 in
theorem or_10ok (hs:a.tmps.size=255) (hd:a.defers=[]) (x0:a.eval (.tmp 0)=.slice (some ⟨qb,qo,none⟩) ll lc) (x1:a.eval (.tmp 1)=.slice da dl dc) (x2:a.eval (.tmp 2)=.int .i64 by_) (x7:a.eval (.tmp 7)=.slice ia il ic) (x8:a.eval (.tmp 8)=.slice ka kl kc) (x9:a.eval (.tmp 9)=.int .i64 i) (x11:a.eval (.tmp 11)=.bool false)
  (hi:(i:Int) < ll) (h0:x.cell? ⟨qb,qo+i * 2,none⟩=some (.int .i64 ky)) (h1:0≤ky) (h2:ky≤4294967295)
  (hK:∀ a',a'.tmps.size=255→a'.defers=[]→a'.eval (.tmp 0)=.slice (some ⟨qb,qo,none⟩) ll lc→a'.eval (.tmp 1)=.slice da dl dc→a'.eval (.tmp 2)=.int .i64 by_→a'.eval (.tmp 7)=.slice ia il ic→a'.eval (.tmp 8)=.slice ka kl kc→a'.eval (.tmp 9)=.int .i64 i→a'.eval (.tmp 72)=.bool true→ K a' x):(atc Tryz.f3.body [1,1,1,1,0,1,0,0,1,0,0,1,0]).wp Tryz.prog (Exit.then K Q) a x:=by
 obtain ⟨cc,hcc,hce⟩:=expand255 hs hd
 have g0:=(hce 0).trans x0
 have g1:=(hce 1).trans x1
 have g2:=(hce 2).trans x2
 have g7:=(hce 7).trans x7
 have g8:=(hce 8).trans x8
 have g9:=(hce 9).trans x9
 have g11:=(hce 11).trans x11
 clear hce hs hd x0 x1 x2 x7 x8 x9 x11
 subst hcc
 conv=>arg 2; whnf
 simp only [lit255,g0,g1,g2,g7,g8,g9,g11]
 clear g0 g1 g2 g7 g8 g9 g11
 have HK:Hid _:=hK
 clear hK
 go_wp2
 exact HK.out _ rfl rfl rfl rfl rfl rfl rfl rfl rfl 
set_option maxRecDepth 100000 in
set_option maxHeartbeats 1600000 in
theorem or_11 (hs:a.tmps.size=255) (hd:a.defers=[]) (x0:a.eval (.tmp 0)=.slice (some ⟨qb,qo,none⟩) ll lc) (x1:a.eval (.tmp 1)=.slice da dl dc) (x2:a.eval (.tmp 2)=.int .i64 by_) (x7:a.eval (.tmp 7)=.slice ia il ic) (x8:a.eval (.tmp 8)=.slice ka kl kc) (x9:a.eval (.tmp 9)=.int .i64 i)
  (hi:(i:Int) < ll) (h0:x.cell? ⟨qb,qo+i * 2,none⟩=some (.int .i64 ky)) (h3:x.cell? ⟨qb,qo+i * 2+1,none⟩=some (.int .i64 vy)) {PP:Value→World→Prop} (HP:Calls Tryz.prog 6 #[.slice ia il ic,.agg #[.int .i64 ky,.int .i64 vy]] x fun e x'=>∃ v,e=.returned v∧PP v x')
  (hK:∀ a' y v,a'.tmps.size=255→a'.defers=[]→a'.eval (.tmp 0)=.slice (some ⟨qb,qo,none⟩) ll lc→a'.eval (.tmp 1)=.slice da dl dc→a'.eval (.tmp 2)=.int .i64 by_→a'.eval (.tmp 7)=v→a'.eval (.tmp 8)=.slice ka kl kc→a'.eval (.tmp 9)=.int .i64 i→PP v y→K a' y):(atc Tryz.f3.body [1,1,1,1,0,1,0,0,1,0,0,1,1,0,0]).wp Tryz.prog (Exit.then K Q) a x:=by
 obtain ⟨cc,hcc,hce⟩:=expand255 hs hd
 have g0:=(hce 0).trans x0
 have g1:=(hce 1).trans x1
 have g2:=(hce 2).trans x2
 have g7:=(hce 7).trans x7
 have g8:=(hce 8).trans x8
 have g9:=(hce 9).trans x9
 clear hce hs hd x0 x1 x2 x7 x8 x9
 subst hcc
 conv=>arg 2; whnf
 simp only [lit255,g0,g1,g2,g7,g8,g9]
 clear g0 g1 g2 g7 g8 g9
 have HK:Hid _:=hK
 clear hK
 go_wp2_with (go_at_call 6; refine HP.mono ?_; rintro e w1 ⟨v,rfl,hp⟩; have HPP:Hid _:=hp; clear hp HP)
 exact HK.out _ _ _ rfl rfl rfl rfl rfl rfl rfl rfl HPP.out
set_option maxRecDepth 100000 in
set_option maxHeartbeats 1600000 in
theorem or_12 {l:List (Int × Int)} {B:Nat} (hs:a.tmps.size=255) (hd:a.defers=[]) (x0:a.eval (.tmp 0)=.slice (some ⟨qb,qo,none⟩) ll lc) (x1:a.eval (.tmp 1)=.slice da dl dc) (x2:a.eval (.tmp 2)=.int .i64 by_) (x7:a.eval (.tmp 7)=.slice ia il ic) (x8:a.eval (.tmp 8)=.slice ka l.length kc) (x9:a.eval (.tmp 9)=.int .i64 i)
  (hi:(i:Int) < ll) (h0:x.cell? ⟨qb,qo+i * 2,none⟩=some (.int .i64 ky)) (h3:x.cell? ⟨qb,qo+i * 2+1,none⟩=some (.int .i64 vy)) (hR:PR B x (.slice ka l.length kc) l) (hl:l.length≤1000) (hB:B≤x.heap.size)
  (hK:∀ a' y v,a'.tmps.size=255→a'.defers=[]→a'.eval (.tmp 0)=.slice (some ⟨qb,qo,none⟩) ll lc→a'.eval (.tmp 1)=.slice da dl dc→a'.eval (.tmp 2)=.int .i64 by_→a'.eval (.tmp 7)=.slice ia il ic→a'.eval (.tmp 8)=v→a'.eval (.tmp 9)=.int .i64 i→PR B y v (l ++ [(ky,vy)])→Turned (Value.slice ka l.length kc).ownBlock.toList x y→(v.ownBlock=(Value.slice ka l.length kc).ownBlock∨v.ownBlock=some (x.heap.size+1))→K a' y):(atc Tryz.f3.body [1,1,1,1,0,1,0,0,1,0,0,1,1,0,1]).wp Tryz.prog (Exit.then K Q) a x:=by
 obtain ⟨cc,hcc,hce⟩:=expand255 hs hd
 have g0:=(hce 0).trans x0
 have g1:=(hce 1).trans x1
 have g2:=(hce 2).trans x2
 have g7:=(hce 7).trans x7
 have g8:=(hce 8).trans x8
 have g9:=(hce 9).trans x9
 clear hce hs hd x0 x1 x2 x7 x8 x9
 subst hcc
 conv=>arg 2; whnf
 simp only [lit255,g0,g1,g2,g7,g8,g9]
 clear g0 g1 g2 g7 g8 g9
 have HV:Hid _:=And.intro hR (And.intro hl hB)
 clear hR hl hB
 have HK:Hid _:=hK
 clear hK
 go_wp2_with (at_builtin; go_loud (refine wpList_apPairs (v:=.slice ka l.length kc) (u:=.slice (some ⟨x.heap.size,0,none⟩) 1 1) (l:=l) (ms:=[(ky,vy)]) (B:=B) rfl _ _ rfl rfl (HV.out.1.keep ((Turned.refl [] _).alloc _) (by simp)) rfl (pSrc_new _ _ _) (by have:=HV.out.2.1; simp; omega) (by have:=HV.out.2.2; simp; omega) ?_; intro v' w11 hsr ht11 hor; have HSR:Hid _:=hsr; have HT11:Hid _:=ht11; have hor2:v'.ownBlock=(Value.slice ka l.length kc).ownBlock∨v'.ownBlock=some (x.heap.size+1):=(by simpa using hor); have HOR:Hid _:=hor2; clear hsr ht11 hor hor2))
 exact HK.out _ _ _ rfl rfl rfl rfl rfl rfl rfl rfl HSR.out ((((Turned.refl [] _).alloc _).mono (by simp)).trans HT11.out) HOR.out
set_option maxRecDepth 100000 in
set_option maxHeartbeats 1600000 in
theorem or_8 (hs:a.tmps.size=255) (hd:a.defers=[]) (x0:a.eval (.tmp 0)=.slice la ll lc) (x1:a.eval (.tmp 1)=.slice da dl dc) (x2:a.eval (.tmp 2)=.int .i64 by_) (x7:a.eval (.tmp 7)=.slice ia il ic) (x8:a.eval (.tmp 8)=.slice ka kl kc) (x9:a.eval (.tmp 9)=.int .i64 i)
  (hi:i≤200)
  (hK:∀ a',a'.tmps.size=255→a'.defers=[]→a'.eval (.tmp 0)=.slice la ll lc→a'.eval (.tmp 1)=.slice da dl dc→a'.eval (.tmp 2)=.int .i64 by_→a'.eval (.tmp 7)=.slice ia il ic→a'.eval (.tmp 8)=.slice ka kl kc→a'.eval (.tmp 9)=.int .i64 ((i+1:Nat):Int)→ K a' x):(atc Tryz.f3.body [1,1,1,1,0,1,0,0,1,1]).wp Tryz.prog (Exit.then K Q) a x:=by
 obtain ⟨cc,hcc,hce⟩:=expand255 hs hd
 have g0:=(hce 0).trans x0
 have g1:=(hce 1).trans x1
 have g2:=(hce 2).trans x2
 have g7:=(hce 7).trans x7
 have g8:=(hce 8).trans x8
 have g9:=(hce 9).trans x9
 clear hce hs hd x0 x1 x2 x7 x8 x9
 subst hcc
 conv=>arg 2; whnf
 simp only [lit255,g0,g1,g2,g7,g8,g9]
 clear g0 g1 g2 g7 g8 g9
 have HK:Hid _:=hK
 clear hK
 go_wp2
 exact HK.out _ rfl rfl rfl rfl rfl rfl rfl rfl 
set_option maxRecDepth 100000 in
set_option maxHeartbeats 1600000 in
theorem or_13 (hs:a.tmps.size=255) (hd:a.defers=[]) (x0:a.eval (.tmp 0)=.slice la ll lc) (x1:a.eval (.tmp 1)=.slice da dl dc) (x2:a.eval (.tmp 2)=.int .i64 by_) (x7:a.eval (.tmp 7)=.slice ia il ic) (x8:a.eval (.tmp 8)=.slice ka kl kc)
  {PP:Nat→World→Prop} (HP:Calls Tryz.prog 7 #[.int .i64 4096] x fun e x'=>∃ p,e=.returned (.tuple #[.pointer (some ⟨p,0,none⟩),.int .i64 0])∧PP p x')
  (hK:∀ a' y p,a'.tmps.size=255→a'.defers=[]→a'.eval (.tmp 0)=.slice la ll lc→a'.eval (.tmp 1)=.slice da dl dc→a'.eval (.tmp 2)=.int .i64 by_→a'.eval (.tmp 7)=.slice ia il ic→a'.eval (.tmp 8)=.slice ka kl kc→a'.eval (.tmp 12)=.pointer (some ⟨p,0,none⟩)→a'.eval (.tmp 13)=.int .i64 0→PP p y→K a' y):(atc Tryz.f3.body [1,1,1,1,1,0]).wp Tryz.prog (Exit.then K Q) a x:=by
 obtain ⟨cc,hcc,hce⟩:=expand255 hs hd
 have g0:=(hce 0).trans x0
 have g1:=(hce 1).trans x1
 have g2:=(hce 2).trans x2
 have g7:=(hce 7).trans x7
 have g8:=(hce 8).trans x8
 clear hce hs hd x0 x1 x2 x7 x8
 subst hcc
 conv=>arg 2; whnf
 simp only [lit255,g0,g1,g2,g7,g8]
 clear g0 g1 g2 g7 g8
 have HK:Hid _:=hK
 clear hK
 go_wp2_with (go_at_call 7; refine HP.mono ?_; rintro e w1 ⟨p,rfl,hp⟩; have HPP:Hid _:=hp; clear hp HP)
 exact HK.out _ _ _ rfl rfl rfl rfl rfl rfl rfl rfl rfl HPP.out
set_option maxRecDepth 100000 in
set_option maxHeartbeats 1600000 in
theorem or_14 (hs:a.tmps.size=255) (hd:a.defers=[]) (x0:a.eval (.tmp 0)=.slice la ll lc) (x1:a.eval (.tmp 1)=.slice da dl dc) (x2:a.eval (.tmp 2)=.int .i64 by_) (x7:a.eval (.tmp 7)=.slice ia il ic) (x8:a.eval (.tmp 8)=.slice ka kl kc) (x12:a.eval (.tmp 12)=.pointer (some ⟨p,0,none⟩)) (x13:a.eval (.tmp 13)=.int .i64 0)
  
  (hK:∀ a',a'.tmps.size=255→a'.defers=[]→a'.eval (.tmp 0)=.slice la ll lc→a'.eval (.tmp 1)=.slice da dl dc→a'.eval (.tmp 2)=.int .i64 by_→a'.eval (.tmp 7)=.slice ia il ic→a'.eval (.tmp 8)=.slice ka kl kc→a'.eval (.tmp 12)=.pointer (some ⟨p,0,none⟩)→ K a' x):(atc Tryz.f3.body [1,1,1,1,1,1,0]).wp Tryz.prog (Exit.then K Q) a x:=by
 obtain ⟨cc,hcc,hce⟩:=expand255 hs hd
 have g0:=(hce 0).trans x0
 have g1:=(hce 1).trans x1
 have g2:=(hce 2).trans x2
 have g7:=(hce 7).trans x7
 have g8:=(hce 8).trans x8
 have g12:=(hce 12).trans x12
 have g13:=(hce 13).trans x13
 clear hce hs hd x0 x1 x2 x7 x8 x12 x13
 subst hcc
 conv=>arg 2; whnf
 simp only [lit255,g0,g1,g2,g7,g8,g12,g13]
 clear g0 g1 g2 g7 g8 g12 g13
 have HK:Hid _:=hK
 clear hK
 go_wp2_with (go_at_call 8; refine (cNum _ _).mono ?_; rintro e w' ⟨rfl,hw⟩; obtain rfl:=hw.symm)
 exact HK.out _ rfl rfl rfl rfl rfl rfl rfl rfl 
set_option maxRecDepth 100000 in
set_option maxHeartbeats 1600000 in
theorem or_16 (hs:a.tmps.size=255) (hd:a.defers=[]) (x0:a.eval (.tmp 0)=.slice la ll lc) (x1:a.eval (.tmp 1)=.slice da dl dc) (x2:a.eval (.tmp 2)=.int .i64 by_) (x7:a.eval (.tmp 7)=.slice ia il ic) (x8:a.eval (.tmp 8)=.slice ka kl kc) (x12:a.eval (.tmp 12)=.pointer (some ⟨p,0,none⟩))
  {PP:Nat→World→Prop} (HP:Calls Tryz.prog 9 #[pt p] x fun e x'=>∃ tb,e=.returned (pt tb)∧PP tb x')
  (hK:∀ a' y tb,a'.tmps.size=255→a'.defers=[]→a'.eval (.tmp 0)=.slice la ll lc→a'.eval (.tmp 1)=.slice da dl dc→a'.eval (.tmp 2)=.int .i64 by_→a'.eval (.tmp 7)=.slice ia il ic→a'.eval (.tmp 8)=.slice ka kl kc→a'.eval (.tmp 12)=.pointer (some ⟨p,0,none⟩)→a'.eval (.tmp 14)=.pointer (some ⟨tb,0,none⟩)→PP tb y→K a' y):(atc Tryz.f3.body [1,1,1,1,1,1,1,0]).wp Tryz.prog (Exit.then K Q) a x:=by
 obtain ⟨cc,hcc,hce⟩:=expand255 hs hd
 have g0:=(hce 0).trans x0
 have g1:=(hce 1).trans x1
 have g2:=(hce 2).trans x2
 have g7:=(hce 7).trans x7
 have g8:=(hce 8).trans x8
 have g12:=(hce 12).trans x12
 clear hce hs hd x0 x1 x2 x7 x8 x12
 subst hcc
 conv=>arg 2; whnf
 simp only [lit255,g0,g1,g2,g7,g8,g12]
 clear g0 g1 g2 g7 g8 g12
 have HK:Hid _:=hK
 clear hK
 go_wp2_with (go_at_call 9; refine HP.mono ?_; rintro e w1 ⟨tb,rfl,hp⟩; have HPP:Hid _:=hp; clear hp HP)
 exact HK.out _ _ _ rfl rfl rfl rfl rfl rfl rfl rfl rfl HPP.out
set_option maxRecDepth 100000 in
set_option maxHeartbeats 1600000 in
theorem or_17 (hs:a.tmps.size=255) (hd:a.defers=[]) (x0:a.eval (.tmp 0)=.slice la ll lc) (x1:a.eval (.tmp 1)=.slice da dl dc) (x2:a.eval (.tmp 2)=.int .i64 by_) (x7:a.eval (.tmp 7)=.slice ia il ic) (x8:a.eval (.tmp 8)=.slice ka kl kc) (x12:a.eval (.tmp 12)=.pointer (some ⟨p,0,none⟩)) (x14:a.eval (.tmp 14)=.pointer (some ⟨tb,0,none⟩))
  
  (hK:∀ a' y,a'.tmps.size=255→a'.defers=[]→a'.eval (.tmp 0)=.slice la ll lc→a'.eval (.tmp 1)=.slice da dl dc→a'.eval (.tmp 2)=.int .i64 by_→a'.eval (.tmp 7)=.slice ia il ic→a'.eval (.tmp 8)=.slice ka kl kc→a'.eval (.tmp 12)=.pointer (some ⟨p,0,none⟩)→a'.eval (.tmp 14)=.pointer (some ⟨tb,0,none⟩)→a'.eval (.tmp 15)=.pointer (some ⟨x.heap.size,0,none⟩)→y=x.alloc (.cells #[.int .i64 0,.int .i64 0] 37 (0,0))→K a' y):(atc Tryz.f3.body [1,1,1,1,1,1,1,1,0]).wp Tryz.prog (Exit.then K Q) a x:=by
 obtain ⟨cc,hcc,hce⟩:=expand255 hs hd
 have g0:=(hce 0).trans x0
 have g1:=(hce 1).trans x1
 have g2:=(hce 2).trans x2
 have g7:=(hce 7).trans x7
 have g8:=(hce 8).trans x8
 have g12:=(hce 12).trans x12
 have g14:=(hce 14).trans x14
 clear hce hs hd x0 x1 x2 x7 x8 x12 x14
 subst hcc
 conv=>arg 2; whnf
 simp only [lit255,g0,g1,g2,g7,g8,g12,g14]
 clear g0 g1 g2 g7 g8 g12 g14
 have HK:Hid _:=hK
 clear hK
 go_wp2
 exact HK.out _ _ rfl rfl rfl rfl rfl rfl rfl rfl rfl rfl rfl
set_option maxRecDepth 100000 in
set_option maxHeartbeats 1600000 in
theorem or_18 (hs:a.tmps.size=255) (hd:a.defers=[]) (x0:a.eval (.tmp 0)=.slice la ll lc) (x1:a.eval (.tmp 1)=.slice da dl dc) (x2:a.eval (.tmp 2)=.int .i64 by_) (x7:a.eval (.tmp 7)=.slice ia il ic) (x8:a.eval (.tmp 8)=.slice ka kl kc) (x12:a.eval (.tmp 12)=.pointer (some ⟨p,0,none⟩)) (x14:a.eval (.tmp 14)=.pointer (some ⟨tb,0,none⟩)) (x15:a.eval (.tmp 15)=.pointer (some ⟨rb,0,none⟩))
  
  (hK:∀ a',a'.tmps.size=255→a'.defers=[]→a'.eval (.tmp 0)=.slice la ll lc→a'.eval (.tmp 1)=.slice da dl dc→a'.eval (.tmp 2)=.int .i64 by_→a'.eval (.tmp 7)=.slice ia il ic→a'.eval (.tmp 8)=.slice ka kl kc→a'.eval (.tmp 12)=.pointer (some ⟨p,0,none⟩)→a'.eval (.tmp 14)=.pointer (some ⟨tb,0,none⟩)→a'.eval (.tmp 15)=.pointer (some ⟨rb,0,none⟩)→a'.eval (.tmp 16)=.int .i64 0→ K a' x):(atc Tryz.f3.body [1,1,1,1,1,1,1,1,1,0,0]).wp Tryz.prog (Exit.then K Q) a x:=by
 obtain ⟨cc,hcc,hce⟩:=expand255 hs hd
 have g0:=(hce 0).trans x0
 have g1:=(hce 1).trans x1
 have g2:=(hce 2).trans x2
 have g7:=(hce 7).trans x7
 have g8:=(hce 8).trans x8
 have g12:=(hce 12).trans x12
 have g14:=(hce 14).trans x14
 have g15:=(hce 15).trans x15
 clear hce hs hd x0 x1 x2 x7 x8 x12 x14 x15
 subst hcc
 conv=>arg 2; whnf
 simp only [lit255,g0,g1,g2,g7,g8,g12,g14,g15]
 clear g0 g1 g2 g7 g8 g12 g14 g15
 have HK:Hid _:=hK
 clear hK
 go_wp2
 exact HK.out _ rfl rfl rfl rfl rfl rfl rfl rfl rfl rfl rfl 
set_option maxRecDepth 100000 in
set_option maxHeartbeats 1600000 in
theorem or_19in (hs:a.tmps.size=255) (hd:a.defers=[]) (x0:a.eval (.tmp 0)=.slice la ll lc) (x1:a.eval (.tmp 1)=.slice da dl dc) (x2:a.eval (.tmp 2)=.int .i64 by_) (x7:a.eval (.tmp 7)=.slice ia il ic) (x8:a.eval (.tmp 8)=.slice ka kl kc) (x12:a.eval (.tmp 12)=.pointer (some ⟨p,0,none⟩)) (x14:a.eval (.tmp 14)=.pointer (some ⟨tb,0,none⟩)) (x15:a.eval (.tmp 15)=.pointer (some ⟨rb,0,none⟩)) (x16:a.eval (.tmp 16)=.int .i64 k)
  (hk:(k:Int) < 2)
  (hK:∀ a',a'.tmps.size=255→a'.defers=[]→a'.eval (.tmp 0)=.slice la ll lc→a'.eval (.tmp 1)=.slice da dl dc→a'.eval (.tmp 2)=.int .i64 by_→a'.eval (.tmp 7)=.slice ia il ic→a'.eval (.tmp 8)=.slice ka kl kc→a'.eval (.tmp 12)=.pointer (some ⟨p,0,none⟩)→a'.eval (.tmp 14)=.pointer (some ⟨tb,0,none⟩)→a'.eval (.tmp 15)=.pointer (some ⟨rb,0,none⟩)→a'.eval (.tmp 16)=.int .i64 k→ K a' x):(atc Tryz.f3.body [1,1,1,1,1,1,1,1,1,0,1,0,0,0]).wp Tryz.prog (Exit.then K Q) a x:=by
 obtain ⟨cc,hcc,hce⟩:=expand255 hs hd
 have g0:=(hce 0).trans x0
 have g1:=(hce 1).trans x1
 have g2:=(hce 2).trans x2
 have g7:=(hce 7).trans x7
 have g8:=(hce 8).trans x8
 have g12:=(hce 12).trans x12
 have g14:=(hce 14).trans x14
 have g15:=(hce 15).trans x15
 have g16:=(hce 16).trans x16
 clear hce hs hd x0 x1 x2 x7 x8 x12 x14 x15 x16
 subst hcc
 conv=>arg 2; whnf
 simp only [lit255,g0,g1,g2,g7,g8,g12,g14,g15,g16]
 clear g0 g1 g2 g7 g8 g12 g14 g15 g16
 have HK:Hid _:=hK
 clear hK
 go_wp2
 exact HK.out _ rfl rfl rfl rfl rfl rfl rfl rfl rfl rfl rfl 
set_option maxRecDepth 100000 in
set_option maxHeartbeats 1600000 in
theorem or_19out (hs:a.tmps.size=255) (hd:a.defers=[]) (x0:a.eval (.tmp 0)=.slice la ll lc) (x1:a.eval (.tmp 1)=.slice da dl dc) (x2:a.eval (.tmp 2)=.int .i64 by_) (x7:a.eval (.tmp 7)=.slice ia il ic) (x8:a.eval (.tmp 8)=.slice ka kl kc) (x12:a.eval (.tmp 12)=.pointer (some ⟨p,0,none⟩)) (x14:a.eval (.tmp 14)=.pointer (some ⟨tb,0,none⟩)) (x15:a.eval (.tmp 15)=.pointer (some ⟨rb,0,none⟩)) (x16:a.eval (.tmp 16)=.int .i64 2)
  
  (hQ:∀ a',a'.tmps.size=255→a'.defers=[]→a'.eval (.tmp 0)=.slice la ll lc→a'.eval (.tmp 1)=.slice da dl dc→a'.eval (.tmp 2)=.int .i64 by_→a'.eval (.tmp 7)=.slice ia il ic→a'.eval (.tmp 8)=.slice ka kl kc→a'.eval (.tmp 12)=.pointer (some ⟨p,0,none⟩)→a'.eval (.tmp 14)=.pointer (some ⟨tb,0,none⟩)→a'.eval (.tmp 15)=.pointer (some ⟨rb,0,none⟩)→ Q (.exit 2) a' x):(atc Tryz.f3.body [1,1,1,1,1,1,1,1,1,0,1,0,0,0]).wp Tryz.prog (Exit.then K Q) a x:=by
 obtain ⟨cc,hcc,hce⟩:=expand255 hs hd
 have g0:=(hce 0).trans x0
 have g1:=(hce 1).trans x1
 have g2:=(hce 2).trans x2
 have g7:=(hce 7).trans x7
 have g8:=(hce 8).trans x8
 have g12:=(hce 12).trans x12
 have g14:=(hce 14).trans x14
 have g15:=(hce 15).trans x15
 have g16:=(hce 16).trans x16
 clear hce hs hd x0 x1 x2 x7 x8 x12 x14 x15 x16
 subst hcc
 conv=>arg 2; whnf
 simp only [lit255,g0,g1,g2,g7,g8,g12,g14,g15,g16]
 clear g0 g1 g2 g7 g8 g12 g14 g15 g16
 have HK:Hid _:=hQ
 clear hQ
 go_wp2
 exact HK.out _ rfl rfl rfl rfl rfl rfl rfl rfl rfl rfl 
set_option maxRecDepth 100000 in
set_option maxHeartbeats 1600000 in
theorem or_21 (hs:a.tmps.size=255) (hd:a.defers=[]) (x0:a.eval (.tmp 0)=.slice la ll lc) (x1:a.eval (.tmp 1)=.slice da dl dc) (x2:a.eval (.tmp 2)=.int .i64 by_) (x7:a.eval (.tmp 7)=.slice ia il ic) (x8:a.eval (.tmp 8)=.slice ka kl kc) (x12:a.eval (.tmp 12)=.pointer (some ⟨p,0,none⟩)) (x14:a.eval (.tmp 14)=.pointer (some ⟨tb,0,none⟩)) (x15:a.eval (.tmp 15)=.pointer (some ⟨rb,0,none⟩)) (x16:a.eval (.tmp 16)=.int .i64 k)
  
  (hK:∀ a',a'.tmps.size=255→a'.defers=[]→a'.eval (.tmp 0)=.slice la ll lc→a'.eval (.tmp 1)=.slice da dl dc→a'.eval (.tmp 2)=.int .i64 by_→a'.eval (.tmp 7)=.slice ia il ic→a'.eval (.tmp 8)=.slice ka kl kc→a'.eval (.tmp 12)=.pointer (some ⟨p,0,none⟩)→a'.eval (.tmp 14)=.pointer (some ⟨tb,0,none⟩)→a'.eval (.tmp 15)=.pointer (some ⟨rb,0,none⟩)→a'.eval (.tmp 16)=.int .i64 k→a'.eval (.tmp 17)=.int .i64 0→ K a' x):(atc Tryz.f3.body [1,1,1,1,1,1,1,1,1,0,1,0,0,1,0,0,0]).wp Tryz.prog (Exit.then K Q) a x:=by
 obtain ⟨cc,hcc,hce⟩:=expand255 hs hd
 have g0:=(hce 0).trans x0
 have g1:=(hce 1).trans x1
 have g2:=(hce 2).trans x2
 have g7:=(hce 7).trans x7
 have g8:=(hce 8).trans x8
 have g12:=(hce 12).trans x12
 have g14:=(hce 14).trans x14
 have g15:=(hce 15).trans x15
 have g16:=(hce 16).trans x16
 clear hce hs hd x0 x1 x2 x7 x8 x12 x14 x15 x16
 subst hcc
 conv=>arg 2; whnf
 simp only [lit255,g0,g1,g2,g7,g8,g12,g14,g15,g16]
 clear g0 g1 g2 g7 g8 g12 g14 g15 g16
 have HK:Hid _:=hK
 clear hK
 go_wp2
 exact HK.out _ rfl rfl rfl rfl rfl rfl rfl rfl rfl rfl rfl rfl 
set_option maxRecDepth 100000 in
set_option maxHeartbeats 1600000 in
theorem or_22in (hs:a.tmps.size=255) (hd:a.defers=[]) (x0:a.eval (.tmp 0)=.slice la ll lc) (x1:a.eval (.tmp 1)=.slice da dl dc) (x2:a.eval (.tmp 2)=.int .i64 by_) (x7:a.eval (.tmp 7)=.slice ia il ic) (x8:a.eval (.tmp 8)=.slice ka kl kc) (x12:a.eval (.tmp 12)=.pointer (some ⟨p,0,none⟩)) (x14:a.eval (.tmp 14)=.pointer (some ⟨tb,0,none⟩)) (x15:a.eval (.tmp 15)=.pointer (some ⟨rb,0,none⟩)) (x16:a.eval (.tmp 16)=.int .i64 k) (x17:a.eval (.tmp 17)=.int .i64 i)
  (hi:(i:Int) < kl)
  (hK:∀ a',a'.tmps.size=255→a'.defers=[]→a'.eval (.tmp 0)=.slice la ll lc→a'.eval (.tmp 1)=.slice da dl dc→a'.eval (.tmp 2)=.int .i64 by_→a'.eval (.tmp 7)=.slice ia il ic→a'.eval (.tmp 8)=.slice ka kl kc→a'.eval (.tmp 12)=.pointer (some ⟨p,0,none⟩)→a'.eval (.tmp 14)=.pointer (some ⟨tb,0,none⟩)→a'.eval (.tmp 15)=.pointer (some ⟨rb,0,none⟩)→a'.eval (.tmp 16)=.int .i64 k→a'.eval (.tmp 17)=.int .i64 i→ K a' x):(atc Tryz.f3.body [1,1,1,1,1,1,1,1,1,0,1,0,0,1,0,0,1,0,0,0]).wp Tryz.prog (Exit.then K Q) a x:=by
 obtain ⟨cc,hcc,hce⟩:=expand255 hs hd
 have g0:=(hce 0).trans x0
 have g1:=(hce 1).trans x1
 have g2:=(hce 2).trans x2
 have g7:=(hce 7).trans x7
 have g8:=(hce 8).trans x8
 have g12:=(hce 12).trans x12
 have g14:=(hce 14).trans x14
 have g15:=(hce 15).trans x15
 have g16:=(hce 16).trans x16
 have g17:=(hce 17).trans x17
 clear hce hs hd x0 x1 x2 x7 x8 x12 x14 x15 x16 x17
 subst hcc
 conv=>arg 2; whnf
 simp only [lit255,g0,g1,g2,g7,g8,g12,g14,g15,g16,g17]
 clear g0 g1 g2 g7 g8 g12 g14 g15 g16 g17
 have HK:Hid _:=hK
 clear hK
 go_wp2
 exact HK.out _ rfl rfl rfl rfl rfl rfl rfl rfl rfl rfl rfl rfl 
set_option maxRecDepth 100000 in
set_option maxHeartbeats 1600000 in
theorem or_22out (hs:a.tmps.size=255) (hd:a.defers=[]) (x0:a.eval (.tmp 0)=.slice la ll lc) (x1:a.eval (.tmp 1)=.slice da dl dc) (x2:a.eval (.tmp 2)=.int .i64 by_) (x7:a.eval (.tmp 7)=.slice ia il ic) (x8:a.eval (.tmp 8)=.slice ka kl kc) (x12:a.eval (.tmp 12)=.pointer (some ⟨p,0,none⟩)) (x14:a.eval (.tmp 14)=.pointer (some ⟨tb,0,none⟩)) (x15:a.eval (.tmp 15)=.pointer (some ⟨rb,0,none⟩)) (x16:a.eval (.tmp 16)=.int .i64 k) (x17:a.eval (.tmp 17)=.int .i64 i)
  (hi:¬ (i:Int) < kl)
  (hQ:∀ a',a'.tmps.size=255→a'.defers=[]→a'.eval (.tmp 0)=.slice la ll lc→a'.eval (.tmp 1)=.slice da dl dc→a'.eval (.tmp 2)=.int .i64 by_→a'.eval (.tmp 7)=.slice ia il ic→a'.eval (.tmp 8)=.slice ka kl kc→a'.eval (.tmp 12)=.pointer (some ⟨p,0,none⟩)→a'.eval (.tmp 14)=.pointer (some ⟨tb,0,none⟩)→a'.eval (.tmp 15)=.pointer (some ⟨rb,0,none⟩)→a'.eval (.tmp 16)=.int .i64 k→ Q (.exit 4) a' x):(atc Tryz.f3.body [1,1,1,1,1,1,1,1,1,0,1,0,0,1,0,0,1,0,0,0]).wp Tryz.prog (Exit.then K Q) a x:=by
 obtain ⟨cc,hcc,hce⟩:=expand255 hs hd
 have g0:=(hce 0).trans x0
 have g1:=(hce 1).trans x1
 have g2:=(hce 2).trans x2
 have g7:=(hce 7).trans x7
 have g8:=(hce 8).trans x8
 have g12:=(hce 12).trans x12
 have g14:=(hce 14).trans x14
 have g15:=(hce 15).trans x15
 have g16:=(hce 16).trans x16
 have g17:=(hce 17).trans x17
 clear hce hs hd x0 x1 x2 x7 x8 x12 x14 x15 x16 x17
 subst hcc
 conv=>arg 2; whnf
 simp only [lit255,g0,g1,g2,g7,g8,g12,g14,g15,g16,g17]
 clear g0 g1 g2 g7 g8 g12 g14 g15 g16 g17
 have HK:Hid _:=hQ
 clear hQ
 go_wp2
 exact HK.out _ rfl rfl rfl rfl rfl rfl rfl rfl rfl rfl rfl 
set_option maxRecDepth 100000 in
set_option maxHeartbeats 1600000 in
theorem or_24 (hs:a.tmps.size=255) (hd:a.defers=[]) (x0:a.eval (.tmp 0)=.slice la ll lc) (x1:a.eval (.tmp 1)=.slice da dl dc) (x2:a.eval (.tmp 2)=.int .i64 by_) (x7:a.eval (.tmp 7)=.slice ia il ic) (x8:a.eval (.tmp 8)=.slice ka kl kc) (x12:a.eval (.tmp 12)=.pointer (some ⟨p,0,none⟩)) (x14:a.eval (.tmp 14)=.pointer (some ⟨tb,0,none⟩)) (x15:a.eval (.tmp 15)=.pointer (some ⟨rb,0,none⟩)) (x16:a.eval (.tmp 16)=.int .i64 k) (x17:a.eval (.tmp 17)=.int .i64 i)
  
  (hK:∀ a',a'.tmps.size=255→a'.defers=[]→a'.eval (.tmp 0)=.slice la ll lc→a'.eval (.tmp 1)=.slice da dl dc→a'.eval (.tmp 2)=.int .i64 by_→a'.eval (.tmp 7)=.slice ia il ic→a'.eval (.tmp 8)=.slice ka kl kc→a'.eval (.tmp 12)=.pointer (some ⟨p,0,none⟩)→a'.eval (.tmp 14)=.pointer (some ⟨tb,0,none⟩)→a'.eval (.tmp 15)=.pointer (some ⟨rb,0,none⟩)→a'.eval (.tmp 16)=.int .i64 k→a'.eval (.tmp 17)=.int .i64 i→a'.eval (.tmp 18)=.int .i64 i→ K a' x):(atc Tryz.f3.body [1,1,1,1,1,1,1,1,1,0,1,0,0,1,0,0,1,0,0,1,0,0,0]).wp Tryz.prog (Exit.then K Q) a x:=by
 obtain ⟨cc,hcc,hce⟩:=expand255 hs hd
 have g0:=(hce 0).trans x0
 have g1:=(hce 1).trans x1
 have g2:=(hce 2).trans x2
 have g7:=(hce 7).trans x7
 have g8:=(hce 8).trans x8
 have g12:=(hce 12).trans x12
 have g14:=(hce 14).trans x14
 have g15:=(hce 15).trans x15
 have g16:=(hce 16).trans x16
 have g17:=(hce 17).trans x17
 clear hce hs hd x0 x1 x2 x7 x8 x12 x14 x15 x16 x17
 subst hcc
 conv=>arg 2; whnf
 simp only [lit255,g0,g1,g2,g7,g8,g12,g14,g15,g16,g17]
 clear g0 g1 g2 g7 g8 g12 g14 g15 g16 g17
 have HK:Hid _:=hK
 clear hK
 go_wp2
 exact HK.out _ rfl rfl rfl rfl rfl rfl rfl rfl rfl rfl rfl rfl rfl 
set_option maxRecDepth 100000 in
set_option maxHeartbeats 1600000 in
theorem or_25z (hs:a.tmps.size=255) (hd:a.defers=[]) (x0:a.eval (.tmp 0)=.slice la ll lc) (x1:a.eval (.tmp 1)=.slice da dl dc) (x2:a.eval (.tmp 2)=.int .i64 by_) (x7:a.eval (.tmp 7)=.slice ia il ic) (x8:a.eval (.tmp 8)=.slice ka kl kc) (x12:a.eval (.tmp 12)=.pointer (some ⟨p,0,none⟩)) (x14:a.eval (.tmp 14)=.pointer (some ⟨tb,0,none⟩)) (x15:a.eval (.tmp 15)=.pointer (some ⟨rb,0,none⟩)) (x16:a.eval (.tmp 16)=.int .i64 0) (x17:a.eval (.tmp 17)=.int .i64 i) (x18:a.eval (.tmp 18)=.int .i64 i)
  
  (hK:∀ a',a'.tmps.size=255→a'.defers=[]→a'.eval (.tmp 0)=.slice la ll lc→a'.eval (.tmp 1)=.slice da dl dc→a'.eval (.tmp 2)=.int .i64 by_→a'.eval (.tmp 7)=.slice ia il ic→a'.eval (.tmp 8)=.slice ka kl kc→a'.eval (.tmp 12)=.pointer (some ⟨p,0,none⟩)→a'.eval (.tmp 14)=.pointer (some ⟨tb,0,none⟩)→a'.eval (.tmp 15)=.pointer (some ⟨rb,0,none⟩)→a'.eval (.tmp 16)=.int .i64 0→a'.eval (.tmp 17)=.int .i64 i→a'.eval (.tmp 18)=.int .i64 i→ K a' x):(atc Tryz.f3.body [1,1,1,1,1,1,1,1,1,0,1,0,0,1,0,0,1,0,0,1,0,0,1,0]).wp Tryz.prog (Exit.then K Q) a x:=by
 obtain ⟨cc,hcc,hce⟩:=expand255 hs hd
 have g0:=(hce 0).trans x0
 have g1:=(hce 1).trans x1
 have g2:=(hce 2).trans x2
 have g7:=(hce 7).trans x7
 have g8:=(hce 8).trans x8
 have g12:=(hce 12).trans x12
 have g14:=(hce 14).trans x14
 have g15:=(hce 15).trans x15
 have g16:=(hce 16).trans x16
 have g17:=(hce 17).trans x17
 have g18:=(hce 18).trans x18
 clear hce hs hd x0 x1 x2 x7 x8 x12 x14 x15 x16 x17 x18
 subst hcc
 conv=>arg 2; whnf
 simp only [lit255,g0,g1,g2,g7,g8,g12,g14,g15,g16,g17,g18]
 clear g0 g1 g2 g7 g8 g12 g14 g15 g16 g17 g18
 have HK:Hid _:=hK
 clear hK
 go_wp2
 exact HK.out _ rfl rfl rfl rfl rfl rfl rfl rfl rfl rfl rfl rfl rfl 
set_option maxRecDepth 100000 in
set_option maxHeartbeats 1600000 in
theorem or_25o (hs:a.tmps.size=255) (hd:a.defers=[]) (x0:a.eval (.tmp 0)=.slice la ll lc) (x1:a.eval (.tmp 1)=.slice da dl dc) (x2:a.eval (.tmp 2)=.int .i64 by_) (x7:a.eval (.tmp 7)=.slice ia il ic) (x8:a.eval (.tmp 8)=.slice ka kl kc) (x12:a.eval (.tmp 12)=.pointer (some ⟨p,0,none⟩)) (x14:a.eval (.tmp 14)=.pointer (some ⟨tb,0,none⟩)) (x15:a.eval (.tmp 15)=.pointer (some ⟨rb,0,none⟩)) (x16:a.eval (.tmp 16)=.int .i64 1) (x17:a.eval (.tmp 17)=.int .i64 i) (x18:a.eval (.tmp 18)=.int .i64 i)
  {z:Int} (hi:(i:Int) < kl) (hkl:kl≤1000) (h1:by_.tmod (kl:Int)=z) (z0:-(kl:Int) < z) (z1:z < kl) (h2:(z+kl).tmod (kl:Int)=c) (hc:(c:Int) < kl) (h3:((kl:Int) - 1 - i+c).tmod (kl:Int)=j)
  (hK:∀ a',a'.tmps.size=255→a'.defers=[]→a'.eval (.tmp 0)=.slice la ll lc→a'.eval (.tmp 1)=.slice da dl dc→a'.eval (.tmp 2)=.int .i64 by_→a'.eval (.tmp 7)=.slice ia il ic→a'.eval (.tmp 8)=.slice ka kl kc→a'.eval (.tmp 12)=.pointer (some ⟨p,0,none⟩)→a'.eval (.tmp 14)=.pointer (some ⟨tb,0,none⟩)→a'.eval (.tmp 15)=.pointer (some ⟨rb,0,none⟩)→a'.eval (.tmp 16)=.int .i64 1→a'.eval (.tmp 17)=.int .i64 i→a'.eval (.tmp 18)=.int .i64 j→ K a' x):(atc Tryz.f3.body [1,1,1,1,1,1,1,1,1,0,1,0,0,1,0,0,1,0,0,1,0,0,1,0]).wp Tryz.prog (Exit.then K Q) a x:=by
 obtain ⟨cc,hcc,hce⟩:=expand255 hs hd
 have g0:=(hce 0).trans x0
 have g1:=(hce 1).trans x1
 have g2:=(hce 2).trans x2
 have g7:=(hce 7).trans x7
 have g8:=(hce 8).trans x8
 have g12:=(hce 12).trans x12
 have g14:=(hce 14).trans x14
 have g15:=(hce 15).trans x15
 have g16:=(hce 16).trans x16
 have g17:=(hce 17).trans x17
 have g18:=(hce 18).trans x18
 clear hce hs hd x0 x1 x2 x7 x8 x12 x14 x15 x16 x17 x18
 subst hcc
 conv=>arg 2; whnf
 simp only [lit255,g0,g1,g2,g7,g8,g12,g14,g15,g16,g17,g18]
 clear g0 g1 g2 g7 g8 g12 g14 g15 g16 g17 g18
 have hne:¬ (kl:Int)=0:=by omega
 have HK:Hid _:=hK
 clear hK
 go_wp2
 exact HK.out _ rfl rfl rfl rfl rfl rfl rfl rfl rfl rfl rfl rfl rfl 
set_option maxRecDepth 100000 in
set_option maxHeartbeats 1600000 in
theorem or_28ok (hs:a.tmps.size=255) (hd:a.defers=[]) (x0:a.eval (.tmp 0)=.slice la ll lc) (x1:a.eval (.tmp 1)=.slice da dl dc) (x2:a.eval (.tmp 2)=.int .i64 by_) (x7:a.eval (.tmp 7)=.slice ia il ic) (x8:a.eval (.tmp 8)=.slice ka kl kc) (x12:a.eval (.tmp 12)=.pointer (some ⟨p,0,none⟩)) (x14:a.eval (.tmp 14)=.pointer (some ⟨tb,0,none⟩)) (x15:a.eval (.tmp 15)=.pointer (some ⟨rb,0,none⟩)) (x16:a.eval (.tmp 16)=.int .i64 k) (x17:a.eval (.tmp 17)=.int .i64 i) (x19:a.eval (.tmp 19)=.pointer (some ⟨nb,0,none⟩)) (x20:a.eval (.tmp 20)=.int .i64 0)
  
  (hK:∀ a',a'.tmps.size=255→a'.defers=[]→a'.eval (.tmp 0)=.slice la ll lc→a'.eval (.tmp 1)=.slice da dl dc→a'.eval (.tmp 2)=.int .i64 by_→a'.eval (.tmp 7)=.slice ia il ic→a'.eval (.tmp 8)=.slice ka kl kc→a'.eval (.tmp 12)=.pointer (some ⟨p,0,none⟩)→a'.eval (.tmp 14)=.pointer (some ⟨tb,0,none⟩)→a'.eval (.tmp 15)=.pointer (some ⟨rb,0,none⟩)→a'.eval (.tmp 16)=.int .i64 k→a'.eval (.tmp 17)=.int .i64 i→a'.eval (.tmp 19)=.pointer (some ⟨nb,0,none⟩)→ K a' x):(atc Tryz.f3.body [1,1,1,1,1,1,1,1,1,0,1,0,0,1,0,0,1,0,0,1,0,0,1,1,1,0]).wp Tryz.prog (Exit.then K Q) a x:=by
 obtain ⟨cc,hcc,hce⟩:=expand255 hs hd
 have g0:=(hce 0).trans x0
 have g1:=(hce 1).trans x1
 have g2:=(hce 2).trans x2
 have g7:=(hce 7).trans x7
 have g8:=(hce 8).trans x8
 have g12:=(hce 12).trans x12
 have g14:=(hce 14).trans x14
 have g15:=(hce 15).trans x15
 have g16:=(hce 16).trans x16
 have g17:=(hce 17).trans x17
 have g19:=(hce 19).trans x19
 have g20:=(hce 20).trans x20
 clear hce hs hd x0 x1 x2 x7 x8 x12 x14 x15 x16 x17 x19 x20
 subst hcc
 conv=>arg 2; whnf
 simp only [lit255,g0,g1,g2,g7,g8,g12,g14,g15,g16,g17,g19,g20]
 clear g0 g1 g2 g7 g8 g12 g14 g15 g16 g17 g19 g20
 have HK:Hid _:=hK
 clear hK
 go_wp2_with (go_at_call 8; refine (cNum _ _).mono ?_; rintro e w' ⟨rfl,hw⟩; obtain rfl:=hw.symm)
 exact HK.out _ rfl rfl rfl rfl rfl rfl rfl rfl rfl rfl rfl rfl rfl 
set_option maxRecDepth 100000 in
set_option maxHeartbeats 1600000 in
theorem or_28full (hs:a.tmps.size=255) (hd:a.defers=[]) (x20:a.eval (.tmp 20)=.int .i64 102)
  
  (hQ:∀ a',a'.tmps.size=255→a'.defers=[]→a'.eval (.tmp 6)=.bool true→ Q (.ret) a' x):(atc Tryz.f3.body [1,1,1,1,1,1,1,1,1,0,1,0,0,1,0,0,1,0,0,1,0,0,1,1,1,0]).wp Tryz.prog (Exit.then K Q) a x:=by
 obtain ⟨cc,hcc,hce⟩:=expand255 hs hd
 have g20:=(hce 20).trans x20
 clear hce hs hd x20
 subst hcc
 conv=>arg 2; whnf
 simp only [lit255,g20]
 clear g20
 have HK:Hid _:=hQ
 clear hQ
 go_wp2_with (go_at_call 8; refine (cNum _ _).mono ?_; rintro e w' ⟨rfl,hw⟩; obtain rfl:=hw.symm)
 exact HK.out _ rfl rfl rfl 
set_option maxRecDepth 100000 in
set_option maxHeartbeats 1600000 in
theorem or_30 {r0 r1:Value} (hs:a.tmps.size=255) (hd:a.defers=[]) (x0:a.eval (.tmp 0)=.slice la ll lc) (x1:a.eval (.tmp 1)=.slice da dl dc) (x2:a.eval (.tmp 2)=.int .i64 by_) (x7:a.eval (.tmp 7)=.slice ia il ic) (x8:a.eval (.tmp 8)=.slice ka kl kc) (x12:a.eval (.tmp 12)=.pointer (some ⟨p,0,none⟩)) (x14:a.eval (.tmp 14)=.pointer (some ⟨tb,0,none⟩)) (x15:a.eval (.tmp 15)=.pointer (some ⟨rb,0,none⟩)) (x16:a.eval (.tmp 16)=.int .i64 k) (x17:a.eval (.tmp 17)=.int .i64 i) (x19:a.eval (.tmp 19)=.pointer (some ⟨nb,0,none⟩))
  {v:EdV} (hk:(k:Int) < 2) (he:x.heap[nb]?=some (editV v)) (hr:x.heap[rb]?=some (.cells #[r0,r1] 37 (0,0)))
  (hK:∀ a' y,a'.tmps.size=255→a'.defers=[]→a'.eval (.tmp 0)=.slice la ll lc→a'.eval (.tmp 1)=.slice da dl dc→a'.eval (.tmp 2)=.int .i64 by_→a'.eval (.tmp 7)=.slice ia il ic→a'.eval (.tmp 8)=.slice ka kl kc→a'.eval (.tmp 12)=.pointer (some ⟨p,0,none⟩)→a'.eval (.tmp 14)=.pointer (some ⟨tb,0,none⟩)→a'.eval (.tmp 15)=.pointer (some ⟨rb,0,none⟩)→a'.eval (.tmp 16)=.int .i64 k→a'.eval (.tmp 17)=.int .i64 i→a'.eval (.tmp 19)=.pointer (some ⟨nb,0,none⟩)→y=x.setCell ⟨rb,k,none⟩ (.int .i64 v.root)→K a' y):(atc Tryz.f3.body [1,1,1,1,1,1,1,1,1,0,1,0,0,1,0,0,1,0,0,1,0,0,1,1,1,1,0]).wp Tryz.prog (Exit.then K Q) a x:=by
 obtain ⟨cc,hcc,hce⟩:=expand255 hs hd
 have g0:=(hce 0).trans x0
 have g1:=(hce 1).trans x1
 have g2:=(hce 2).trans x2
 have g7:=(hce 7).trans x7
 have g8:=(hce 8).trans x8
 have g12:=(hce 12).trans x12
 have g14:=(hce 14).trans x14
 have g15:=(hce 15).trans x15
 have g16:=(hce 16).trans x16
 have g17:=(hce 17).trans x17
 have g19:=(hce 19).trans x19
 clear hce hs hd x0 x1 x2 x7 x8 x12 x14 x15 x16 x17 x19
 subst hcc
 conv=>arg 2; whnf
 simp only [lit255,g0,g1,g2,g7,g8,g12,g14,g15,g16,g17,g19]
 clear g0 g1 g2 g7 g8 g12 g14 g15 g16 g17 g19
 have e0:x.cell? ⟨nb,0,none⟩=some (.int .i64 v.root):=cell_at he 0
 have e3:x.cell? ⟨nb,3,none⟩=some (.slice v.ga v.gl v.gc):=cell_at he 3
 clear he
 have hz:=froz_at hr k
 obtain ⟨u,hu⟩:=two_cell hr (show k < 2 by omega)
 clear hr
 have HK:Hid _:=hK
 clear hK
 go_wp2
 exact HK.out _ _ rfl rfl rfl rfl rfl rfl rfl rfl rfl rfl rfl rfl rfl rfl
set_option maxRecDepth 100000 in
set_option maxHeartbeats 1600000 in
theorem or_31 (hs:a.tmps.size=255) (hd:a.defers=[]) (x0:a.eval (.tmp 0)=.slice la ll lc) (x1:a.eval (.tmp 1)=.slice da dl dc) (x2:a.eval (.tmp 2)=.int .i64 by_) (x7:a.eval (.tmp 7)=.slice ia il ic) (x8:a.eval (.tmp 8)=.slice ka kl kc) (x12:a.eval (.tmp 12)=.pointer (some ⟨p,0,none⟩)) (x14:a.eval (.tmp 14)=.pointer (some ⟨tb,0,none⟩)) (x15:a.eval (.tmp 15)=.pointer (some ⟨rb,0,none⟩)) (x16:a.eval (.tmp 16)=.int .i64 k) (x17:a.eval (.tmp 17)=.int .i64 i) (x19:a.eval (.tmp 19)=.pointer (some ⟨nb,0,none⟩))
  {v:EdV} (he:x.heap[nb]?=some (editV v)) {PP:World→Prop} (HP:Calls Tryz.prog 11 #[pt tb,.pointer none,.slice v.ga v.gl v.gc] x fun e x'=>e=.returned (.int .i64 0)∧PP x')
  (hK:∀ a' y,a'.tmps.size=255→a'.defers=[]→a'.eval (.tmp 0)=.slice la ll lc→a'.eval (.tmp 1)=.slice da dl dc→a'.eval (.tmp 2)=.int .i64 by_→a'.eval (.tmp 7)=.slice ia il ic→a'.eval (.tmp 8)=.slice ka kl kc→a'.eval (.tmp 12)=.pointer (some ⟨p,0,none⟩)→a'.eval (.tmp 14)=.pointer (some ⟨tb,0,none⟩)→a'.eval (.tmp 15)=.pointer (some ⟨rb,0,none⟩)→a'.eval (.tmp 16)=.int .i64 k→a'.eval (.tmp 17)=.int .i64 i→PP y→K a' y):(atc Tryz.f3.body [1,1,1,1,1,1,1,1,1,0,1,0,0,1,0,0,1,0,0,1,0,0,1,1,1,1,1]).wp Tryz.prog (Exit.then K Q) a x:=by
 obtain ⟨cc,hcc,hce⟩:=expand255 hs hd
 have g0:=(hce 0).trans x0
 have g1:=(hce 1).trans x1
 have g2:=(hce 2).trans x2
 have g7:=(hce 7).trans x7
 have g8:=(hce 8).trans x8
 have g12:=(hce 12).trans x12
 have g14:=(hce 14).trans x14
 have g15:=(hce 15).trans x15
 have g16:=(hce 16).trans x16
 have g17:=(hce 17).trans x17
 have g19:=(hce 19).trans x19
 clear hce hs hd x0 x1 x2 x7 x8 x12 x14 x15 x16 x17 x19
 subst hcc
 conv=>arg 2; whnf
 simp only [lit255,g0,g1,g2,g7,g8,g12,g14,g15,g16,g17,g19]
 clear g0 g1 g2 g7 g8 g12 g14 g15 g16 g17 g19
 have e0:x.cell? ⟨nb,0,none⟩=some (.int .i64 v.root):=cell_at he 0
 have e3:x.cell? ⟨nb,3,none⟩=some (.slice v.ga v.gl v.gc):=cell_at he 3
 clear he
 have HK:Hid _:=hK
 clear hK
 go_wp2_with (first
  | (go_at_call 8; refine (cNum _ _).mono ?_; rintro e w' ⟨rfl,hw⟩; obtain rfl:=hw.symm)
  | (go_at_call 11; refine HP.mono ?_; rintro e w1 ⟨rfl,hp⟩; have HPP:Hid _:=hp; clear hp HP))
 exact HK.out _ _ rfl rfl rfl rfl rfl rfl rfl rfl rfl rfl rfl rfl HPP.out
set_option maxRecDepth 100000 in
set_option maxHeartbeats 1600000 in
theorem or_23 (hs:a.tmps.size=255) (hd:a.defers=[]) (x0:a.eval (.tmp 0)=.slice la ll lc) (x1:a.eval (.tmp 1)=.slice da dl dc) (x2:a.eval (.tmp 2)=.int .i64 by_) (x7:a.eval (.tmp 7)=.slice ia il ic) (x8:a.eval (.tmp 8)=.slice ka kl kc) (x12:a.eval (.tmp 12)=.pointer (some ⟨p,0,none⟩)) (x14:a.eval (.tmp 14)=.pointer (some ⟨tb,0,none⟩)) (x15:a.eval (.tmp 15)=.pointer (some ⟨rb,0,none⟩)) (x16:a.eval (.tmp 16)=.int .i64 k) (x17:a.eval (.tmp 17)=.int .i64 i)
  (hi:i≤1000)
  (hK:∀ a',a'.tmps.size=255→a'.defers=[]→a'.eval (.tmp 0)=.slice la ll lc→a'.eval (.tmp 1)=.slice da dl dc→a'.eval (.tmp 2)=.int .i64 by_→a'.eval (.tmp 7)=.slice ia il ic→a'.eval (.tmp 8)=.slice ka kl kc→a'.eval (.tmp 12)=.pointer (some ⟨p,0,none⟩)→a'.eval (.tmp 14)=.pointer (some ⟨tb,0,none⟩)→a'.eval (.tmp 15)=.pointer (some ⟨rb,0,none⟩)→a'.eval (.tmp 16)=.int .i64 k→a'.eval (.tmp 17)=.int .i64 ((i+1:Nat):Int)→ K a' x):(atc Tryz.f3.body [1,1,1,1,1,1,1,1,1,0,1,0,0,1,0,0,1,0,0,1,1]).wp Tryz.prog (Exit.then K Q) a x:=by
 obtain ⟨cc,hcc,hce⟩:=expand255 hs hd
 have g0:=(hce 0).trans x0
 have g1:=(hce 1).trans x1
 have g2:=(hce 2).trans x2
 have g7:=(hce 7).trans x7
 have g8:=(hce 8).trans x8
 have g12:=(hce 12).trans x12
 have g14:=(hce 14).trans x14
 have g15:=(hce 15).trans x15
 have g16:=(hce 16).trans x16
 have g17:=(hce 17).trans x17
 clear hce hs hd x0 x1 x2 x7 x8 x12 x14 x15 x16 x17
 subst hcc
 conv=>arg 2; whnf
 simp only [lit255,g0,g1,g2,g7,g8,g12,g14,g15,g16,g17]
 clear g0 g1 g2 g7 g8 g12 g14 g15 g16 g17
 have HK:Hid _:=hK
 clear hK
 go_wp2
 exact HK.out _ rfl rfl rfl rfl rfl rfl rfl rfl rfl rfl rfl rfl 
set_option maxRecDepth 100000 in
set_option maxHeartbeats 1600000 in
theorem or_20 (hs:a.tmps.size=255) (hd:a.defers=[]) (x0:a.eval (.tmp 0)=.slice la ll lc) (x1:a.eval (.tmp 1)=.slice da dl dc) (x2:a.eval (.tmp 2)=.int .i64 by_) (x7:a.eval (.tmp 7)=.slice ia il ic) (x8:a.eval (.tmp 8)=.slice ka kl kc) (x12:a.eval (.tmp 12)=.pointer (some ⟨p,0,none⟩)) (x14:a.eval (.tmp 14)=.pointer (some ⟨tb,0,none⟩)) (x15:a.eval (.tmp 15)=.pointer (some ⟨rb,0,none⟩)) (x16:a.eval (.tmp 16)=.int .i64 k)
  (hk:k≤2)
  (hK:∀ a',a'.tmps.size=255→a'.defers=[]→a'.eval (.tmp 0)=.slice la ll lc→a'.eval (.tmp 1)=.slice da dl dc→a'.eval (.tmp 2)=.int .i64 by_→a'.eval (.tmp 7)=.slice ia il ic→a'.eval (.tmp 8)=.slice ka kl kc→a'.eval (.tmp 12)=.pointer (some ⟨p,0,none⟩)→a'.eval (.tmp 14)=.pointer (some ⟨tb,0,none⟩)→a'.eval (.tmp 15)=.pointer (some ⟨rb,0,none⟩)→a'.eval (.tmp 16)=.int .i64 ((k+1:Nat):Int)→ K a' x):(atc Tryz.f3.body [1,1,1,1,1,1,1,1,1,0,1,0,0,1,1]).wp Tryz.prog (Exit.then K Q) a x:=by
 obtain ⟨cc,hcc,hce⟩:=expand255 hs hd
 have g0:=(hce 0).trans x0
 have g1:=(hce 1).trans x1
 have g2:=(hce 2).trans x2
 have g7:=(hce 7).trans x7
 have g8:=(hce 8).trans x8
 have g12:=(hce 12).trans x12
 have g14:=(hce 14).trans x14
 have g15:=(hce 15).trans x15
 have g16:=(hce 16).trans x16
 clear hce hs hd x0 x1 x2 x7 x8 x12 x14 x15 x16
 subst hcc
 conv=>arg 2; whnf
 simp only [lit255,g0,g1,g2,g7,g8,g12,g14,g15,g16]
 clear g0 g1 g2 g7 g8 g12 g14 g15 g16
 have HK:Hid _:=hK
 clear hK
 go_wp2
 exact HK.out _ rfl rfl rfl rfl rfl rfl rfl rfl rfl rfl rfl 
set_option maxRecDepth 100000 in
set_option maxHeartbeats 1600000 in
theorem or_33 (hs:a.tmps.size=255) (hd:a.defers=[]) (x0:a.eval (.tmp 0)=.slice la ll lc) (x1:a.eval (.tmp 1)=.slice da dl dc) (x2:a.eval (.tmp 2)=.int .i64 by_) (x7:a.eval (.tmp 7)=.slice ia il ic) (x8:a.eval (.tmp 8)=.slice ka kl kc) (x12:a.eval (.tmp 12)=.pointer (some ⟨p,0,none⟩)) (x14:a.eval (.tmp 14)=.pointer (some ⟨tb,0,none⟩)) (x15:a.eval (.tmp 15)=.pointer (some ⟨rb,0,none⟩))
  
  (hK:∀ a',a'.tmps.size=255→a'.defers=[]→a'.eval (.tmp 0)=.slice la ll lc→a'.eval (.tmp 1)=.slice da dl dc→a'.eval (.tmp 2)=.int .i64 by_→a'.eval (.tmp 7)=.slice ia il ic→a'.eval (.tmp 8)=.slice ka kl kc→a'.eval (.tmp 12)=.pointer (some ⟨p,0,none⟩)→a'.eval (.tmp 14)=.pointer (some ⟨tb,0,none⟩)→a'.eval (.tmp 15)=.pointer (some ⟨rb,0,none⟩)→a'.eval (.tmp 21)=.int .i64 0→ K a' x):(atc Tryz.f3.body [1,1,1,1,1,1,1,1,1,1,0,0]).wp Tryz.prog (Exit.then K Q) a x:=by
 obtain ⟨cc,hcc,hce⟩:=expand255 hs hd
 have g0:=(hce 0).trans x0
 have g1:=(hce 1).trans x1
 have g2:=(hce 2).trans x2
 have g7:=(hce 7).trans x7
 have g8:=(hce 8).trans x8
 have g12:=(hce 12).trans x12
 have g14:=(hce 14).trans x14
 have g15:=(hce 15).trans x15
 clear hce hs hd x0 x1 x2 x7 x8 x12 x14 x15
 subst hcc
 conv=>arg 2; whnf
 simp only [lit255,g0,g1,g2,g7,g8,g12,g14,g15]
 clear g0 g1 g2 g7 g8 g12 g14 g15
 have HK:Hid _:=hK
 clear hK
 go_wp2
 exact HK.out _ rfl rfl rfl rfl rfl rfl rfl rfl rfl rfl rfl 
set_option maxRecDepth 100000 in
set_option maxHeartbeats 1600000 in
theorem or_34in (hs:a.tmps.size=255) (hd:a.defers=[]) (x0:a.eval (.tmp 0)=.slice la ll lc) (x1:a.eval (.tmp 1)=.slice da dl dc) (x2:a.eval (.tmp 2)=.int .i64 by_) (x7:a.eval (.tmp 7)=.slice ia il ic) (x8:a.eval (.tmp 8)=.slice ka kl kc) (x12:a.eval (.tmp 12)=.pointer (some ⟨p,0,none⟩)) (x14:a.eval (.tmp 14)=.pointer (some ⟨tb,0,none⟩)) (x15:a.eval (.tmp 15)=.pointer (some ⟨rb,0,none⟩)) (x21:a.eval (.tmp 21)=.int .i64 i)
  (hi:(i:Int) < dl)
  (hK:∀ a',a'.tmps.size=255→a'.defers=[]→a'.eval (.tmp 0)=.slice la ll lc→a'.eval (.tmp 1)=.slice da dl dc→a'.eval (.tmp 2)=.int .i64 by_→a'.eval (.tmp 7)=.slice ia il ic→a'.eval (.tmp 8)=.slice ka kl kc→a'.eval (.tmp 12)=.pointer (some ⟨p,0,none⟩)→a'.eval (.tmp 14)=.pointer (some ⟨tb,0,none⟩)→a'.eval (.tmp 15)=.pointer (some ⟨rb,0,none⟩)→a'.eval (.tmp 21)=.int .i64 i→ K a' x):(atc Tryz.f3.body [1,1,1,1,1,1,1,1,1,1,0,1,0,0,0]).wp Tryz.prog (Exit.then K Q) a x:=by
 obtain ⟨cc,hcc,hce⟩:=expand255 hs hd
 have g0:=(hce 0).trans x0
 have g1:=(hce 1).trans x1
 have g2:=(hce 2).trans x2
 have g7:=(hce 7).trans x7
 have g8:=(hce 8).trans x8
 have g12:=(hce 12).trans x12
 have g14:=(hce 14).trans x14
 have g15:=(hce 15).trans x15
 have g21:=(hce 21).trans x21
 clear hce hs hd x0 x1 x2 x7 x8 x12 x14 x15 x21
 subst hcc
 conv=>arg 2; whnf
 simp only [lit255,g0,g1,g2,g7,g8,g12,g14,g15,g21]
 clear g0 g1 g2 g7 g8 g12 g14 g15 g21
 have HK:Hid _:=hK
 clear hK
 go_wp2
 exact HK.out _ rfl rfl rfl rfl rfl rfl rfl rfl rfl rfl rfl 
set_option maxRecDepth 100000 in
set_option maxHeartbeats 1600000 in
theorem or_34out (hs:a.tmps.size=255) (hd:a.defers=[]) (x0:a.eval (.tmp 0)=.slice la ll lc) (x1:a.eval (.tmp 1)=.slice da dl dc) (x2:a.eval (.tmp 2)=.int .i64 by_) (x7:a.eval (.tmp 7)=.slice ia il ic) (x8:a.eval (.tmp 8)=.slice ka kl kc) (x12:a.eval (.tmp 12)=.pointer (some ⟨p,0,none⟩)) (x14:a.eval (.tmp 14)=.pointer (some ⟨tb,0,none⟩)) (x15:a.eval (.tmp 15)=.pointer (some ⟨rb,0,none⟩)) (x21:a.eval (.tmp 21)=.int .i64 i)
  (hi:¬ (i:Int) < dl)
  (hQ:∀ a',a'.tmps.size=255→a'.defers=[]→a'.eval (.tmp 0)=.slice la ll lc→a'.eval (.tmp 1)=.slice da dl dc→a'.eval (.tmp 2)=.int .i64 by_→a'.eval (.tmp 7)=.slice ia il ic→a'.eval (.tmp 8)=.slice ka kl kc→a'.eval (.tmp 12)=.pointer (some ⟨p,0,none⟩)→a'.eval (.tmp 14)=.pointer (some ⟨tb,0,none⟩)→a'.eval (.tmp 15)=.pointer (some ⟨rb,0,none⟩)→ Q (.exit 6) a' x):(atc Tryz.f3.body [1,1,1,1,1,1,1,1,1,1,0,1,0,0,0]).wp Tryz.prog (Exit.then K Q) a x:=by
 obtain ⟨cc,hcc,hce⟩:=expand255 hs hd
 have g0:=(hce 0).trans x0
 have g1:=(hce 1).trans x1
 have g2:=(hce 2).trans x2
 have g7:=(hce 7).trans x7
 have g8:=(hce 8).trans x8
 have g12:=(hce 12).trans x12
 have g14:=(hce 14).trans x14
 have g15:=(hce 15).trans x15
 have g21:=(hce 21).trans x21
 clear hce hs hd x0 x1 x2 x7 x8 x12 x14 x15 x21
 subst hcc
 conv=>arg 2; whnf
 simp only [lit255,g0,g1,g2,g7,g8,g12,g14,g15,g21]
 clear g0 g1 g2 g7 g8 g12 g14 g15 g21
 have HK:Hid _:=hQ
 clear hQ
 go_wp2
 exact HK.out _ rfl rfl rfl rfl rfl rfl rfl rfl rfl rfl 
set_option maxRecDepth 100000 in
set_option maxHeartbeats 1600000 in
theorem or_36 (hs:a.tmps.size=255) (hd:a.defers=[]) (x0:a.eval (.tmp 0)=.slice la ll lc) (x1:a.eval (.tmp 1)=.slice da dl dc) (x2:a.eval (.tmp 2)=.int .i64 by_) (x7:a.eval (.tmp 7)=.slice ia il ic) (x8:a.eval (.tmp 8)=.slice ka kl kc) (x12:a.eval (.tmp 12)=.pointer (some ⟨p,0,none⟩)) (x14:a.eval (.tmp 14)=.pointer (some ⟨tb,0,none⟩)) (x15:a.eval (.tmp 15)=.pointer (some ⟨rb,0,none⟩)) (x21:a.eval (.tmp 21)=.int .i64 i)
  
  (hK:∀ a',a'.tmps.size=255→a'.defers=[]→a'.eval (.tmp 0)=.slice la ll lc→a'.eval (.tmp 1)=.slice da dl dc→a'.eval (.tmp 2)=.int .i64 by_→a'.eval (.tmp 7)=.slice ia il ic→a'.eval (.tmp 8)=.slice ka kl kc→a'.eval (.tmp 12)=.pointer (some ⟨p,0,none⟩)→a'.eval (.tmp 14)=.pointer (some ⟨tb,0,none⟩)→a'.eval (.tmp 15)=.pointer (some ⟨rb,0,none⟩)→a'.eval (.tmp 21)=.int .i64 i→a'.eval (.tmp 22)=.int .i64 0→ K a' x):(atc Tryz.f3.body [1,1,1,1,1,1,1,1,1,1,0,1,0,0,1,0,0,0]).wp Tryz.prog (Exit.then K Q) a x:=by
 obtain ⟨cc,hcc,hce⟩:=expand255 hs hd
 have g0:=(hce 0).trans x0
 have g1:=(hce 1).trans x1
 have g2:=(hce 2).trans x2
 have g7:=(hce 7).trans x7
 have g8:=(hce 8).trans x8
 have g12:=(hce 12).trans x12
 have g14:=(hce 14).trans x14
 have g15:=(hce 15).trans x15
 have g21:=(hce 21).trans x21
 clear hce hs hd x0 x1 x2 x7 x8 x12 x14 x15 x21
 subst hcc
 conv=>arg 2; whnf
 simp only [lit255,g0,g1,g2,g7,g8,g12,g14,g15,g21]
 clear g0 g1 g2 g7 g8 g12 g14 g15 g21
 have HK:Hid _:=hK
 clear hK
 go_wp2
 exact HK.out _ rfl rfl rfl rfl rfl rfl rfl rfl rfl rfl rfl rfl 
set_option maxRecDepth 100000 in
set_option maxHeartbeats 1600000 in
theorem or_37in (hs:a.tmps.size=255) (hd:a.defers=[]) (x0:a.eval (.tmp 0)=.slice la ll lc) (x1:a.eval (.tmp 1)=.slice da dl dc) (x2:a.eval (.tmp 2)=.int .i64 by_) (x7:a.eval (.tmp 7)=.slice ia il ic) (x8:a.eval (.tmp 8)=.slice ka kl kc) (x12:a.eval (.tmp 12)=.pointer (some ⟨p,0,none⟩)) (x14:a.eval (.tmp 14)=.pointer (some ⟨tb,0,none⟩)) (x15:a.eval (.tmp 15)=.pointer (some ⟨rb,0,none⟩)) (x21:a.eval (.tmp 21)=.int .i64 i) (x22:a.eval (.tmp 22)=.int .i64 k)
  (hk:(k:Int) < 2)
  (hK:∀ a',a'.tmps.size=255→a'.defers=[]→a'.eval (.tmp 0)=.slice la ll lc→a'.eval (.tmp 1)=.slice da dl dc→a'.eval (.tmp 2)=.int .i64 by_→a'.eval (.tmp 7)=.slice ia il ic→a'.eval (.tmp 8)=.slice ka kl kc→a'.eval (.tmp 12)=.pointer (some ⟨p,0,none⟩)→a'.eval (.tmp 14)=.pointer (some ⟨tb,0,none⟩)→a'.eval (.tmp 15)=.pointer (some ⟨rb,0,none⟩)→a'.eval (.tmp 21)=.int .i64 i→a'.eval (.tmp 22)=.int .i64 k→ K a' x):(atc Tryz.f3.body [1,1,1,1,1,1,1,1,1,1,0,1,0,0,1,0,0,1,0,0,0]).wp Tryz.prog (Exit.then K Q) a x:=by
 obtain ⟨cc,hcc,hce⟩:=expand255 hs hd
 have g0:=(hce 0).trans x0
 have g1:=(hce 1).trans x1
 have g2:=(hce 2).trans x2
 have g7:=(hce 7).trans x7
 have g8:=(hce 8).trans x8
 have g12:=(hce 12).trans x12
 have g14:=(hce 14).trans x14
 have g15:=(hce 15).trans x15
 have g21:=(hce 21).trans x21
 have g22:=(hce 22).trans x22
 clear hce hs hd x0 x1 x2 x7 x8 x12 x14 x15 x21 x22
 subst hcc
 conv=>arg 2; whnf
 simp only [lit255,g0,g1,g2,g7,g8,g12,g14,g15,g21,g22]
 clear g0 g1 g2 g7 g8 g12 g14 g15 g21 g22
 have HK:Hid _:=hK
 clear hK
 go_wp2
 exact HK.out _ rfl rfl rfl rfl rfl rfl rfl rfl rfl rfl rfl rfl 
set_option maxRecDepth 100000 in
set_option maxHeartbeats 1600000 in
theorem or_37out (hs:a.tmps.size=255) (hd:a.defers=[]) (x0:a.eval (.tmp 0)=.slice la ll lc) (x1:a.eval (.tmp 1)=.slice da dl dc) (x2:a.eval (.tmp 2)=.int .i64 by_) (x7:a.eval (.tmp 7)=.slice ia il ic) (x8:a.eval (.tmp 8)=.slice ka kl kc) (x12:a.eval (.tmp 12)=.pointer (some ⟨p,0,none⟩)) (x14:a.eval (.tmp 14)=.pointer (some ⟨tb,0,none⟩)) (x15:a.eval (.tmp 15)=.pointer (some ⟨rb,0,none⟩)) (x21:a.eval (.tmp 21)=.int .i64 i) (x22:a.eval (.tmp 22)=.int .i64 2)
  
  (hQ:∀ a',a'.tmps.size=255→a'.defers=[]→a'.eval (.tmp 0)=.slice la ll lc→a'.eval (.tmp 1)=.slice da dl dc→a'.eval (.tmp 2)=.int .i64 by_→a'.eval (.tmp 7)=.slice ia il ic→a'.eval (.tmp 8)=.slice ka kl kc→a'.eval (.tmp 12)=.pointer (some ⟨p,0,none⟩)→a'.eval (.tmp 14)=.pointer (some ⟨tb,0,none⟩)→a'.eval (.tmp 15)=.pointer (some ⟨rb,0,none⟩)→a'.eval (.tmp 21)=.int .i64 i→ Q (.exit 8) a' x):(atc Tryz.f3.body [1,1,1,1,1,1,1,1,1,1,0,1,0,0,1,0,0,1,0,0,0]).wp Tryz.prog (Exit.then K Q) a x:=by
 obtain ⟨cc,hcc,hce⟩:=expand255 hs hd
 have g0:=(hce 0).trans x0
 have g1:=(hce 1).trans x1
 have g2:=(hce 2).trans x2
 have g7:=(hce 7).trans x7
 have g8:=(hce 8).trans x8
 have g12:=(hce 12).trans x12
 have g14:=(hce 14).trans x14
 have g15:=(hce 15).trans x15
 have g21:=(hce 21).trans x21
 have g22:=(hce 22).trans x22
 clear hce hs hd x0 x1 x2 x7 x8 x12 x14 x15 x21 x22
 subst hcc
 conv=>arg 2; whnf
 simp only [lit255,g0,g1,g2,g7,g8,g12,g14,g15,g21,g22]
 clear g0 g1 g2 g7 g8 g12 g14 g15 g21 g22
 have HK:Hid _:=hQ
 clear hQ
 go_wp2
 exact HK.out _ rfl rfl rfl rfl rfl rfl rfl rfl rfl rfl rfl 
set_option maxRecDepth 100000 in
set_option maxHeartbeats 1600000 in
theorem or_39 (hs:a.tmps.size=255) (hd:a.defers=[]) (x0:a.eval (.tmp 0)=.slice la ll lc) (x1:a.eval (.tmp 1)=.slice da dl dc) (x2:a.eval (.tmp 2)=.int .i64 by_) (x7:a.eval (.tmp 7)=.slice ia il ic) (x8:a.eval (.tmp 8)=.slice ka kl kc) (x12:a.eval (.tmp 12)=.pointer (some ⟨p,0,none⟩)) (x14:a.eval (.tmp 14)=.pointer (some ⟨tb,0,none⟩)) (x15:a.eval (.tmp 15)=.pointer (some ⟨rb,0,none⟩)) (x21:a.eval (.tmp 21)=.int .i64 i) (x22:a.eval (.tmp 22)=.int .i64 k)
  
  (hK:∀ a',a'.tmps.size=255→a'.defers=[]→a'.eval (.tmp 0)=.slice la ll lc→a'.eval (.tmp 1)=.slice da dl dc→a'.eval (.tmp 2)=.int .i64 by_→a'.eval (.tmp 7)=.slice ia il ic→a'.eval (.tmp 8)=.slice ka kl kc→a'.eval (.tmp 12)=.pointer (some ⟨p,0,none⟩)→a'.eval (.tmp 14)=.pointer (some ⟨tb,0,none⟩)→a'.eval (.tmp 15)=.pointer (some ⟨rb,0,none⟩)→a'.eval (.tmp 21)=.int .i64 i→a'.eval (.tmp 22)=.int .i64 k→a'.eval (.tmp 23)=.int .i64 i→ K a' x):(atc Tryz.f3.body [1,1,1,1,1,1,1,1,1,1,0,1,0,0,1,0,0,1,0,0,1,0,0,0]).wp Tryz.prog (Exit.then K Q) a x:=by
 obtain ⟨cc,hcc,hce⟩:=expand255 hs hd
 have g0:=(hce 0).trans x0
 have g1:=(hce 1).trans x1
 have g2:=(hce 2).trans x2
 have g7:=(hce 7).trans x7
 have g8:=(hce 8).trans x8
 have g12:=(hce 12).trans x12
 have g14:=(hce 14).trans x14
 have g15:=(hce 15).trans x15
 have g21:=(hce 21).trans x21
 have g22:=(hce 22).trans x22
 clear hce hs hd x0 x1 x2 x7 x8 x12 x14 x15 x21 x22
 subst hcc
 conv=>arg 2; whnf
 simp only [lit255,g0,g1,g2,g7,g8,g12,g14,g15,g21,g22]
 clear g0 g1 g2 g7 g8 g12 g14 g15 g21 g22
 have HK:Hid _:=hK
 clear hK
 go_wp2
 exact HK.out _ rfl rfl rfl rfl rfl rfl rfl rfl rfl rfl rfl rfl rfl 
set_option maxRecDepth 100000 in
set_option maxHeartbeats 1600000 in
theorem or_40z (hs:a.tmps.size=255) (hd:a.defers=[]) (x0:a.eval (.tmp 0)=.slice la ll lc) (x1:a.eval (.tmp 1)=.slice da dl dc) (x2:a.eval (.tmp 2)=.int .i64 by_) (x7:a.eval (.tmp 7)=.slice ia il ic) (x8:a.eval (.tmp 8)=.slice ka kl kc) (x12:a.eval (.tmp 12)=.pointer (some ⟨p,0,none⟩)) (x14:a.eval (.tmp 14)=.pointer (some ⟨tb,0,none⟩)) (x15:a.eval (.tmp 15)=.pointer (some ⟨rb,0,none⟩)) (x21:a.eval (.tmp 21)=.int .i64 i) (x22:a.eval (.tmp 22)=.int .i64 0) (x23:a.eval (.tmp 23)=.int .i64 i)
  
  (hK:∀ a',a'.tmps.size=255→a'.defers=[]→a'.eval (.tmp 0)=.slice la ll lc→a'.eval (.tmp 1)=.slice da dl dc→a'.eval (.tmp 2)=.int .i64 by_→a'.eval (.tmp 7)=.slice ia il ic→a'.eval (.tmp 8)=.slice ka kl kc→a'.eval (.tmp 12)=.pointer (some ⟨p,0,none⟩)→a'.eval (.tmp 14)=.pointer (some ⟨tb,0,none⟩)→a'.eval (.tmp 15)=.pointer (some ⟨rb,0,none⟩)→a'.eval (.tmp 21)=.int .i64 i→a'.eval (.tmp 22)=.int .i64 0→a'.eval (.tmp 23)=.int .i64 i→ K a' x):(atc Tryz.f3.body [1,1,1,1,1,1,1,1,1,1,0,1,0,0,1,0,0,1,0,0,1,0,0,1,0]).wp Tryz.prog (Exit.then K Q) a x:=by
 obtain ⟨cc,hcc,hce⟩:=expand255 hs hd
 have g0:=(hce 0).trans x0
 have g1:=(hce 1).trans x1
 have g2:=(hce 2).trans x2
 have g7:=(hce 7).trans x7
 have g8:=(hce 8).trans x8
 have g12:=(hce 12).trans x12
 have g14:=(hce 14).trans x14
 have g15:=(hce 15).trans x15
 have g21:=(hce 21).trans x21
 have g22:=(hce 22).trans x22
 have g23:=(hce 23).trans x23
 clear hce hs hd x0 x1 x2 x7 x8 x12 x14 x15 x21 x22 x23
 subst hcc
 conv=>arg 2; whnf
 simp only [lit255,g0,g1,g2,g7,g8,g12,g14,g15,g21,g22,g23]
 clear g0 g1 g2 g7 g8 g12 g14 g15 g21 g22 g23
 have HK:Hid _:=hK
 clear hK
 go_wp2
 exact HK.out _ rfl rfl rfl rfl rfl rfl rfl rfl rfl rfl rfl rfl rfl 
set_option maxRecDepth 100000 in
set_option maxHeartbeats 1600000 in
theorem or_40o (hs:a.tmps.size=255) (hd:a.defers=[]) (x0:a.eval (.tmp 0)=.slice la ll lc) (x1:a.eval (.tmp 1)=.slice da dl dc) (x2:a.eval (.tmp 2)=.int .i64 by_) (x7:a.eval (.tmp 7)=.slice ia il ic) (x8:a.eval (.tmp 8)=.slice ka kl kc) (x12:a.eval (.tmp 12)=.pointer (some ⟨p,0,none⟩)) (x14:a.eval (.tmp 14)=.pointer (some ⟨tb,0,none⟩)) (x15:a.eval (.tmp 15)=.pointer (some ⟨rb,0,none⟩)) (x21:a.eval (.tmp 21)=.int .i64 i) (x22:a.eval (.tmp 22)=.int .i64 1) (x23:a.eval (.tmp 23)=.int .i64 i)
  (hi:(i:Int) < dl) (hdl:dl≤1000) (h3:(dl:Int) - 1 - i=j)
  (hK:∀ a',a'.tmps.size=255→a'.defers=[]→a'.eval (.tmp 0)=.slice la ll lc→a'.eval (.tmp 1)=.slice da dl dc→a'.eval (.tmp 2)=.int .i64 by_→a'.eval (.tmp 7)=.slice ia il ic→a'.eval (.tmp 8)=.slice ka kl kc→a'.eval (.tmp 12)=.pointer (some ⟨p,0,none⟩)→a'.eval (.tmp 14)=.pointer (some ⟨tb,0,none⟩)→a'.eval (.tmp 15)=.pointer (some ⟨rb,0,none⟩)→a'.eval (.tmp 21)=.int .i64 i→a'.eval (.tmp 22)=.int .i64 1→a'.eval (.tmp 23)=.int .i64 j→ K a' x):(atc Tryz.f3.body [1,1,1,1,1,1,1,1,1,1,0,1,0,0,1,0,0,1,0,0,1,0,0,1,0]).wp Tryz.prog (Exit.then K Q) a x:=by
 obtain ⟨cc,hcc,hce⟩:=expand255 hs hd
 have g0:=(hce 0).trans x0
 have g1:=(hce 1).trans x1
 have g2:=(hce 2).trans x2
 have g7:=(hce 7).trans x7
 have g8:=(hce 8).trans x8
 have g12:=(hce 12).trans x12
 have g14:=(hce 14).trans x14
 have g15:=(hce 15).trans x15
 have g21:=(hce 21).trans x21
 have g22:=(hce 22).trans x22
 have g23:=(hce 23).trans x23
 clear hce hs hd x0 x1 x2 x7 x8 x12 x14 x15 x21 x22 x23
 subst hcc
 conv=>arg 2; whnf
 simp only [lit255,g0,g1,g2,g7,g8,g12,g14,g15,g21,g22,g23]
 clear g0 g1 g2 g7 g8 g12 g14 g15 g21 g22 g23
 have HK:Hid _:=hK
 clear hK
 go_wp2
 exact HK.out _ rfl rfl rfl rfl rfl rfl rfl rfl rfl rfl rfl rfl rfl 
set_option maxRecDepth 100000 in
set_option maxHeartbeats 1600000 in
theorem or_43 (hs:a.tmps.size=255) (hd:a.defers=[]) (x0:a.eval (.tmp 0)=.slice la ll lc) (x1:a.eval (.tmp 1)=.slice da dl dc) (x2:a.eval (.tmp 2)=.int .i64 by_) (x7:a.eval (.tmp 7)=.slice ia il ic) (x8:a.eval (.tmp 8)=.slice ka kl kc) (x12:a.eval (.tmp 12)=.pointer (some ⟨p,0,none⟩)) (x14:a.eval (.tmp 14)=.pointer (some ⟨tb,0,none⟩)) (x15:a.eval (.tmp 15)=.pointer (some ⟨rb,0,none⟩)) (x21:a.eval (.tmp 21)=.int .i64 i) (x22:a.eval (.tmp 22)=.int .i64 k) (x24:a.eval (.tmp 24)=.pointer (some ⟨nb,0,none⟩)) (x25:a.eval (.tmp 25)=.int .i64 er)
  (h:(er == 0)=t)
  (hK:∀ a',a'.tmps.size=255→a'.defers=[]→a'.eval (.tmp 0)=.slice la ll lc→a'.eval (.tmp 1)=.slice da dl dc→a'.eval (.tmp 2)=.int .i64 by_→a'.eval (.tmp 7)=.slice ia il ic→a'.eval (.tmp 8)=.slice ka kl kc→a'.eval (.tmp 12)=.pointer (some ⟨p,0,none⟩)→a'.eval (.tmp 14)=.pointer (some ⟨tb,0,none⟩)→a'.eval (.tmp 15)=.pointer (some ⟨rb,0,none⟩)→a'.eval (.tmp 21)=.int .i64 i→a'.eval (.tmp 22)=.int .i64 k→a'.eval (.tmp 24)=.pointer (some ⟨nb,0,none⟩)→a'.eval (.tmp 198)=.bool t→ K a' x):(atc Tryz.f3.body [1,1,1,1,1,1,1,1,1,1,0,1,0,0,1,0,0,1,0,0,1,0,0,1,1,1,0]).wp Tryz.prog (Exit.then K Q) a x:=by
 obtain ⟨cc,hcc,hce⟩:=expand255 hs hd
 have g0:=(hce 0).trans x0
 have g1:=(hce 1).trans x1
 have g2:=(hce 2).trans x2
 have g7:=(hce 7).trans x7
 have g8:=(hce 8).trans x8
 have g12:=(hce 12).trans x12
 have g14:=(hce 14).trans x14
 have g15:=(hce 15).trans x15
 have g21:=(hce 21).trans x21
 have g22:=(hce 22).trans x22
 have g24:=(hce 24).trans x24
 have g25:=(hce 25).trans x25
 clear hce hs hd x0 x1 x2 x7 x8 x12 x14 x15 x21 x22 x24 x25
 subst hcc
 conv=>arg 2; whnf
 simp only [lit255,g0,g1,g2,g7,g8,g12,g14,g15,g21,g22,g24,g25]
 clear g0 g1 g2 g7 g8 g12 g14 g15 g21 g22 g24 g25
 have HK:Hid _:=hK
 clear hK
 go_wp2_with (go_at_call 8; refine (cNum _ _).mono ?_; rintro e w' ⟨rfl,hw⟩; obtain rfl:=hw.symm)
 exact HK.out _ rfl rfl rfl rfl rfl rfl rfl rfl rfl rfl rfl rfl rfl rfl 
set_option maxRecDepth 100000 in
set_option maxHeartbeats 1600000 in
theorem or_44 {r0 r1:Value} (hs:a.tmps.size=255) (hd:a.defers=[]) (x0:a.eval (.tmp 0)=.slice la ll lc) (x1:a.eval (.tmp 1)=.slice da dl dc) (x2:a.eval (.tmp 2)=.int .i64 by_) (x7:a.eval (.tmp 7)=.slice ia il ic) (x8:a.eval (.tmp 8)=.slice ka kl kc) (x12:a.eval (.tmp 12)=.pointer (some ⟨p,0,none⟩)) (x14:a.eval (.tmp 14)=.pointer (some ⟨tb,0,none⟩)) (x15:a.eval (.tmp 15)=.pointer (some ⟨rb,0,none⟩)) (x21:a.eval (.tmp 21)=.int .i64 i) (x22:a.eval (.tmp 22)=.int .i64 k) (x24:a.eval (.tmp 24)=.pointer (some ⟨nb,0,none⟩))
  {v:EdV} (hk:(k:Int) < 2) (he:x.heap[nb]?=some (editV v)) (hr:x.heap[rb]?=some (.cells #[r0,r1] 37 (0,0)))
  (hK:∀ a' y,a'.tmps.size=255→a'.defers=[]→a'.eval (.tmp 0)=.slice la ll lc→a'.eval (.tmp 1)=.slice da dl dc→a'.eval (.tmp 2)=.int .i64 by_→a'.eval (.tmp 7)=.slice ia il ic→a'.eval (.tmp 8)=.slice ka kl kc→a'.eval (.tmp 12)=.pointer (some ⟨p,0,none⟩)→a'.eval (.tmp 14)=.pointer (some ⟨tb,0,none⟩)→a'.eval (.tmp 15)=.pointer (some ⟨rb,0,none⟩)→a'.eval (.tmp 21)=.int .i64 i→a'.eval (.tmp 22)=.int .i64 k→a'.eval (.tmp 24)=.pointer (some ⟨nb,0,none⟩)→y=x.setCell ⟨rb,k,none⟩ (.int .i64 v.root)→K a' y):(atc Tryz.f3.body [1,1,1,1,1,1,1,1,1,1,0,1,0,0,1,0,0,1,0,0,1,0,0,1,1,1,1,0,0]).wp Tryz.prog (Exit.then K Q) a x:=by
 obtain ⟨cc,hcc,hce⟩:=expand255 hs hd
 have g0:=(hce 0).trans x0
 have g1:=(hce 1).trans x1
 have g2:=(hce 2).trans x2
 have g7:=(hce 7).trans x7
 have g8:=(hce 8).trans x8
 have g12:=(hce 12).trans x12
 have g14:=(hce 14).trans x14
 have g15:=(hce 15).trans x15
 have g21:=(hce 21).trans x21
 have g22:=(hce 22).trans x22
 have g24:=(hce 24).trans x24
 clear hce hs hd x0 x1 x2 x7 x8 x12 x14 x15 x21 x22 x24
 subst hcc
 conv=>arg 2; whnf
 simp only [lit255,g0,g1,g2,g7,g8,g12,g14,g15,g21,g22,g24]
 clear g0 g1 g2 g7 g8 g12 g14 g15 g21 g22 g24
 have e0:x.cell? ⟨nb,0,none⟩=some (.int .i64 v.root):=cell_at he 0
 have e3:x.cell? ⟨nb,3,none⟩=some (.slice v.ga v.gl v.gc):=cell_at he 3
 clear he
 have hz:=froz_at hr k
 obtain ⟨u,hu⟩:=two_cell hr (show k < 2 by omega)
 clear hr
 have HK:Hid _:=hK
 clear hK
 go_wp2
 exact HK.out _ _ rfl rfl rfl rfl rfl rfl rfl rfl rfl rfl rfl rfl rfl rfl
set_option maxRecDepth 100000 in
set_option maxHeartbeats 1600000 in
theorem or_45 (hs:a.tmps.size=255) (hd:a.defers=[]) (x0:a.eval (.tmp 0)=.slice la ll lc) (x1:a.eval (.tmp 1)=.slice da dl dc) (x2:a.eval (.tmp 2)=.int .i64 by_) (x7:a.eval (.tmp 7)=.slice ia il ic) (x8:a.eval (.tmp 8)=.slice ka kl kc) (x12:a.eval (.tmp 12)=.pointer (some ⟨p,0,none⟩)) (x14:a.eval (.tmp 14)=.pointer (some ⟨tb,0,none⟩)) (x15:a.eval (.tmp 15)=.pointer (some ⟨rb,0,none⟩)) (x21:a.eval (.tmp 21)=.int .i64 i) (x22:a.eval (.tmp 22)=.int .i64 k) (x24:a.eval (.tmp 24)=.pointer (some ⟨nb,0,none⟩))
  {v:EdV} (he:x.heap[nb]?=some (editV v)) {PP:World→Prop} (HP:Calls Tryz.prog 11 #[pt tb,.pointer none,.slice v.ga v.gl v.gc] x fun e x'=>e=.returned (.int .i64 0)∧PP x')
  (hK:∀ a' y,a'.tmps.size=255→a'.defers=[]→a'.eval (.tmp 0)=.slice la ll lc→a'.eval (.tmp 1)=.slice da dl dc→a'.eval (.tmp 2)=.int .i64 by_→a'.eval (.tmp 7)=.slice ia il ic→a'.eval (.tmp 8)=.slice ka kl kc→a'.eval (.tmp 12)=.pointer (some ⟨p,0,none⟩)→a'.eval (.tmp 14)=.pointer (some ⟨tb,0,none⟩)→a'.eval (.tmp 15)=.pointer (some ⟨rb,0,none⟩)→a'.eval (.tmp 21)=.int .i64 i→a'.eval (.tmp 22)=.int .i64 k→PP y→K a' y):(atc Tryz.f3.body [1,1,1,1,1,1,1,1,1,1,0,1,0,0,1,0,0,1,0,0,1,0,0,1,1,1,1,0,1]).wp Tryz.prog (Exit.then K Q) a x:=by
 obtain ⟨cc,hcc,hce⟩:=expand255 hs hd
 have g0:=(hce 0).trans x0
 have g1:=(hce 1).trans x1
 have g2:=(hce 2).trans x2
 have g7:=(hce 7).trans x7
 have g8:=(hce 8).trans x8
 have g12:=(hce 12).trans x12
 have g14:=(hce 14).trans x14
 have g15:=(hce 15).trans x15
 have g21:=(hce 21).trans x21
 have g22:=(hce 22).trans x22
 have g24:=(hce 24).trans x24
 clear hce hs hd x0 x1 x2 x7 x8 x12 x14 x15 x21 x22 x24
 subst hcc
 conv=>arg 2; whnf
 simp only [lit255,g0,g1,g2,g7,g8,g12,g14,g15,g21,g22,g24]
 clear g0 g1 g2 g7 g8 g12 g14 g15 g21 g22 g24
 have e0:x.cell? ⟨nb,0,none⟩=some (.int .i64 v.root):=cell_at he 0
 have e3:x.cell? ⟨nb,3,none⟩=some (.slice v.ga v.gl v.gc):=cell_at he 3
 clear he
 have HK:Hid _:=hK
 clear hK
 go_wp2_with (first
  | (go_at_call 8; refine (cNum _ _).mono ?_; rintro e w' ⟨rfl,hw⟩; obtain rfl:=hw.symm)
  | (go_at_call 11; refine HP.mono ?_; rintro e w1 ⟨rfl,hp⟩; have HPP:Hid _:=hp; clear hp HP))
 exact HK.out _ _ rfl rfl rfl rfl rfl rfl rfl rfl rfl rfl rfl rfl HPP.out
set_option maxRecDepth 100000 in
set_option maxHeartbeats 1600000 in
theorem or_38 (hs:a.tmps.size=255) (hd:a.defers=[]) (x0:a.eval (.tmp 0)=.slice la ll lc) (x1:a.eval (.tmp 1)=.slice da dl dc) (x2:a.eval (.tmp 2)=.int .i64 by_) (x7:a.eval (.tmp 7)=.slice ia il ic) (x8:a.eval (.tmp 8)=.slice ka kl kc) (x12:a.eval (.tmp 12)=.pointer (some ⟨p,0,none⟩)) (x14:a.eval (.tmp 14)=.pointer (some ⟨tb,0,none⟩)) (x15:a.eval (.tmp 15)=.pointer (some ⟨rb,0,none⟩)) (x21:a.eval (.tmp 21)=.int .i64 i) (x22:a.eval (.tmp 22)=.int .i64 k)
  (hk:k≤2)
  (hK:∀ a',a'.tmps.size=255→a'.defers=[]→a'.eval (.tmp 0)=.slice la ll lc→a'.eval (.tmp 1)=.slice da dl dc→a'.eval (.tmp 2)=.int .i64 by_→a'.eval (.tmp 7)=.slice ia il ic→a'.eval (.tmp 8)=.slice ka kl kc→a'.eval (.tmp 12)=.pointer (some ⟨p,0,none⟩)→a'.eval (.tmp 14)=.pointer (some ⟨tb,0,none⟩)→a'.eval (.tmp 15)=.pointer (some ⟨rb,0,none⟩)→a'.eval (.tmp 21)=.int .i64 i→a'.eval (.tmp 22)=.int .i64 ((k+1:Nat):Int)→ K a' x):(atc Tryz.f3.body [1,1,1,1,1,1,1,1,1,1,0,1,0,0,1,0,0,1,0,0,1,1]).wp Tryz.prog (Exit.then K Q) a x:=by
 obtain ⟨cc,hcc,hce⟩:=expand255 hs hd
 have g0:=(hce 0).trans x0
 have g1:=(hce 1).trans x1
 have g2:=(hce 2).trans x2
 have g7:=(hce 7).trans x7
 have g8:=(hce 8).trans x8
 have g12:=(hce 12).trans x12
 have g14:=(hce 14).trans x14
 have g15:=(hce 15).trans x15
 have g21:=(hce 21).trans x21
 have g22:=(hce 22).trans x22
 clear hce hs hd x0 x1 x2 x7 x8 x12 x14 x15 x21 x22
 subst hcc
 conv=>arg 2; whnf
 simp only [lit255,g0,g1,g2,g7,g8,g12,g14,g15,g21,g22]
 clear g0 g1 g2 g7 g8 g12 g14 g15 g21 g22
 have HK:Hid _:=hK
 clear hK
 go_wp2
 exact HK.out _ rfl rfl rfl rfl rfl rfl rfl rfl rfl rfl rfl rfl 
set_option maxRecDepth 100000 in
set_option maxHeartbeats 1600000 in
theorem or_35 (hs:a.tmps.size=255) (hd:a.defers=[]) (x0:a.eval (.tmp 0)=.slice la ll lc) (x1:a.eval (.tmp 1)=.slice da dl dc) (x2:a.eval (.tmp 2)=.int .i64 by_) (x7:a.eval (.tmp 7)=.slice ia il ic) (x8:a.eval (.tmp 8)=.slice ka kl kc) (x12:a.eval (.tmp 12)=.pointer (some ⟨p,0,none⟩)) (x14:a.eval (.tmp 14)=.pointer (some ⟨tb,0,none⟩)) (x15:a.eval (.tmp 15)=.pointer (some ⟨rb,0,none⟩)) (x21:a.eval (.tmp 21)=.int .i64 i)
  (hi:i≤1000)
  (hK:∀ a',a'.tmps.size=255→a'.defers=[]→a'.eval (.tmp 0)=.slice la ll lc→a'.eval (.tmp 1)=.slice da dl dc→a'.eval (.tmp 2)=.int .i64 by_→a'.eval (.tmp 7)=.slice ia il ic→a'.eval (.tmp 8)=.slice ka kl kc→a'.eval (.tmp 12)=.pointer (some ⟨p,0,none⟩)→a'.eval (.tmp 14)=.pointer (some ⟨tb,0,none⟩)→a'.eval (.tmp 15)=.pointer (some ⟨rb,0,none⟩)→a'.eval (.tmp 21)=.int .i64 ((i+1:Nat):Int)→ K a' x):(atc Tryz.f3.body [1,1,1,1,1,1,1,1,1,1,0,1,0,0,1,1]).wp Tryz.prog (Exit.then K Q) a x:=by
 obtain ⟨cc,hcc,hce⟩:=expand255 hs hd
 have g0:=(hce 0).trans x0
 have g1:=(hce 1).trans x1
 have g2:=(hce 2).trans x2
 have g7:=(hce 7).trans x7
 have g8:=(hce 8).trans x8
 have g12:=(hce 12).trans x12
 have g14:=(hce 14).trans x14
 have g15:=(hce 15).trans x15
 have g21:=(hce 21).trans x21
 clear hce hs hd x0 x1 x2 x7 x8 x12 x14 x15 x21
 subst hcc
 conv=>arg 2; whnf
 simp only [lit255,g0,g1,g2,g7,g8,g12,g14,g15,g21]
 clear g0 g1 g2 g7 g8 g12 g14 g15 g21
 have HK:Hid _:=hK
 clear hK
 go_wp2
 exact HK.out _ rfl rfl rfl rfl rfl rfl rfl rfl rfl rfl rfl 
set_option maxRecDepth 100000 in
set_option maxHeartbeats 1600000 in
theorem or_47 (hs:a.tmps.size=255) (hd:a.defers=[]) (x0:a.eval (.tmp 0)=.slice la ll lc) (x1:a.eval (.tmp 1)=.slice da dl dc) (x2:a.eval (.tmp 2)=.int .i64 by_) (x7:a.eval (.tmp 7)=.slice ia il ic) (x8:a.eval (.tmp 8)=.slice ka kl kc) (x12:a.eval (.tmp 12)=.pointer (some ⟨p,0,none⟩)) (x14:a.eval (.tmp 14)=.pointer (some ⟨tb,0,none⟩)) (x15:a.eval (.tmp 15)=.pointer (some ⟨rb,0,none⟩))
  
  (hK:∀ a',a'.tmps.size=255→a'.defers=[]→a'.eval (.tmp 0)=.slice la ll lc→a'.eval (.tmp 1)=.slice da dl dc→a'.eval (.tmp 2)=.int .i64 by_→a'.eval (.tmp 7)=.slice ia il ic→a'.eval (.tmp 8)=.slice ka kl kc→a'.eval (.tmp 12)=.pointer (some ⟨p,0,none⟩)→a'.eval (.tmp 14)=.pointer (some ⟨tb,0,none⟩)→a'.eval (.tmp 15)=.pointer (some ⟨rb,0,none⟩)→a'.eval (.tmp 26)=.int .i64 0→ K a' x):(atc Tryz.f3.body [1,1,1,1,1,1,1,1,1,1,1,0,0]).wp Tryz.prog (Exit.then K Q) a x:=by
 obtain ⟨cc,hcc,hce⟩:=expand255 hs hd
 have g0:=(hce 0).trans x0
 have g1:=(hce 1).trans x1
 have g2:=(hce 2).trans x2
 have g7:=(hce 7).trans x7
 have g8:=(hce 8).trans x8
 have g12:=(hce 12).trans x12
 have g14:=(hce 14).trans x14
 have g15:=(hce 15).trans x15
 clear hce hs hd x0 x1 x2 x7 x8 x12 x14 x15
 subst hcc
 conv=>arg 2; whnf
 simp only [lit255,g0,g1,g2,g7,g8,g12,g14,g15]
 clear g0 g1 g2 g7 g8 g12 g14 g15
 have HK:Hid _:=hK
 clear hK
 go_wp2
 exact HK.out _ rfl rfl rfl rfl rfl rfl rfl rfl rfl rfl rfl 
set_option maxRecDepth 100000 in
set_option maxHeartbeats 1600000 in
theorem or_48in (hs:a.tmps.size=255) (hd:a.defers=[]) (x0:a.eval (.tmp 0)=.slice la ll lc) (x1:a.eval (.tmp 1)=.slice da dl dc) (x2:a.eval (.tmp 2)=.int .i64 by_) (x7:a.eval (.tmp 7)=.slice ia il ic) (x8:a.eval (.tmp 8)=.slice ka kl kc) (x12:a.eval (.tmp 12)=.pointer (some ⟨p,0,none⟩)) (x14:a.eval (.tmp 14)=.pointer (some ⟨tb,0,none⟩)) (x15:a.eval (.tmp 15)=.pointer (some ⟨rb,0,none⟩)) (x26:a.eval (.tmp 26)=.int .i64 i)
  (hi:(i:Int) < dl)
  (hK:∀ a',a'.tmps.size=255→a'.defers=[]→a'.eval (.tmp 0)=.slice la ll lc→a'.eval (.tmp 1)=.slice da dl dc→a'.eval (.tmp 2)=.int .i64 by_→a'.eval (.tmp 7)=.slice ia il ic→a'.eval (.tmp 8)=.slice ka kl kc→a'.eval (.tmp 12)=.pointer (some ⟨p,0,none⟩)→a'.eval (.tmp 14)=.pointer (some ⟨tb,0,none⟩)→a'.eval (.tmp 15)=.pointer (some ⟨rb,0,none⟩)→a'.eval (.tmp 26)=.int .i64 i→ K a' x):(atc Tryz.f3.body [1,1,1,1,1,1,1,1,1,1,1,0,1,0,0,0]).wp Tryz.prog (Exit.then K Q) a x:=by
 obtain ⟨cc,hcc,hce⟩:=expand255 hs hd
 have g0:=(hce 0).trans x0
 have g1:=(hce 1).trans x1
 have g2:=(hce 2).trans x2
 have g7:=(hce 7).trans x7
 have g8:=(hce 8).trans x8
 have g12:=(hce 12).trans x12
 have g14:=(hce 14).trans x14
 have g15:=(hce 15).trans x15
 have g26:=(hce 26).trans x26
 clear hce hs hd x0 x1 x2 x7 x8 x12 x14 x15 x26
 subst hcc
 conv=>arg 2; whnf
 simp only [lit255,g0,g1,g2,g7,g8,g12,g14,g15,g26]
 clear g0 g1 g2 g7 g8 g12 g14 g15 g26
 have HK:Hid _:=hK
 clear hK
 go_wp2
 exact HK.out _ rfl rfl rfl rfl rfl rfl rfl rfl rfl rfl rfl 
set_option maxRecDepth 100000 in
set_option maxHeartbeats 1600000 in
theorem or_48out (hs:a.tmps.size=255) (hd:a.defers=[]) (x0:a.eval (.tmp 0)=.slice la ll lc) (x1:a.eval (.tmp 1)=.slice da dl dc) (x2:a.eval (.tmp 2)=.int .i64 by_) (x7:a.eval (.tmp 7)=.slice ia il ic) (x8:a.eval (.tmp 8)=.slice ka kl kc) (x12:a.eval (.tmp 12)=.pointer (some ⟨p,0,none⟩)) (x14:a.eval (.tmp 14)=.pointer (some ⟨tb,0,none⟩)) (x15:a.eval (.tmp 15)=.pointer (some ⟨rb,0,none⟩)) (x26:a.eval (.tmp 26)=.int .i64 i)
  (hi:¬ (i:Int) < dl)
  (hQ:∀ a',a'.tmps.size=255→a'.defers=[]→a'.eval (.tmp 0)=.slice la ll lc→a'.eval (.tmp 1)=.slice da dl dc→a'.eval (.tmp 2)=.int .i64 by_→a'.eval (.tmp 7)=.slice ia il ic→a'.eval (.tmp 8)=.slice ka kl kc→a'.eval (.tmp 12)=.pointer (some ⟨p,0,none⟩)→a'.eval (.tmp 14)=.pointer (some ⟨tb,0,none⟩)→a'.eval (.tmp 15)=.pointer (some ⟨rb,0,none⟩)→ Q (.exit 10) a' x):(atc Tryz.f3.body [1,1,1,1,1,1,1,1,1,1,1,0,1,0,0,0]).wp Tryz.prog (Exit.then K Q) a x:=by
 obtain ⟨cc,hcc,hce⟩:=expand255 hs hd
 have g0:=(hce 0).trans x0
 have g1:=(hce 1).trans x1
 have g2:=(hce 2).trans x2
 have g7:=(hce 7).trans x7
 have g8:=(hce 8).trans x8
 have g12:=(hce 12).trans x12
 have g14:=(hce 14).trans x14
 have g15:=(hce 15).trans x15
 have g26:=(hce 26).trans x26
 clear hce hs hd x0 x1 x2 x7 x8 x12 x14 x15 x26
 subst hcc
 conv=>arg 2; whnf
 simp only [lit255,g0,g1,g2,g7,g8,g12,g14,g15,g26]
 clear g0 g1 g2 g7 g8 g12 g14 g15 g26
 have HK:Hid _:=hQ
 clear hQ
 go_wp2
 exact HK.out _ rfl rfl rfl rfl rfl rfl rfl rfl rfl rfl 
set_option maxRecDepth 100000 in
set_option maxHeartbeats 1600000 in
theorem or_50 (hs:a.tmps.size=255) (hd:a.defers=[]) (x0:a.eval (.tmp 0)=.slice la ll lc) (x1:a.eval (.tmp 1)=.slice (some ⟨db,dq,none⟩) dl dc) (x2:a.eval (.tmp 2)=.int .i64 by_) (x7:a.eval (.tmp 7)=.slice ia il ic) (x8:a.eval (.tmp 8)=.slice ka kl kc) (x12:a.eval (.tmp 12)=.pointer (some ⟨p,0,none⟩)) (x14:a.eval (.tmp 14)=.pointer (some ⟨tb,0,none⟩)) (x15:a.eval (.tmp 15)=.pointer (some ⟨rb,0,none⟩)) (x26:a.eval (.tmp 26)=.int .i64 i)
  (hi:(i:Int) < dl) (h0:x.cell? ⟨db,dq+i,none⟩=some (.int .i64 ky)) {PP:Value→World→Prop} (HP:Calls Tryz.prog 13 #[.slice ia il ic,.int .i64 ky] x fun e x'=>∃ v,e=.returned v∧PP v x')
  (hK:∀ a' y v,a'.tmps.size=255→a'.defers=[]→a'.eval (.tmp 0)=.slice la ll lc→a'.eval (.tmp 1)=.slice (some ⟨db,dq,none⟩) dl dc→a'.eval (.tmp 2)=.int .i64 by_→a'.eval (.tmp 7)=v→a'.eval (.tmp 8)=.slice ka kl kc→a'.eval (.tmp 12)=.pointer (some ⟨p,0,none⟩)→a'.eval (.tmp 14)=.pointer (some ⟨tb,0,none⟩)→a'.eval (.tmp 15)=.pointer (some ⟨rb,0,none⟩)→a'.eval (.tmp 26)=.int .i64 i→PP v y→K a' y):(atc Tryz.f3.body [1,1,1,1,1,1,1,1,1,1,1,0,1,0,0,1,0,0]).wp Tryz.prog (Exit.then K Q) a x:=by
 obtain ⟨cc,hcc,hce⟩:=expand255 hs hd
 have g0:=(hce 0).trans x0
 have g1:=(hce 1).trans x1
 have g2:=(hce 2).trans x2
 have g7:=(hce 7).trans x7
 have g8:=(hce 8).trans x8
 have g12:=(hce 12).trans x12
 have g14:=(hce 14).trans x14
 have g15:=(hce 15).trans x15
 have g26:=(hce 26).trans x26
 clear hce hs hd x0 x1 x2 x7 x8 x12 x14 x15 x26
 subst hcc
 conv=>arg 2; whnf
 simp only [lit255,g0,g1,g2,g7,g8,g12,g14,g15,g26]
 clear g0 g1 g2 g7 g8 g12 g14 g15 g26
 have HK:Hid _:=hK
 clear hK
 go_wp2_with (go_at_call 13; refine HP.mono ?_; rintro e w1 ⟨v,rfl,hp⟩; have HPP:Hid _:=hp; clear hp HP)
 exact HK.out _ _ _ rfl rfl rfl rfl rfl rfl rfl rfl rfl rfl rfl HPP.out
set_option maxRecDepth 100000 in
set_option maxHeartbeats 1600000 in
theorem or_49 (hs:a.tmps.size=255) (hd:a.defers=[]) (x0:a.eval (.tmp 0)=.slice la ll lc) (x1:a.eval (.tmp 1)=.slice da dl dc) (x2:a.eval (.tmp 2)=.int .i64 by_) (x7:a.eval (.tmp 7)=.slice ia il ic) (x8:a.eval (.tmp 8)=.slice ka kl kc) (x12:a.eval (.tmp 12)=.pointer (some ⟨p,0,none⟩)) (x14:a.eval (.tmp 14)=.pointer (some ⟨tb,0,none⟩)) (x15:a.eval (.tmp 15)=.pointer (some ⟨rb,0,none⟩)) (x26:a.eval (.tmp 26)=.int .i64 i)
  (hi:i≤1000)
  (hK:∀ a',a'.tmps.size=255→a'.defers=[]→a'.eval (.tmp 0)=.slice la ll lc→a'.eval (.tmp 1)=.slice da dl dc→a'.eval (.tmp 2)=.int .i64 by_→a'.eval (.tmp 7)=.slice ia il ic→a'.eval (.tmp 8)=.slice ka kl kc→a'.eval (.tmp 12)=.pointer (some ⟨p,0,none⟩)→a'.eval (.tmp 14)=.pointer (some ⟨tb,0,none⟩)→a'.eval (.tmp 15)=.pointer (some ⟨rb,0,none⟩)→a'.eval (.tmp 26)=.int .i64 ((i+1:Nat):Int)→ K a' x):(atc Tryz.f3.body [1,1,1,1,1,1,1,1,1,1,1,0,1,0,0,1,1]).wp Tryz.prog (Exit.then K Q) a x:=by
 obtain ⟨cc,hcc,hce⟩:=expand255 hs hd
 have g0:=(hce 0).trans x0
 have g1:=(hce 1).trans x1
 have g2:=(hce 2).trans x2
 have g7:=(hce 7).trans x7
 have g8:=(hce 8).trans x8
 have g12:=(hce 12).trans x12
 have g14:=(hce 14).trans x14
 have g15:=(hce 15).trans x15
 have g26:=(hce 26).trans x26
 clear hce hs hd x0 x1 x2 x7 x8 x12 x14 x15 x26
 subst hcc
 conv=>arg 2; whnf
 simp only [lit255,g0,g1,g2,g7,g8,g12,g14,g15,g26]
 clear g0 g1 g2 g7 g8 g12 g14 g15 g26
 have HK:Hid _:=hK
 clear hK
 go_wp2
 exact HK.out _ rfl rfl rfl rfl rfl rfl rfl rfl rfl rfl rfl 
end
end Go.Proofs.YtcinlaacgbfojaaGreatDoor

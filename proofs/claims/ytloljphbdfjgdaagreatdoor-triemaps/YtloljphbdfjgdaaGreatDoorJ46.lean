/- The ways through TrieMaps. (Written by tools/gen/genmap2.py.) -/
import Derived.Test.YtloljphbdfjgdaaGreatDoorJ44
import Derived.Test.YtloljphbdfjgdaaGreatDoorJ45
namespace Go.Proofs.YtloljphbdfjgdaaGreatDoor
open Go.RowKit
section
variable {W x:World} {p tb ll lc al ac i c qb qo ag vb nb eb vl vc:Nat} {la aa va:Option Addr} {nv lo hi cf rt z:Int} {a:Act} {K:Act→World→Prop} {Q:Exit→Act→World→Prop}
set_option maxRecDepth 100000 in
set_option maxHeartbeats 1600000 in
theorem mp_10 (hs:a.tmps.size=137) (hd:a.defers=[]) (x0:a.eval (.tmp 0)=.int .i64 nv) (x1:a.eval (.tmp 1)=.slice la ll lc) (x2:a.eval (.tmp 2)=.int .i64 lo) (x3:a.eval (.tmp 3)=.int .i64 hi) (x9:a.eval (.tmp 9)=.pointer (some ⟨p,0,none⟩)) (x11:a.eval (.tmp 11)=.pointer (some ⟨tb,0,none⟩)) (x12:a.eval (.tmp 12)=.slice aa al ac)
  
  (hK:∀ a',a'.tmps.size=137→a'.defers=[]→a'.eval (.tmp 0)=.int .i64 nv→a'.eval (.tmp 1)=.slice la ll lc→a'.eval (.tmp 2)=.int .i64 lo→a'.eval (.tmp 3)=.int .i64 hi→a'.eval (.tmp 9)=.pointer (some ⟨p,0,none⟩)→a'.eval (.tmp 11)=.pointer (some ⟨tb,0,none⟩)→a'.eval (.tmp 12)=.slice aa al ac→a'.eval (.tmp 13)=.int .i64 0→ K a' x):(atc Tryz.f3.body [1,1,1,1,1,1,1,0,0]).wp Tryz.prog (Exit.then K Q) a x:=by
 obtain ⟨cc,hcc,hce⟩:=expand137 hs hd
 have g0:=(hce 0).trans x0
 have g1:=(hce 1).trans x1
 have g2:=(hce 2).trans x2
 have g3:=(hce 3).trans x3
 have g9:=(hce 9).trans x9
 have g11:=(hce 11).trans x11
 have g12:=(hce 12).trans x12
 clear hce hs hd x0 x1 x2 x3 x9 x11 x12
 subst hcc
 conv=>arg 2; whnf
 simp only [lit137,g0,g1,g2,g3,g9,g11,g12]
 clear g0 g1 g2 g3 g9 g11 g12
 have HK:Hid _:=hK
 clear hK
 go_wp2
 exact HK.out _ rfl rfl rfl rfl rfl rfl rfl rfl rfl rfl 
set_option maxRecDepth 100000 in
set_option maxHeartbeats 1600000 in
theorem mp_11in (hs:a.tmps.size=137) (hd:a.defers=[]) (x0:a.eval (.tmp 0)=.int .i64 nv) (x1:a.eval (.tmp 1)=.slice la ll lc) (x2:a.eval (.tmp 2)=.int .i64 lo) (x3:a.eval (.tmp 3)=.int .i64 hi) (x9:a.eval (.tmp 9)=.pointer (some ⟨p,0,none⟩)) (x11:a.eval (.tmp 11)=.pointer (some ⟨tb,0,none⟩)) (x12:a.eval (.tmp 12)=.slice aa al ac) (x13:a.eval (.tmp 13)=.int .i64 i)
  (hi2:(i:Int) < ll)
  (hK:∀ a',a'.tmps.size=137→a'.defers=[]→a'.eval (.tmp 0)=.int .i64 nv→a'.eval (.tmp 1)=.slice la ll lc→a'.eval (.tmp 2)=.int .i64 lo→a'.eval (.tmp 3)=.int .i64 hi→a'.eval (.tmp 9)=.pointer (some ⟨p,0,none⟩)→a'.eval (.tmp 11)=.pointer (some ⟨tb,0,none⟩)→a'.eval (.tmp 12)=.slice aa al ac→a'.eval (.tmp 13)=.int .i64 i→ K a' x):(atc Tryz.f3.body [1,1,1,1,1,1,1,0,1,0,0,0]).wp Tryz.prog (Exit.then K Q) a x:=by
 obtain ⟨cc,hcc,hce⟩:=expand137 hs hd
 have g0:=(hce 0).trans x0
 have g1:=(hce 1).trans x1
 have g2:=(hce 2).trans x2
 have g3:=(hce 3).trans x3
 have g9:=(hce 9).trans x9
 have g11:=(hce 11).trans x11
 have g12:=(hce 12).trans x12
 have g13:=(hce 13).trans x13
 clear hce hs hd x0 x1 x2 x3 x9 x11 x12 x13
 subst hcc
 conv=>arg 2; whnf
 simp only [lit137,g0,g1,g2,g3,g9,g11,g12,g13]
 clear g0 g1 g2 g3 g9 g11 g12 g13
 have HK:Hid _:=hK
 clear hK
 go_wp2
 exact HK.out _ rfl rfl rfl rfl rfl rfl rfl rfl rfl rfl 
set_option maxRecDepth 100000 in
set_option maxHeartbeats 1600000 in
theorem mp_11out (hs:a.tmps.size=137) (hd:a.defers=[]) (x0:a.eval (.tmp 0)=.int .i64 nv) (x1:a.eval (.tmp 1)=.slice la ll lc) (x2:a.eval (.tmp 2)=.int .i64 lo) (x3:a.eval (.tmp 3)=.int .i64 hi) (x9:a.eval (.tmp 9)=.pointer (some ⟨p,0,none⟩)) (x11:a.eval (.tmp 11)=.pointer (some ⟨tb,0,none⟩)) (x12:a.eval (.tmp 12)=.slice aa al ac) (x13:a.eval (.tmp 13)=.int .i64 i)
  (hi2:¬ (i:Int) < ll)
  (hQ:∀ a',a'.tmps.size=137→a'.defers=[]→a'.eval (.tmp 0)=.int .i64 nv→a'.eval (.tmp 1)=.slice la ll lc→a'.eval (.tmp 2)=.int .i64 lo→a'.eval (.tmp 3)=.int .i64 hi→a'.eval (.tmp 9)=.pointer (some ⟨p,0,none⟩)→a'.eval (.tmp 11)=.pointer (some ⟨tb,0,none⟩)→a'.eval (.tmp 12)=.slice aa al ac→ Q (.exit 0) a' x):(atc Tryz.f3.body [1,1,1,1,1,1,1,0,1,0,0,0]).wp Tryz.prog (Exit.then K Q) a x:=by
 obtain ⟨cc,hcc,hce⟩:=expand137 hs hd
 have g0:=(hce 0).trans x0
 have g1:=(hce 1).trans x1
 have g2:=(hce 2).trans x2
 have g3:=(hce 3).trans x3
 have g9:=(hce 9).trans x9
 have g11:=(hce 11).trans x11
 have g12:=(hce 12).trans x12
 have g13:=(hce 13).trans x13
 clear hce hs hd x0 x1 x2 x3 x9 x11 x12 x13
 subst hcc
 conv=>arg 2; whnf
 simp only [lit137,g0,g1,g2,g3,g9,g11,g12,g13]
 clear g0 g1 g2 g3 g9 g11 g12 g13
 have HK:Hid _:=hQ
 clear hQ
 go_wp2
 exact HK.out _ rfl rfl rfl rfl rfl rfl rfl rfl rfl 
set_option maxRecDepth 100000 in
set_option maxHeartbeats 1600000 in
theorem mp_12 (hs:a.tmps.size=137) (hd:a.defers=[]) (x0:a.eval (.tmp 0)=.int .i64 nv) (x1:a.eval (.tmp 1)=.slice la ll lc) (x2:a.eval (.tmp 2)=.int .i64 lo) (x3:a.eval (.tmp 3)=.int .i64 hi) (x9:a.eval (.tmp 9)=.pointer (some ⟨p,0,none⟩)) (x11:a.eval (.tmp 11)=.pointer (some ⟨tb,0,none⟩)) (x12:a.eval (.tmp 12)=.slice aa al ac) (x13:a.eval (.tmp 13)=.int .i64 i)
  (hi2:i≤1000)
  (hK:∀ a',a'.tmps.size=137→a'.defers=[]→a'.eval (.tmp 0)=.int .i64 nv→a'.eval (.tmp 1)=.slice la ll lc→a'.eval (.tmp 2)=.int .i64 lo→a'.eval (.tmp 3)=.int .i64 hi→a'.eval (.tmp 9)=.pointer (some ⟨p,0,none⟩)→a'.eval (.tmp 11)=.pointer (some ⟨tb,0,none⟩)→a'.eval (.tmp 12)=.slice aa al ac→a'.eval (.tmp 13)=.int .i64 ((i+1:Nat):Int)→ K a' x):(atc Tryz.f3.body [1,1,1,1,1,1,1,0,1,0,0,1,1]).wp Tryz.prog (Exit.then K Q) a x:=by
 obtain ⟨cc,hcc,hce⟩:=expand137 hs hd
 have g0:=(hce 0).trans x0
 have g1:=(hce 1).trans x1
 have g2:=(hce 2).trans x2
 have g3:=(hce 3).trans x3
 have g9:=(hce 9).trans x9
 have g11:=(hce 11).trans x11
 have g12:=(hce 12).trans x12
 have g13:=(hce 13).trans x13
 clear hce hs hd x0 x1 x2 x3 x9 x11 x12 x13
 subst hcc
 conv=>arg 2; whnf
 simp only [lit137,g0,g1,g2,g3,g9,g11,g12,g13]
 clear g0 g1 g2 g3 g9 g11 g12 g13
 have HK:Hid _:=hK
 clear hK
 go_wp2
 exact HK.out _ rfl rfl rfl rfl rfl rfl rfl rfl rfl rfl 
set_option maxRecDepth 100000 in
set_option maxHeartbeats 1600000 in
theorem mp_13 (hs:a.tmps.size=137) (hd:a.defers=[]) (x0:a.eval (.tmp 0)=.int .i64 nv) (x1:a.eval (.tmp 1)=.slice (some ⟨qb,qo,none⟩) ll lc) (x2:a.eval (.tmp 2)=.int .i64 lo) (x3:a.eval (.tmp 3)=.int .i64 hi) (x9:a.eval (.tmp 9)=.pointer (some ⟨p,0,none⟩)) (x11:a.eval (.tmp 11)=.pointer (some ⟨tb,0,none⟩)) (x12:a.eval (.tmp 12)=.slice (some ⟨ag,0,none⟩) al ac) (x13:a.eval (.tmp 13)=.int .i64 i)
  (hi2:(i:Int) < ll) (h0:x.cell? ⟨qb,qo+i * 4,none⟩=some (.int .i64 cf)) (hal:al≤1000) (h1:cf.tmod (al:Int)=z) (z0:-(al:Int) < z) (z1:z < al) (h2:(z+al).tmod (al:Int)=c) (hc:(c:Int) < al) (c0:x.cell? ⟨ag,c * 2,none⟩=some (.int .i64 rt)) (c1:x.cell? ⟨ag,c * 2+1,none⟩=some (.slice va vl vc))
  (hK:∀ a' y,a'.tmps.size=137→a'.defers=[]→a'.eval (.tmp 0)=.int .i64 nv→a'.eval (.tmp 1)=.slice (some ⟨qb,qo,none⟩) ll lc→a'.eval (.tmp 2)=.int .i64 lo→a'.eval (.tmp 3)=.int .i64 hi→a'.eval (.tmp 9)=.pointer (some ⟨p,0,none⟩)→a'.eval (.tmp 11)=.pointer (some ⟨tb,0,none⟩)→a'.eval (.tmp 12)=.slice (some ⟨ag,0,none⟩) al ac→a'.eval (.tmp 13)=.int .i64 i→a'.eval (.tmp 14)=.pointer (some ⟨x.heap.size,0,none⟩)→Turned [] x y→y.heap[x.heap.size]?=some (verObj rt (.slice va vl vc))→K a' y):(atc Tryz.f3.body [1,1,1,1,1,1,1,0,1,0,0,1,0,0,0]).wp Tryz.prog (Exit.then K Q) a x:=by
 obtain ⟨cc,hcc,hce⟩:=expand137 hs hd
 have g0:=(hce 0).trans x0
 have g1:=(hce 1).trans x1
 have g2:=(hce 2).trans x2
 have g3:=(hce 3).trans x3
 have g9:=(hce 9).trans x9
 have g11:=(hce 11).trans x11
 have g12:=(hce 12).trans x12
 have g13:=(hce 13).trans x13
 clear hce hs hd x0 x1 x2 x3 x9 x11 x12 x13
 subst hcc
 conv=>arg 2; whnf
 simp only [lit137,g0,g1,g2,g3,g9,g11,g12,g13]
 clear g0 g1 g2 g3 g9 g11 g12 g13
 have hne:¬ (al:Int)=0:=by omega
 have HK:Hid _:=hK
 clear hK
 go_wp2
 refine HK.out _ _ rfl rfl rfl rfl rfl rfl rfl rfl rfl rfl rfl ?_ ?_
 ·first | exact (Turned.refl [] _).alloc _ | exact ((((Turned.refl [] _).alloc _).set (.inr (by simp)) _ _).set (.inr (by simp)) _ _)
 ·first | exact blk_new _ _ | exact (by rw [blk_set (blk_set (blk_new _ _) _ _) _ _]; rfl)
set_option maxRecDepth 100000 in
set_option maxHeartbeats 1600000 in
theorem mp_15 {vv:Value} (hs:a.tmps.size=137) (hd:a.defers=[]) (x0:a.eval (.tmp 0)=.int .i64 nv) (x1:a.eval (.tmp 1)=.slice la ll lc) (x2:a.eval (.tmp 2)=.int .i64 lo) (x3:a.eval (.tmp 3)=.int .i64 hi) (x9:a.eval (.tmp 9)=.pointer (some ⟨p,0,none⟩)) (x11:a.eval (.tmp 11)=.pointer (some ⟨tb,0,none⟩)) (x12:a.eval (.tmp 12)=.slice aa al ac) (x13:a.eval (.tmp 13)=.int .i64 i) (x14:a.eval (.tmp 14)=.pointer (some ⟨vb,0,none⟩)) (x16:a.eval (.tmp 16)=.pointer (some ⟨eb,0,none⟩)) (x15:a.eval (.tmp 15)=vv) (x17:a.eval (.tmp 17)=.bool true)
  
  (hK:∀ a',a'.tmps.size=137→a'.defers=[]→a'.eval (.tmp 0)=.int .i64 nv→a'.eval (.tmp 1)=.slice la ll lc→a'.eval (.tmp 2)=.int .i64 lo→a'.eval (.tmp 3)=.int .i64 hi→a'.eval (.tmp 9)=.pointer (some ⟨p,0,none⟩)→a'.eval (.tmp 11)=.pointer (some ⟨tb,0,none⟩)→a'.eval (.tmp 12)=.slice aa al ac→a'.eval (.tmp 13)=.int .i64 i→a'.eval (.tmp 14)=.pointer (some ⟨vb,0,none⟩)→a'.eval (.tmp 16)=.pointer (some ⟨eb,0,none⟩)→a'.eval (.tmp 15)=vv→ K a' x):(atc Tryz.f3.body [1,1,1,1,1,1,1,0,1,0,0,1,0,0,1,1,0]).wp Tryz.prog (Exit.then K Q) a x:=by
 obtain ⟨cc,hcc,hce⟩:=expand137 hs hd
 have g0:=(hce 0).trans x0
 have g1:=(hce 1).trans x1
 have g2:=(hce 2).trans x2
 have g3:=(hce 3).trans x3
 have g9:=(hce 9).trans x9
 have g11:=(hce 11).trans x11
 have g12:=(hce 12).trans x12
 have g13:=(hce 13).trans x13
 have g14:=(hce 14).trans x14
 have g16:=(hce 16).trans x16
 have g15:=(hce 15).trans x15
 have g17:=(hce 17).trans x17
 clear hce hs hd x0 x1 x2 x3 x9 x11 x12 x13 x14 x16 x15 x17
 subst hcc
 conv=>arg 2; whnf
 simp only [lit137,g0,g1,g2,g3,g9,g11,g12,g13,g14,g16,g15,g17]
 clear g0 g1 g2 g3 g9 g11 g12 g13 g14 g16 g15 g17
 have HK:Hid _:=hK
 clear hK
 go_wp2
 exact HK.out _ rfl rfl rfl rfl rfl rfl rfl rfl rfl rfl rfl rfl rfl 
set_option maxRecDepth 100000 in
set_option maxHeartbeats 1600000 in
theorem mp_17nil (hs:a.tmps.size=137) (hd:a.defers=[]) (x0:a.eval (.tmp 0)=.int .i64 nv) (x1:a.eval (.tmp 1)=.slice la ll lc) (x2:a.eval (.tmp 2)=.int .i64 lo) (x3:a.eval (.tmp 3)=.int .i64 hi) (x9:a.eval (.tmp 9)=.pointer (some ⟨p,0,none⟩)) (x11:a.eval (.tmp 11)=.pointer (some ⟨tb,0,none⟩)) (x12:a.eval (.tmp 12)=.slice aa al ac) (x13:a.eval (.tmp 13)=.int .i64 i) (x14:a.eval (.tmp 14)=.pointer (some ⟨vb,0,none⟩)) (x16:a.eval (.tmp 16)=.pointer (some ⟨eb,0,none⟩)) (x15:a.eval (.tmp 15)=.pointer none)
  
  (hQ:∀ a',a'.tmps.size=137→a'.defers=[]→a'.eval (.tmp 0)=.int .i64 nv→a'.eval (.tmp 1)=.slice la ll lc→a'.eval (.tmp 2)=.int .i64 lo→a'.eval (.tmp 3)=.int .i64 hi→a'.eval (.tmp 9)=.pointer (some ⟨p,0,none⟩)→a'.eval (.tmp 11)=.pointer (some ⟨tb,0,none⟩)→a'.eval (.tmp 12)=.slice aa al ac→a'.eval (.tmp 13)=.int .i64 i→ Q (.exit 1) a' x):(atc Tryz.f3.body [1,1,1,1,1,1,1,0,1,0,0,1,0,0,1,1,1,0]).wp Tryz.prog (Exit.then K Q) a x:=by
 obtain ⟨cc,hcc,hce⟩:=expand137 hs hd
 have g0:=(hce 0).trans x0
 have g1:=(hce 1).trans x1
 have g2:=(hce 2).trans x2
 have g3:=(hce 3).trans x3
 have g9:=(hce 9).trans x9
 have g11:=(hce 11).trans x11
 have g12:=(hce 12).trans x12
 have g13:=(hce 13).trans x13
 have g14:=(hce 14).trans x14
 have g16:=(hce 16).trans x16
 have g15:=(hce 15).trans x15
 clear hce hs hd x0 x1 x2 x3 x9 x11 x12 x13 x14 x16 x15
 subst hcc
 conv=>arg 2; whnf
 simp only [lit137,g0,g1,g2,g3,g9,g11,g12,g13,g14,g16,g15]
 clear g0 g1 g2 g3 g9 g11 g12 g13 g14 g16 g15
 have HK:Hid _:=hQ
 clear hQ
 go_wp2
 exact HK.out _ rfl rfl rfl rfl rfl rfl rfl rfl rfl rfl 
set_option maxRecDepth 100000 in
set_option maxHeartbeats 1600000 in
theorem mp_17ok (hs:a.tmps.size=137) (hd:a.defers=[]) (x0:a.eval (.tmp 0)=.int .i64 nv) (x1:a.eval (.tmp 1)=.slice la ll lc) (x2:a.eval (.tmp 2)=.int .i64 lo) (x3:a.eval (.tmp 3)=.int .i64 hi) (x9:a.eval (.tmp 9)=.pointer (some ⟨p,0,none⟩)) (x11:a.eval (.tmp 11)=.pointer (some ⟨tb,0,none⟩)) (x12:a.eval (.tmp 12)=.slice aa al ac) (x13:a.eval (.tmp 13)=.int .i64 i) (x14:a.eval (.tmp 14)=.pointer (some ⟨vb,0,none⟩)) (x16:a.eval (.tmp 16)=.pointer (some ⟨eb,0,none⟩)) (x15:a.eval (.tmp 15)=.pointer (some ⟨nb,0,none⟩))
  
  (hK:∀ a',a'.tmps.size=137→a'.defers=[]→a'.eval (.tmp 0)=.int .i64 nv→a'.eval (.tmp 1)=.slice la ll lc→a'.eval (.tmp 2)=.int .i64 lo→a'.eval (.tmp 3)=.int .i64 hi→a'.eval (.tmp 9)=.pointer (some ⟨p,0,none⟩)→a'.eval (.tmp 11)=.pointer (some ⟨tb,0,none⟩)→a'.eval (.tmp 12)=.slice aa al ac→a'.eval (.tmp 13)=.int .i64 i→a'.eval (.tmp 14)=.pointer (some ⟨vb,0,none⟩)→a'.eval (.tmp 16)=.pointer (some ⟨eb,0,none⟩)→a'.eval (.tmp 15)=.pointer (some ⟨nb,0,none⟩)→ K a' x):(atc Tryz.f3.body [1,1,1,1,1,1,1,0,1,0,0,1,0,0,1,1,1,0]).wp Tryz.prog (Exit.then K Q) a x:=by
 obtain ⟨cc,hcc,hce⟩:=expand137 hs hd
 have g0:=(hce 0).trans x0
 have g1:=(hce 1).trans x1
 have g2:=(hce 2).trans x2
 have g3:=(hce 3).trans x3
 have g9:=(hce 9).trans x9
 have g11:=(hce 11).trans x11
 have g12:=(hce 12).trans x12
 have g13:=(hce 13).trans x13
 have g14:=(hce 14).trans x14
 have g16:=(hce 16).trans x16
 have g15:=(hce 15).trans x15
 clear hce hs hd x0 x1 x2 x3 x9 x11 x12 x13 x14 x16 x15
 subst hcc
 conv=>arg 2; whnf
 simp only [lit137,g0,g1,g2,g3,g9,g11,g12,g13,g14,g16,g15]
 clear g0 g1 g2 g3 g9 g11 g12 g13 g14 g16 g15
 have HK:Hid _:=hK
 clear hK
 go_wp2
 exact HK.out _ rfl rfl rfl rfl rfl rfl rfl rfl rfl rfl rfl rfl rfl 
set_option maxRecDepth 100000 in
set_option maxHeartbeats 1600000 in
theorem mp_20 {R:List Vr} {B:Nat} {r:Vr} (hs:a.tmps.size=137) (hd:a.defers=[]) (x0:a.eval (.tmp 0)=.int .i64 nv) (x1:a.eval (.tmp 1)=.slice la ll lc) (x2:a.eval (.tmp 2)=.int .i64 lo) (x3:a.eval (.tmp 3)=.int .i64 hi) (x9:a.eval (.tmp 9)=.pointer (some ⟨p,0,none⟩)) (x11:a.eval (.tmp 11)=.pointer (some ⟨tb,0,none⟩)) (x12:a.eval (.tmp 12)=.slice aa R.length ac) (x13:a.eval (.tmp 13)=.int .i64 i) (x15:a.eval (.tmp 15)=.pointer (some ⟨nb,0,none⟩))
  (c0:x.cell? ⟨nb,0,none⟩=some (.int .i64 (rootO r.o))) (hrv:r.v=.slice va vl vc) (c1:x.cell? ⟨nb,1,none⟩=some (.slice va vl vc)) (hR:Rw B x (.slice aa R.length ac) R) (hl:R.length≤1000) (hB:B≤x.heap.size)
  (hK:∀ a' y v,a'.tmps.size=137→a'.defers=[]→a'.eval (.tmp 0)=.int .i64 nv→a'.eval (.tmp 1)=.slice la ll lc→a'.eval (.tmp 2)=.int .i64 lo→a'.eval (.tmp 3)=.int .i64 hi→a'.eval (.tmp 9)=.pointer (some ⟨p,0,none⟩)→a'.eval (.tmp 11)=.pointer (some ⟨tb,0,none⟩)→a'.eval (.tmp 12)=v→a'.eval (.tmp 13)=.int .i64 i→Rw B y v (R ++ [r])→Turned (Value.slice aa R.length ac).ownBlock.toList x y→(v.ownBlock=(Value.slice aa R.length ac).ownBlock∨v.ownBlock=some (x.heap.size+1))→K a' y):(atc Tryz.f3.body [1,1,1,1,1,1,1,0,1,0,0,1,0,0,1,1,1,1,1]).wp Tryz.prog (Exit.then K Q) a x:=by
 obtain ⟨cc,hcc,hce⟩:=expand137 hs hd
 have g0:=(hce 0).trans x0
 have g1:=(hce 1).trans x1
 have g2:=(hce 2).trans x2
 have g3:=(hce 3).trans x3
 have g9:=(hce 9).trans x9
 have g11:=(hce 11).trans x11
 have g12:=(hce 12).trans x12
 have g13:=(hce 13).trans x13
 have g15:=(hce 15).trans x15
 clear hce hs hd x0 x1 x2 x3 x9 x11 x12 x13 x15
 subst hcc
 conv=>arg 2; whnf
 simp only [lit137,g0,g1,g2,g3,g9,g11,g12,g13,g15]
 clear g0 g1 g2 g3 g9 g11 g12 g13 g15
 have HV:Hid _:=And.intro hR (And.intro hl hB)
 obtain ⟨ro,rv⟩:=r
 simp only at hrv c0
 subst hrv
 clear hR hl hB
 have HK:Hid _:=hK
 clear hK
 go_wp2_with (at_builtin; go_loud (refine wpList_apVr (v:=.slice aa R.length ac) (R:=R) (r:=⟨ro,.slice va vl vc⟩) (g:=x.heap.size) (B:=B) rfl _ _ rfl rfl (HV.out.1.still ((Turned.refl [] _).alloc _)) rfl (blk_new _ _) rfl (by have:=HV.out.2.1; omega) (by have:=HV.out.2.2; simp; omega) ?_; intro v' w11 hsr ht11 hor; have HSR:Hid _:=hsr; have HT11:Hid _:=ht11; have hor2:v'.ownBlock=(Value.slice aa R.length ac).ownBlock∨v'.ownBlock=some (x.heap.size+1):=(by simpa using hor); have HOR:Hid _:=hor2; clear hsr ht11 hor hor2))
 exact HK.out _ _ _ rfl rfl rfl rfl rfl rfl rfl rfl rfl rfl HSR.out ((((Turned.refl [] _).alloc _).mono (by simp)).trans HT11.out) HOR.out
set_option maxRecDepth 100000 in
set_option maxHeartbeats 1600000 in
theorem mp_21 (hs:a.tmps.size=137) (hd:a.defers=[]) (x0:a.eval (.tmp 0)=.int .i64 nv) (x1:a.eval (.tmp 1)=.slice la ll lc) (x2:a.eval (.tmp 2)=.int .i64 lo) (x3:a.eval (.tmp 3)=.int .i64 hi) (x9:a.eval (.tmp 9)=.pointer (some ⟨p,0,none⟩)) (x11:a.eval (.tmp 11)=.pointer (some ⟨tb,0,none⟩)) (x12:a.eval (.tmp 12)=.slice aa al ac)
  
  (hK:∀ a',a'.tmps.size=137→a'.defers=[]→a'.eval (.tmp 0)=.int .i64 nv→a'.eval (.tmp 1)=.slice la ll lc→a'.eval (.tmp 2)=.int .i64 lo→a'.eval (.tmp 3)=.int .i64 hi→a'.eval (.tmp 9)=.pointer (some ⟨p,0,none⟩)→a'.eval (.tmp 11)=.pointer (some ⟨tb,0,none⟩)→a'.eval (.tmp 12)=.slice aa al ac→a'.eval (.tmp 18)=.int .i64 0→ K a' x):(atc Tryz.f3.body [1,1,1,1,1,1,1,1,0,0]).wp Tryz.prog (Exit.then K Q) a x:=by
 obtain ⟨cc,hcc,hce⟩:=expand137 hs hd
 have g0:=(hce 0).trans x0
 have g1:=(hce 1).trans x1
 have g2:=(hce 2).trans x2
 have g3:=(hce 3).trans x3
 have g9:=(hce 9).trans x9
 have g11:=(hce 11).trans x11
 have g12:=(hce 12).trans x12
 clear hce hs hd x0 x1 x2 x3 x9 x11 x12
 subst hcc
 conv=>arg 2; whnf
 simp only [lit137,g0,g1,g2,g3,g9,g11,g12]
 clear g0 g1 g2 g3 g9 g11 g12
 have HK:Hid _:=hK
 clear hK
 go_wp2
 exact HK.out _ rfl rfl rfl rfl rfl rfl rfl rfl rfl rfl 
set_option maxRecDepth 100000 in
set_option maxHeartbeats 1600000 in
theorem mp_22in (hs:a.tmps.size=137) (hd:a.defers=[]) (x0:a.eval (.tmp 0)=.int .i64 nv) (x1:a.eval (.tmp 1)=.slice la ll lc) (x2:a.eval (.tmp 2)=.int .i64 lo) (x3:a.eval (.tmp 3)=.int .i64 hi) (x9:a.eval (.tmp 9)=.pointer (some ⟨p,0,none⟩)) (x11:a.eval (.tmp 11)=.pointer (some ⟨tb,0,none⟩)) (x12:a.eval (.tmp 12)=.slice aa al ac) (x18:a.eval (.tmp 18)=.int .i64 i)
  (hi2:(i:Int) < al)
  (hK:∀ a',a'.tmps.size=137→a'.defers=[]→a'.eval (.tmp 0)=.int .i64 nv→a'.eval (.tmp 1)=.slice la ll lc→a'.eval (.tmp 2)=.int .i64 lo→a'.eval (.tmp 3)=.int .i64 hi→a'.eval (.tmp 9)=.pointer (some ⟨p,0,none⟩)→a'.eval (.tmp 11)=.pointer (some ⟨tb,0,none⟩)→a'.eval (.tmp 12)=.slice aa al ac→a'.eval (.tmp 18)=.int .i64 i→ K a' x):(atc Tryz.f3.body [1,1,1,1,1,1,1,1,0,1,0,0,0]).wp Tryz.prog (Exit.then K Q) a x:=by
 obtain ⟨cc,hcc,hce⟩:=expand137 hs hd
 have g0:=(hce 0).trans x0
 have g1:=(hce 1).trans x1
 have g2:=(hce 2).trans x2
 have g3:=(hce 3).trans x3
 have g9:=(hce 9).trans x9
 have g11:=(hce 11).trans x11
 have g12:=(hce 12).trans x12
 have g18:=(hce 18).trans x18
 clear hce hs hd x0 x1 x2 x3 x9 x11 x12 x18
 subst hcc
 conv=>arg 2; whnf
 simp only [lit137,g0,g1,g2,g3,g9,g11,g12,g18]
 clear g0 g1 g2 g3 g9 g11 g12 g18
 have HK:Hid _:=hK
 clear hK
 go_wp2
 exact HK.out _ rfl rfl rfl rfl rfl rfl rfl rfl rfl rfl 
set_option maxRecDepth 100000 in
set_option maxHeartbeats 1600000 in
theorem mp_22out (hs:a.tmps.size=137) (hd:a.defers=[]) (x0:a.eval (.tmp 0)=.int .i64 nv) (x1:a.eval (.tmp 1)=.slice la ll lc) (x2:a.eval (.tmp 2)=.int .i64 lo) (x3:a.eval (.tmp 3)=.int .i64 hi) (x9:a.eval (.tmp 9)=.pointer (some ⟨p,0,none⟩)) (x11:a.eval (.tmp 11)=.pointer (some ⟨tb,0,none⟩)) (x12:a.eval (.tmp 12)=.slice aa al ac) (x18:a.eval (.tmp 18)=.int .i64 i)
  (hi2:¬ (i:Int) < al)
  (hQ:∀ a',a'.tmps.size=137→a'.defers=[]→a'.eval (.tmp 0)=.int .i64 nv→a'.eval (.tmp 1)=.slice la ll lc→a'.eval (.tmp 2)=.int .i64 lo→a'.eval (.tmp 3)=.int .i64 hi→a'.eval (.tmp 9)=.pointer (some ⟨p,0,none⟩)→a'.eval (.tmp 11)=.pointer (some ⟨tb,0,none⟩)→a'.eval (.tmp 12)=.slice aa al ac→ Q (.exit 2) a' x):(atc Tryz.f3.body [1,1,1,1,1,1,1,1,0,1,0,0,0]).wp Tryz.prog (Exit.then K Q) a x:=by
 obtain ⟨cc,hcc,hce⟩:=expand137 hs hd
 have g0:=(hce 0).trans x0
 have g1:=(hce 1).trans x1
 have g2:=(hce 2).trans x2
 have g3:=(hce 3).trans x3
 have g9:=(hce 9).trans x9
 have g11:=(hce 11).trans x11
 have g12:=(hce 12).trans x12
 have g18:=(hce 18).trans x18
 clear hce hs hd x0 x1 x2 x3 x9 x11 x12 x18
 subst hcc
 conv=>arg 2; whnf
 simp only [lit137,g0,g1,g2,g3,g9,g11,g12,g18]
 clear g0 g1 g2 g3 g9 g11 g12 g18
 have HK:Hid _:=hQ
 clear hQ
 go_wp2
 exact HK.out _ rfl rfl rfl rfl rfl rfl rfl rfl rfl 
set_option maxRecDepth 100000 in
set_option maxHeartbeats 1600000 in
theorem mp_24 (hs:a.tmps.size=137) (hd:a.defers=[]) (x0:a.eval (.tmp 0)=.int .i64 nv) (x1:a.eval (.tmp 1)=.slice la ll lc) (x2:a.eval (.tmp 2)=.int .i64 lo) (x3:a.eval (.tmp 3)=.int .i64 hi) (x9:a.eval (.tmp 9)=.pointer (some ⟨p,0,none⟩)) (x11:a.eval (.tmp 11)=.pointer (some ⟨tb,0,none⟩)) (x12:a.eval (.tmp 12)=.slice (some ⟨ag,0,none⟩) al ac) (x18:a.eval (.tmp 18)=.int .i64 i)
  (hi2:(i:Int) < al) (c0:x.cell? ⟨ag,i * 2,none⟩=some (.int .i64 rt)) (c1:x.cell? ⟨ag,i * 2+1,none⟩=some (.slice va vl vc)) {PP:World→Prop} (HP:Calls Tryz.prog 11 #[pt tb,.agg #[.int .i64 rt,.slice va vl vc],.int .i64 lo,.int .i64 hi] x fun e x'=>e=.returned (.bool true)∧PP x')
  (hK:∀ a' y,a'.tmps.size=137→a'.defers=[]→a'.eval (.tmp 0)=.int .i64 nv→a'.eval (.tmp 1)=.slice la ll lc→a'.eval (.tmp 2)=.int .i64 lo→a'.eval (.tmp 3)=.int .i64 hi→a'.eval (.tmp 9)=.pointer (some ⟨p,0,none⟩)→a'.eval (.tmp 11)=.pointer (some ⟨tb,0,none⟩)→a'.eval (.tmp 12)=.slice (some ⟨ag,0,none⟩) al ac→a'.eval (.tmp 18)=.int .i64 i→PP y→K a' y):(atc Tryz.f3.body [1,1,1,1,1,1,1,1,0,1,0,0,1,0,0]).wp Tryz.prog (Exit.then K Q) a x:=by
 obtain ⟨cc,hcc,hce⟩:=expand137 hs hd
 have g0:=(hce 0).trans x0
 have g1:=(hce 1).trans x1
 have g2:=(hce 2).trans x2
 have g3:=(hce 3).trans x3
 have g9:=(hce 9).trans x9
 have g11:=(hce 11).trans x11
 have g12:=(hce 12).trans x12
 have g18:=(hce 18).trans x18
 clear hce hs hd x0 x1 x2 x3 x9 x11 x12 x18
 subst hcc
 conv=>arg 2; whnf
 simp only [lit137,g0,g1,g2,g3,g9,g11,g12,g18]
 clear g0 g1 g2 g3 g9 g11 g12 g18
 have HK:Hid _:=hK
 clear hK
 go_wp2_with (go_at_call 11; refine HP.mono ?_; rintro e w1 ⟨rfl,hp⟩; have HPP:Hid _:=hp; clear hp HP)
 exact HK.out _ _ rfl rfl rfl rfl rfl rfl rfl rfl rfl rfl HPP.out
set_option maxRecDepth 100000 in
set_option maxHeartbeats 1600000 in
theorem mp_23 (hs:a.tmps.size=137) (hd:a.defers=[]) (x0:a.eval (.tmp 0)=.int .i64 nv) (x1:a.eval (.tmp 1)=.slice la ll lc) (x2:a.eval (.tmp 2)=.int .i64 lo) (x3:a.eval (.tmp 3)=.int .i64 hi) (x9:a.eval (.tmp 9)=.pointer (some ⟨p,0,none⟩)) (x11:a.eval (.tmp 11)=.pointer (some ⟨tb,0,none⟩)) (x12:a.eval (.tmp 12)=.slice aa al ac) (x18:a.eval (.tmp 18)=.int .i64 i)
  (hi2:i≤1000)
  (hK:∀ a',a'.tmps.size=137→a'.defers=[]→a'.eval (.tmp 0)=.int .i64 nv→a'.eval (.tmp 1)=.slice la ll lc→a'.eval (.tmp 2)=.int .i64 lo→a'.eval (.tmp 3)=.int .i64 hi→a'.eval (.tmp 9)=.pointer (some ⟨p,0,none⟩)→a'.eval (.tmp 11)=.pointer (some ⟨tb,0,none⟩)→a'.eval (.tmp 12)=.slice aa al ac→a'.eval (.tmp 18)=.int .i64 ((i+1:Nat):Int)→ K a' x):(atc Tryz.f3.body [1,1,1,1,1,1,1,1,0,1,0,0,1,1]).wp Tryz.prog (Exit.then K Q) a x:=by
 obtain ⟨cc,hcc,hce⟩:=expand137 hs hd
 have g0:=(hce 0).trans x0
 have g1:=(hce 1).trans x1
 have g2:=(hce 2).trans x2
 have g3:=(hce 3).trans x3
 have g9:=(hce 9).trans x9
 have g11:=(hce 11).trans x11
 have g12:=(hce 12).trans x12
 have g18:=(hce 18).trans x18
 clear hce hs hd x0 x1 x2 x3 x9 x11 x12 x18
 subst hcc
 conv=>arg 2; whnf
 simp only [lit137,g0,g1,g2,g3,g9,g11,g12,g18]
 clear g0 g1 g2 g3 g9 g11 g12 g18
 have HK:Hid _:=hK
 clear hK
 go_wp2
 exact HK.out _ rfl rfl rfl rfl rfl rfl rfl rfl rfl rfl 
set_option maxRecDepth 100000 in
set_option maxHeartbeats 1600000 in
theorem mp_26 (hs:a.tmps.size=137) (hd:a.defers=[]) (x0:a.eval (.tmp 0)=.int .i64 nv) (x1:a.eval (.tmp 1)=.slice la ll lc) (x2:a.eval (.tmp 2)=.int .i64 lo) (x3:a.eval (.tmp 3)=.int .i64 hi) (x9:a.eval (.tmp 9)=.pointer (some ⟨p,0,none⟩)) (x11:a.eval (.tmp 11)=.pointer (some ⟨tb,0,none⟩)) (x12:a.eval (.tmp 12)=.slice aa al ac)
  {PP:World→Prop} (HP:Calls Tryz.prog 12 #[pt p] x fun e x'=>e=.returned (.int .i64 0)∧PP x')
  (hQ:∀ a' y,a'.tmps.size=137→a'.defers=[]→a'.eval (.tmp 8)=.bool true→PP y→Q (.ret) a' y):(atc Tryz.f3.body [1,1,1,1,1,1,1,1,1]).wp Tryz.prog (Exit.then K Q) a x:=by
 obtain ⟨cc,hcc,hce⟩:=expand137 hs hd
 have g0:=(hce 0).trans x0
 have g1:=(hce 1).trans x1
 have g2:=(hce 2).trans x2
 have g3:=(hce 3).trans x3
 have g9:=(hce 9).trans x9
 have g11:=(hce 11).trans x11
 have g12:=(hce 12).trans x12
 clear hce hs hd x0 x1 x2 x3 x9 x11 x12
 subst hcc
 conv=>arg 2; whnf
 simp only [lit137,g0,g1,g2,g3,g9,g11,g12]
 clear g0 g1 g2 g3 g9 g11 g12
 have HK:Hid _:=hQ
 clear hQ
 go_wp2_with (go_at_call 12; refine HP.mono ?_; rintro e w1 ⟨rfl,hp⟩; have HPP:Hid _:=hp; clear hp HP)
 exact HK.out _ _ rfl rfl rfl HPP.out
end
end Go.Proofs.YtloljphbdfjgdaaGreatDoor
/- TrieMaps: its loops. (Written by tools/gen/genmap3.py.) -/
namespace Go.Proofs.YtloljphbdfjgdaaGreatDoor
open Go.RowKit
section
variable {W x:World} {p tb m it:Nat} {vs:List Vr} {q q':Vr}
theorem MV.of {F:List Nat} {s:PSt} {St:List Nat} {it0:Nat} {x':World} (h:MVx W x p tb m it vs F s St it0) (ht:Turned F x x') (hA:AtZ x' p F s):MV W x' p tb m it vs :=
 ⟨F,s,St,it0,⟨hA,h.tb_.keep ht h.ntb h.at_.2,h.ntb,h.pv,h.it_,h.holds,fun r hr=>(h.rows r hr).keep ht ((h.rows r hr).offPool h.at_),h.lens,h.faults,h.tw.inner ht (fun z hz=>.inr (h.low z hz)),h.low⟩⟩
theorem mShares {gv mv:Value} {gone made:List Int} (h:MV W x p tb m it vs) (hm:m≤1000) (hq:q∈vs) (hq':q'∈vs) (hg:IR 0 x gv gone) (hmd:IR 0 x mv made) (hX:Shr (hsx q.o) (hsx q'.o) gone made) (hl3:made.length≤34) (r old:Int) (had:Bool) :
  Calls Tryz.prog 10 #[pt tb,.int .i64 (rootO q.o),.int .i64 (rootO q'.o),.agg #[.int .i64 r,.int .i64 old,.bool had,gv,mv]] x fun e x'=>e=.returned (.bool true)∧KeepT x x'∧MV W x' p tb m it vs:=by
 obtain ⟨F,s,St,it0,h⟩:=h.ex
 have c1:=Holds.count q.o
 have c2:=Holds.count q'.o
 have l1:=h.lens q hq
 have l2:=h.lens q' hq'
 have l3:=erL_len gone (hsx q.o) hX.x1 hX.g1 hX.g2
 refine (cShares h.at_ h.pv.ok h.tb_ h.ntb (h.holds q hq) (h.holds q' hq') hg hmd hX (by omega) (by omega) (by omega) (by omega) r old had).mono ?_
 rintro e x' ⟨rfl,ht,hA⟩
 exact ⟨rfl,keepT_pool h.at_ ht,MV.of h ht hA⟩
theorem mTells (h:MV W x p tb m it vs) (hm:m≤1000) (hq:q∈vs) (lo hi:Int) :
  Calls Tryz.prog 11 #[pt tb,.agg #[.int .i64 (rootO q.o),q.v],.int .i64 lo,.int .i64 hi] x fun e x'=>e=.returned (.bool true)∧KeepT x x'∧MV W x' p tb m it vs:=by
 obtain ⟨F,s,St,it0,h⟩:=h.ex
 have l1:=h.lens q hq
 refine (cTellsA poolLawsZ trieLaws h.at_ h.tb_ h.ntb h.pv.ok (h.holds q hq) (h.rows q hq) ((h.rows q hq).offPool h.at_) (by omega) lo hi).mono ?_
 rintro e x' ⟨rfl,ht,hA⟩
 exact ⟨rfl,keepT_pool h.at_ ht,MV.of h ht hA⟩
theorem mFaults (h:MV W x p tb m it vs) :
  Calls Tryz.prog 12 #[pt p] x fun e x'=>e=.returned (.int .i64 0)∧MV W x' p tb m it vs:=by
 obtain ⟨F,s,St,it0,h⟩:=h.ex
 refine (poolLawsZ.faults h.at_).mono ?_
 rintro e x' ⟨rfl,ht,hA⟩
 exact ⟨by rw [h.faults],MV.of h ht hA⟩
end
structure MpF (nv lo hi:Int) (la:Option Addr) (ll lc p tb:Nat) (av:Value) (a:Act):Prop where
 hs:a.tmps.size=137
 hd:a.defers=[]
 x0:a.eval (.tmp 0)=.int .i64 nv
 x1:a.eval (.tmp 1)=.slice la ll lc
 x2:a.eval (.tmp 2)=.int .i64 lo
 x3:a.eval (.tmp 3)=.int .i64 hi
 x9:a.eval (.tmp 9)=.pointer (some ⟨p,0,none⟩)
 x11:a.eval (.tmp 11)=.pointer (some ⟨tb,0,none⟩)
 x12:a.eval (.tmp 12)=av
structure ML (W y:World) (p tb i:Nat) (av:Value) (vs:List Vr):Prop where
 mv:MV W y p tb i (200 * i) vs
 rw_:Rw W.heap.size y av vs
 pos:0 < vs.length
 le:vs.length≤i+1
theorem ML.write {W y y':World} {p tb i b:Nat} {av:Value} {vs:List Vr} {cs:Array Value} (h:ML W y p tb i av vs) (hb:y.heap[b]?=some (.cells cs 40 (0,0))) (hp:0 < W.heap.size) (hw:W.heap.size≤b) (ht:Turned [b] y y'):ML W y' p tb i av vs :=
 ⟨h.mv.write hb (by decide) (by decide) (by decide) hp hw ht,h.rw_.beside hb (by decide) ht,h.pos,h.le⟩
section
variable {W x:World} {p tb ll lc i:Nat} {la:Option Addr} {nv lo hi:Int} {av:Value} {vs:List Vr} {a:Act} {K:Act→World→Prop} {Q:Exit→Act→World→Prop}
set_option maxHeartbeats 1600000 in
theorem mp_round (hp:0 < W.heap.size) (hl:ll≤120) (hS:ChgsAt W la ll) (hi2:i < ll) (f:MpF nv lo hi la ll lc p tb av a) (x13:a.eval (.tmp 13)=.int .i64 i) (h:ML W x p tb i av vs)
  (hK:∀ a' y av' vs',MpF nv lo hi la ll lc p tb av' a'→a'.eval (.tmp 13)=.int .i64 i→ML W y p tb (i+1) av' vs'→K a' y):(atc Tryz.f3.body [1,1,1,1,1,1,1,0,1,0,0,1,0]).wp Tryz.prog (Exit.then K Q) a x:=by
 obtain ⟨qb,qo,cf,ky,vy,cd,rfl,d0,d1,d2,d3⟩:=hS.at_ i hi2
 have tw:=h.mv.turned
 have hsz:=tw.size
 obtain ⟨z0,z1,z2,z3⟩:=turn_ok (by_:=cf) h.pos
 obtain ⟨ag,ac,rfl,c0,c1⟩:=h.rw_.isAt z3
 obtain ⟨q,hqe⟩:∃ q,q=vs[turnC cf vs.length]:=⟨_,rfl⟩
 have hq:q∈vs:=by rw [hqe]; exact List.getElem_mem _
 rw [← hqe] at c0 c1
 obtain ⟨va,vc,hva⟩:=(h.mv.row hq).isSl
 rw [hva] at c1
 have hle:=h.le
 refine wp_block ?_
 refine wp_seq (mp_13 f.hs f.hd f.x0 f.x1 f.x2 f.x3 f.x9 f.x11 f.x12 x13 (by omega) (tw.cell d0 (by simp)) (by omega) rfl z0 z1 z2 (by omega) c0 c1 ?_)
 clear f x13
 intro a1 y1 hs hd x0 x1 x2 x3 x9 x11 x12 x13 x14 ht1 hb1
 have h1:ML W y1 p tb i _ vs:=⟨h.mv.still ht1,h.rw_.still ht1,h.pos,h.le⟩
 have hs1:=ht1.size
 refine wp_seq (mp_r14 (p:=p) (tb:=tb) (vb:=x.heap.size) (qb:=qb) (qo:=qo) (ll:=ll) (lc:=lc) (i:=i) (rt:=rootO q.o) (cf:=cf) (ky:=ky) (vy:=vy) (cd:=cd) (lv:=q.v)
  (C:=fun z=>z.heap[x.heap.size]?=some (verObj (rootO q.o) q.v)∧Turned [] W z)
  (P0:=fun z=>(z.heap[x.heap.size]?=some (verObj (rootO q.o) q.v)∧Turned [] W z)∧ML W z p tb i (.slice (some ⟨ag,0,none⟩) vs.length ac) vs∧y1.heap.size≤z.heap.size)
  (P1:=fun d z=>(z.heap[x.heap.size]?=some (verObj (rootO q.o) q.v)∧Turned [] W z)∧Rw W.heap.size z (.slice (some ⟨ag,0,none⟩) vs.length ac) vs∧y1.heap.size≤z.heap.size∧∃ x0,CP W x0 p tb i (200 * i+200) vs q (chgL (prs q.o) ky vy cd) d z)
  hs x9 x11 x14 x1 x13 ⟨va,_,vc,hva⟩ hi2 (fun z hz=>hz.1) (fun d z hz=>hz.1) ?cells ?start ?still0 ?still1 ?write1 (fun z hz=>hz.2.2) (fun d z hz=>hz.2.2.1) ?call ?fin)
 case cells =>
  rintro z ⟨hb,hw⟩
  exact ⟨⟨cell_at hb 0,cell_at hb 1⟩,hw.cell d0 (by simp),hw.cell d1 (by simp),hw.cell d2 (by simp),hw.cell d3 (by simp)⟩
 case start =>
  have td:Turned [] y1 y1.drew:=(Turned.refl [] _).drew
  rw [← hva] at hb1
  exact ⟨⟨td.heap hb1 (by simp),h1.mv.turned.trans td⟩,⟨h1.mv.still td,h1.rw_.still td,h1.pos,h1.le⟩,td.size⟩
 case still0 =>
  rintro z z' ⟨⟨g1,g2⟩,g3,g4⟩ ht
  exact ⟨⟨ht.heap g1 (by simp),g2.trans ht⟩,⟨g3.mv.still ht,g3.rw_.still ht,g3.pos,g3.le⟩,Nat.le_trans g4 ht.size⟩
 case still1 =>
  rintro d z z' ⟨⟨g1,g2⟩,g3,g4,x0,g5⟩ ht
  exact ⟨⟨ht.heap g1 (by simp),g2.trans ht⟩,g3.still ht,Nat.le_trans g4 ht.size,x0,g5.still ht⟩
 case write1 =>
  rintro d z z' eb ⟨⟨g1,g2⟩,g3,g4,x0,g5⟩ hb hle ht
  have hw:W.heap.size≤eb:=by omega
  exact ⟨⟨ht.heap g1 (by simp; exact other_type g1 hb (by decide)),g2.inner ht (fun g hg=>by simp at hg; subst hg; exact .inr hw)⟩,g3.beside hb (by decide) ht,Nat.le_trans g4 ht.size,x0,g5.write hb hp hw ht⟩
 case call =>
  rintro z ⟨⟨g1,g2⟩,g3,g4⟩
  refine (mChanged g3.mv (by omega) (by omega) hq cf ky vy cd).mono ?_
  rintro e z' ⟨d,rfl,hkp,hcp⟩
  have htw:Turned [] W z':=by
   cases hcp with
   | not _ h2=>exact h2.turned
   | done _ _ _ _ _ _ _ h4=>exact h4.turned
  exact ⟨d,rfl,hkp,⟨hkp.blk _ _ _ (by decide) g1,htw⟩,g3.rw_.keptT hkp,Nat.le_trans g4 hkp.size,z,hcp⟩
 case fin =>
  rintro a2 y2 eb d hs' hd' hoff x16 x15 x17 ⟨⟨g1,g2⟩,g3,g4,x0',g5⟩ he hbn
  have f2:MpF nv lo hi (some ⟨qb,qo,none⟩) ll lc p tb (.slice (some ⟨ag,0,none⟩) vs.length ac) a2:=⟨hs'.trans hs,hd'.trans hd,(hoff 0 (by decide)).trans x0,(hoff 1 (by decide)).trans x1,(hoff 2 (by decide)).trans x2,(hoff 3 (by decide)).trans x3,(hoff 9 (by decide)).trans x9,(hoff 11 (by decide)).trans x11,(hoff 12 (by decide)).trans x12⟩
  have y13:=(hoff 13 (by decide)).trans x13
  have y14:=(hoff 14 (by decide)).trans x14
  clear hs hd x0 x1 x2 x3 x9 x11 x12 x13 x14 hoff hs' hd'
  refine wp_seq (mp_15 f2.hs f2.hd f2.x0 f2.x1 f2.x2 f2.x3 f2.x9 f2.x11 f2.x12 y13 y14 x16 x15 x17 ?_)
  clear f2 y13 y14 x16 x15 x17
  intro a3 hs hd x0 x1 x2 x3 x9 x11 x12 x13 x14 x16 x15
  have hw2:W.heap.size≤y2.heap.size:=g2.size
  cases g5 with
  | not e1 h2 =>
   rw [e1] at x15
   refine wp_seq (mp_17nil hs hd x0 x1 x2 x3 x9 x11 x12 x13 x14 x16 x15 ?_)
   clear hs hd x0 x1 x2 x3 x9 x11 x12 x13 x14 x16 x15
   intro a4 hs hd x0 x1 x2 x3 x9 x11 x12 x13
   exact hK a4 y2 _ vs ⟨hs,hd,x0,x1,x2,x3,x9,x11,x12⟩ x13 ⟨h2.more (by omega) (by omega),g3,h.pos,by omega⟩
  | done nb q' gone made e1 hnb _ h4 hprs egl eml hg hm hX hl34 hl2 =>
   rw [e1] at x15
   refine wp_seq (mp_17ok hs hd x0 x1 x2 x3 x9 x11 x12 x13 x14 x16 (show _=Value.pointer (some ⟨nb,0,none⟩) from x15) ?_)
   clear hs hd x0 x1 x2 x3 x9 x11 x12 x13 x14 x16 x15
   intro a4 hs hd x0 x1 x2 x3 x9 x11 x12 x13 x14 x16 x15
   have hq2:q∈vs ++ [q']:=by simp [hq]
   have hq3:q'∈vs ++ [q']:=by simp
   have hgl:gone.length≤10000:=by
    have l3:=erL_len gone (hsx q.o) hX.x1 hX.g1 hX.g2
    have c1:=Holds.count q.o
    have:=h4.len hq2
    omega
   refine wp_seq ?_
   refine wp_seq (mp_r18 (tb:=tb) (vb:=x.heap.size) (nb:=nb) (eb:=eb) (gl:=d.gl) (gc:=d.gc) (ml:=d.ml) (mc:=d.mc) (ga:=d.ga) (ma:=d.ma) (rt:=rootO q.o) (rt2:=rootO q'.o) (root:=d.root) (old:=d.old) (had:=d.had)
    (P0:=fun z=>z.heap[x.heap.size]?=some (verObj (rootO q.o) q.v)∧z.heap[nb]?=some (verObj (rootO q'.o) q'.v)∧z.heap[eb]?=some (editV d)∧MV W z p tb (i+1) (200 * i+200) (vs ++ [q'])∧Rw W.heap.size z (.slice (some ⟨ag,0,none⟩) vs.length ac) vs∧IR 0 z (.slice d.ga d.gl d.gc) gone∧IR 0 z (.slice d.ma d.ml d.mc) made)
    hs x11 x14 x15 x16 (by omega) (by omega) (by omega) ?start2 ?cells2 ?call2 ?fin2)
   case start2 =>
    have td:Turned [] y2 y2.drew:=(Turned.refl [] _).drew
    exact ⟨td.heap g1 (by simp),td.heap hnb (by simp),td.heap he (by simp),h4.still td,g3.still td,hg.keep td (by simp),hm.keep td (by simp)⟩
   case cells2 =>
    rintro z ⟨k1,k2,k3,-⟩
    exact ⟨cell_at k1 0,cell_at k2 0,cell_at k3 0,cell_at k3 1,cell_at k3 2,cell_at k3 3,cell_at k3 4⟩
   case call2 =>
    rintro z ⟨k1,k2,k3,k4,k5,k6,k7⟩
    refine (mShares k4 (by omega) hq2 hq3 k6 k7 hX hl34 d.root d.old d.had).mono ?_
    rintro e z' ⟨rfl,hkp,hmv⟩
    exact ⟨rfl,hkp.blk _ _ _ (by decide) k1,hkp.blk _ _ _ (by decide) k2,hkp.blk _ _ _ (by decide) k3,hmv,k5.keptT hkp,k6.keptT hkp,k7.keptT hkp⟩
   case fin2 =>
    rintro a5 y5 hs' hd' hoff x112 ⟨k1,k2,k3,k4,k5,k6,k7⟩
    have f5:MpF nv lo hi (some ⟨qb,qo,none⟩) ll lc p tb (.slice (some ⟨ag,0,none⟩) vs.length ac) a5:=⟨hs'.trans hs,hd'.trans hd,(hoff 0 (by decide)).trans x0,(hoff 1 (by decide)).trans x1,(hoff 2 (by decide)).trans x2,(hoff 3 (by decide)).trans x3,(hoff 9 (by decide)).trans x9,(hoff 11 (by decide)).trans x11,(hoff 12 (by decide)).trans x12⟩
    have y13:=(hoff 13 (by decide)).trans x13
    have y15:=(hoff 15 (by decide)).trans x15
    clear hs hd x0 x1 x2 x3 x9 x11 x12 x13 x14 x15 x16 hoff hs' hd'
    refine wp_cond_false x112 ?_
    refine wp_skip ?_
    obtain ⟨va2,vc2,hva2⟩:=(k4.row hq3).isSl
    have cc1:y5.cell? ⟨nb,1,none⟩=some q'.v:=cell_at k2 1
    rw [hva2] at cc1
    have hs5:=k4.turned.size
    refine wp_endB (mp_20 (R:=vs) (B:=W.heap.size) (r:=q') f5.hs f5.hd f5.x0 f5.x1 f5.x2 f5.x3 f5.x9 f5.x11 f5.x12 y13 y15 (cell_at k2 0) hva2 cc1 k5 (by omega) hs5 ?_)
    clear f5 y13 y15
    intro a6 y6 v hs hd x0 x1 x2 x3 x9 x11 x12 x13 hR ht hor
    have hMV:MV W y6 p tb (i+1) (200 * i+200) (vs ++ [q']):=by
     cases hvb:(Value.slice (some ⟨ag,0,none⟩) vs.length ac).ownBlock with
     | none=>rw [hvb] at ht; exact k4.still ht
     | some g =>
      rw [hvb] at ht
      obtain ⟨cs,hcs⟩:=k5.type hvb
      exact k4.write hcs (by decide) (by decide) (by decide) hp (k5.fresh hvb).1 ht
    obtain ⟨aa6,ac6,rfl⟩:=hR.form
    exact hK a6 y6 _ (vs ++ [q']) ⟨hs,hd,x0,x1,x2,x3,x9,x11,x12⟩ x13 ⟨hMV.more (by omega) (Nat.le_refl _),hR,by simp,by simp; omega⟩
theorem mp_loop1 (hp:0 < W.heap.size) (hl:ll≤120) (hS:ChgsAt W la ll) (f:MpF nv lo hi la ll lc p tb av a) (h:ML W x p tb 0 av vs)
  (hK:∀ a' y av' vs',MpF nv lo hi la ll lc p tb av' a'→ML W y p tb ll av' vs'→K a' y):(atc Tryz.f3.body [1,1,1,1,1,1,1,0]).wp Tryz.prog (Exit.then K Q) a x:=by
 obtain ⟨aa,ac,rfl⟩:=h.rw_.form
 refine wp_seq (mp_10 f.hs f.hd f.x0 f.x1 f.x2 f.x3 f.x9 f.x11 f.x12 ?_)
 clear f
 intro a1 hs hd x0 x1 x2 x3 x9 x11 x12 x13
 refine wp_block ?_
 refine wp_loop (fun a' y=>∃ i av' vs',i≤ll∧MpF nv lo hi la ll lc p tb av' a'∧a'.eval (.tmp 13)=.int .i64 (i:Nat)∧ML W y p tb i av' vs') (fun a' _=>ll - (intOf (a'.eval (.tmp 13))).toNat) ⟨0,_,vs,Nat.zero_le _,⟨hs,hd,x0,x1,x2,x3,x9,x11,x12⟩,x13,h⟩ ?_
 clear hs hd x0 x1 x2 x3 x9 x11 x12 x13 h
 rintro a2 y ⟨i,av',vs',hi2,f,x13,h⟩
 obtain ⟨aa,ac,rfl⟩:=h.rw_.form
 have hmu:(intOf (a2.eval (.tmp 13))).toNat=i:=by rw [x13]; simp [intOf]
 rw [hmu]
 by_cases hlt:i < ll
 ·refine wp_seq (mp_11in f.hs f.hd f.x0 f.x1 f.x2 f.x3 f.x9 f.x11 f.x12 x13 (by omega) ?_)
  clear f x13 hmu
  intro a3 hs hd x0 x1 x2 x3 x9 x11 x12 x13
  refine wp_seq (mp_round hp hl hS hlt ⟨hs,hd,x0,x1,x2,x3,x9,x11,x12⟩ x13 h ?_)
  clear hs hd x0 x1 x2 x3 x9 x11 x12 x13 h
  intro a4 z av2 vs2 f x13 h
  obtain ⟨aa2,ac2,rfl⟩:=h.rw_.form
  refine wp_endB (mp_12 f.hs f.hd f.x0 f.x1 f.x2 f.x3 f.x9 f.x11 f.x12 x13 (by omega) ?_)
  clear f x13
  intro a5 hs hd x0 x1 x2 x3 x9 x11 x12 x13
  refine ⟨⟨i+1,_,vs2,by omega,⟨hs,hd,x0,x1,x2,x3,x9,x11,x12⟩,x13,h⟩,?_⟩
  rw [x13]; simp only [intOf]; omega
 ·have e:i=ll:=by omega
  subst e
  refine wp_seq (mp_11out f.hs f.hd f.x0 f.x1 f.x2 f.x3 f.x9 f.x11 f.x12 x13 (by omega) ?_)
  intro a3 hs hd x0 x1 x2 x3 x9 x11 x12
  exact hK a3 y _ vs' ⟨hs,hd,x0,x1,x2,x3,x9,x11,x12⟩ h
theorem mp_loop2 (hl:ll≤120) (f:MpF nv lo hi la ll lc p tb av a) (h:ML W x p tb ll av vs)
  (hK:∀ a' y,MpF nv lo hi la ll lc p tb av a'→ML W y p tb ll av vs→K a' y):(atc Tryz.f3.body [1,1,1,1,1,1,1,1,0]).wp Tryz.prog (Exit.then K Q) a x:=by
 obtain ⟨aa,ac,rfl⟩:=h.rw_.form
 refine wp_seq (mp_21 f.hs f.hd f.x0 f.x1 f.x2 f.x3 f.x9 f.x11 f.x12 ?_)
 clear f
 intro a1 hs hd x0 x1 x2 x3 x9 x11 x12 x18
 refine wp_block ?_
 refine wp_loop (fun a' y=>∃ i,i≤vs.length∧MpF nv lo hi la ll lc p tb (.slice aa vs.length ac) a'∧a'.eval (.tmp 18)=.int .i64 (i:Nat)∧ML W y p tb ll (.slice aa vs.length ac) vs) (fun a' _=>vs.length - (intOf (a'.eval (.tmp 18))).toNat) ⟨0,Nat.zero_le _,⟨hs,hd,x0,x1,x2,x3,x9,x11,x12⟩,x18,h⟩ ?_
 clear hs hd x0 x1 x2 x3 x9 x11 x12 x18 h
 rintro a2 y ⟨i,hi2,f,x18,h⟩
 have hmu:(intOf (a2.eval (.tmp 18))).toNat=i:=by rw [x18]; simp [intOf]
 rw [hmu]
 have hle:=h.le
 by_cases hlt:i < vs.length
 ·refine wp_seq (mp_22in f.hs f.hd f.x0 f.x1 f.x2 f.x3 f.x9 f.x11 f.x12 x18 (by omega) ?_)
  clear f x18 hmu
  intro a3 hs hd x0 x1 x2 x3 x9 x11 x12 x18
  refine wp_seq (wp_block ?_)
  obtain ⟨ag,ac2,hv,c0,c1⟩:=h.rw_.isAt hlt
  cases hv
  have hq:vs[i]∈vs:=List.getElem_mem _
  obtain ⟨va,vc,hva⟩:=(h.mv.row hq).isSl
  have hT:=mTells h.mv (by omega) hq lo hi
  rw [hva] at c1 hT
  refine wp_endB (mp_24 hs hd x0 x1 x2 x3 x9 x11 x12 x18 (by omega) c0 c1 hT ?_)
  clear hs hd x0 x1 x2 x3 x9 x11 x12 x18
  rintro a4 z hs hd x0 x1 x2 x3 x9 x11 x12 x18 ⟨hkp,hmv⟩
  refine wp_endB (mp_23 hs hd x0 x1 x2 x3 x9 x11 x12 x18 (by omega) ?_)
  clear hs hd x0 x1 x2 x3 x9 x11 x12 x18
  intro a5 hs hd x0 x1 x2 x3 x9 x11 x12 x18
  refine ⟨⟨i+1,by omega,⟨hs,hd,x0,x1,x2,x3,x9,x11,x12⟩,x18,⟨hmv,h.rw_.keptT hkp,h.pos,h.le⟩⟩,?_⟩
  rw [x18]; simp only [intOf]; omega
 ·have e:i=vs.length:=by omega
  subst e
  refine wp_seq (mp_22out f.hs f.hd f.x0 f.x1 f.x2 f.x3 f.x9 f.x11 f.x12 x18 (by omega) ?_)
  intro a3 hs hd x0 x1 x2 x3 x9 x11 x12
  exact hK a3 y ⟨hs,hd,x0,x1,x2,x3,x9,x11,x12⟩ h
theorem mp_rest (hp:0 < W.heap.size) (hl:ll≤120) (hS:ChgsAt W la ll) (f:MpF nv lo hi la ll lc p tb av a) (h:ML W x p tb 0 av vs)
  (hR:∀ a' y,a'.tmps.size=137→a'.defers=[]→a'.eval (.tmp 8)=.bool true→Turned [] W y→Q .ret a' y):(atc Tryz.f3.body [1,1,1,1,1,1,1]).wp Tryz.prog Q a x:=by
 refine wp_seq (mp_loop1 hp hl hS f h ?_)
 clear f h
 intro a1 y av1 vs1 f h
 refine wp_seq (mp_loop2 hl f h ?_)
 clear f h
 intro a2 y2 f h
 obtain ⟨aa,ac,rfl⟩:=h.rw_.form
 refine wp_endB (mp_26 f.hs f.hd f.x0 f.x1 f.x2 f.x3 f.x9 f.x11 f.x12 (mFaults h.mv) ?_)
 intro a3 y3 hs hd x8 hm
 exact hR a3 y3 hs hd x8 hm.turned
end
end Go.Proofs.YtloljphbdfjgdaaGreatDoor

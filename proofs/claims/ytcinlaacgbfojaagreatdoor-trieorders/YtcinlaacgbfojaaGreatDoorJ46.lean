/- The ways through TrieOrders: its end. (Written by tools/gen/genorl.py.) -/
import Derived.Test.YtcinlaacgbfojaaGreatDoorJ44
namespace Go.Proofs.YtcinlaacgbfojaaGreatDoor
open Go.RowKit
theorem ver_snd (x:World) (A B:Obj):((x.alloc A).alloc B).drew.heap[x.heap.size+1]?=some B:=by
 have h:=blk_new (x.alloc A) B
 rw [show (x.alloc A).heap.size=x.heap.size+1 by simp] at h
 exact h
section
variable {W x:World} {p tb rb ll lc dl dc il ic kl kc i k j qb qo kb db dq nb c:Nat} {la da ia ka:Option Addr} {by_ ky vy vv er rt:Int} {t:Bool} {a:Act} {K:Act→World→Prop} {Q:Exit→Act→World→Prop}
set_option maxRecDepth 100000 in
set_option maxHeartbeats 1600000 in
theorem or_51 {s0 s1:Int} (hs:a.tmps.size=255) (hd:a.defers=[]) (x0:a.eval (.tmp 0)=.slice la ll lc) (x1:a.eval (.tmp 1)=.slice da dl dc) (x2:a.eval (.tmp 2)=.int .i64 by_) (x7:a.eval (.tmp 7)=.slice ia il ic) (x8:a.eval (.tmp 8)=.slice ka kl kc) (x12:a.eval (.tmp 12)=.pointer (some ⟨p,0,none⟩)) (x14:a.eval (.tmp 14)=.pointer (some ⟨tb,0,none⟩)) (x15:a.eval (.tmp 15)=.pointer (some ⟨rb,0,none⟩))
  (hr:x.heap[rb]?=some (.cells #[.int .i64 s0,.int .i64 s1] 37 (0,0)))
  (hK:∀ a' y b1 b2,a'.tmps.size=255→a'.defers=[]→a'.eval (.tmp 0)=.slice la ll lc→a'.eval (.tmp 1)=.slice da dl dc→a'.eval (.tmp 2)=.int .i64 by_→a'.eval (.tmp 7)=.slice ia il ic→a'.eval (.tmp 8)=.slice ka kl kc→a'.eval (.tmp 12)=.pointer (some ⟨p,0,none⟩)→a'.eval (.tmp 14)=.pointer (some ⟨tb,0,none⟩)→a'.eval (.tmp 15)=.pointer (some ⟨rb,0,none⟩)→a'.eval (.tmp 27)=.pointer (some ⟨b1,0,none⟩)→a'.eval (.tmp 28)=.pointer (some ⟨b2,0,none⟩)→Turned [] x y→y.heap[b1]?=some (.cells #[.int .i64 s0,.slice ia il ic] 46 (0,0))→y.heap[b2]?=some (.cells #[.int .i64 s1,.slice ia il ic] 46 (0,0))→K a' y):(atc Tryz.f3.body [1,1,1,1,1,1,1,1,1,1,1,1,0]).wp Tryz.prog (Exit.then K Q) a x:=by
 obtain ⟨cc,hcc,hce⟩:=expand255 hs hd
 have g0:=(hce 0).trans x0
 have g1:=(hce 1).trans x1
 have g2:=(hce 2).trans x2
 have g7:=(hce 7).trans x7
 have g8:=(hce 8).trans x8
 have g12:=(hce 12).trans x12
 have g14:=(hce 14).trans x14
 have g15:=(hce 15).trans x15
 clear hce hs hd x0 x1 x2 x7 x8 x12 x14 x15
 subst hcc
 conv=>arg 2; whnf
 simp only [lit255,g0,g1,g2,g7,g8,g12,g14,g15]
 clear g0 g1 g2 g7 g8 g12 g14 g15
 have q0:x.cell? ⟨rb,0,none⟩=some (.int .i64 s0):=cell_at hr 0
 have q1:x.cell? ⟨rb,1,none⟩=some (.int .i64 s1):=cell_at hr 1
 have lb:=lt_of_heap hr
 clear hr
 have HK:Hid _:=hK
 clear hK
 go_region
 ·exact HK.out _ _ x.heap.size (x.heap.size+1) rfl rfl rfl rfl rfl rfl rfl rfl rfl rfl rfl rfl ((((Turned.refl [] _).alloc _).alloc _).drew) (blk_old (blk_new x _) _) (ver_snd x _ _)
 ·exact HK.out _ _ (x.heap.size+1) x.heap.size rfl rfl rfl rfl rfl rfl rfl rfl rfl rfl rfl rfl ((((Turned.refl [] _).alloc _).alloc _).drew) (ver_snd x _ _) (blk_old (blk_new x _) _)
set_option maxRecDepth 100000 in
set_option maxHeartbeats 1600000 in
theorem or_52z {s0 s1:Int} {b1 b2:Nat} (hs:a.tmps.size=255) (hd:a.defers=[]) (x0:a.eval (.tmp 0)=.slice la ll lc) (x1:a.eval (.tmp 1)=.slice da dl dc) (x2:a.eval (.tmp 2)=.int .i64 by_) (x7:a.eval (.tmp 7)=.slice ia il ic) (x8:a.eval (.tmp 8)=.slice ka kl kc) (x12:a.eval (.tmp 12)=.pointer (some ⟨p,0,none⟩)) (x14:a.eval (.tmp 14)=.pointer (some ⟨tb,0,none⟩)) (x15:a.eval (.tmp 15)=.pointer (some ⟨rb,0,none⟩)) (x27:a.eval (.tmp 27)=.pointer (some ⟨b1,0,none⟩)) (x28:a.eval (.tmp 28)=.pointer (some ⟨b2,0,none⟩))
  (hil:il=0) (hb1:x.heap[b1]?=some (.cells #[.int .i64 s0,.slice ia il ic] 46 (0,0))) {P1 P2 P3 P4:World→Prop} (H1:Calls Tryz.prog 14 #[pt tb,.agg #[.int .i64 s0,.slice ia il ic],.int .i64 0,.int .i64 4294967295] x fun e x'=>e=.returned (.bool true)∧P1 x') (hb2:∀ z,P1 z→z.heap[b2]?=some (.cells #[.int .i64 s1,.slice ia il ic] 46 (0,0))) (H2:∀ z,P1 z→Calls Tryz.prog 14 #[pt tb,.agg #[.int .i64 s1,.slice ia il ic],.int .i64 0,.int .i64 4294967295] z fun e x'=>e=.returned (.bool true)∧P2 x') (H3:∀ z,P2 z→Calls Tryz.prog 15 #[pt p] z fun e x'=>e=.returned (.int .i64 0)∧P3 x') (H4:∀ z,P3 z→Calls Tryz.prog 16 #[pt p] z fun e x'=>(∃ a cc,e=.returned (.slice a 4096 cc))∧P4 x')
  (hQ:∀ a' y,a'.tmps.size=255→a'.defers=[]→a'.eval (.tmp 6)=.bool true→P4 y→Q (.ret) a' y):(atc Tryz.f3.body [1,1,1,1,1,1,1,1,1,1,1,1,1]).wp Tryz.prog (Exit.then K Q) a x:=by
 obtain ⟨cc,hcc,hce⟩:=expand255 hs hd
 have g0:=(hce 0).trans x0
 have g1:=(hce 1).trans x1
 have g2:=(hce 2).trans x2
 have g7:=(hce 7).trans x7
 have g8:=(hce 8).trans x8
 have g12:=(hce 12).trans x12
 have g14:=(hce 14).trans x14
 have g15:=(hce 15).trans x15
 have g27:=(hce 27).trans x27
 have g28:=(hce 28).trans x28
 clear hce hs hd x0 x1 x2 x7 x8 x12 x14 x15 x27 x28
 subst hcc
 conv=>arg 2; whnf
 simp only [lit255,g0,g1,g2,g7,g8,g12,g14,g15,g27,g28]
 clear g0 g1 g2 g7 g8 g12 g14 g15 g27 g28
 have v0:x.cell? ⟨b1,0,none⟩=some (.int .i64 s0):=cell_at hb1 0
 have v1:x.cell? ⟨b1,1,none⟩=some (.slice ia il ic):=cell_at hb1 1
 clear hb1
 have HB2:Hid _:=hb2
 have G2:Hid _:=H2
 have G3:Hid _:=H3
 have G4:Hid _:=H4
 clear hb2 H2 H3 H4
 subst hil
 have HK:Hid _:=hQ
 clear hQ
 go_wp2_with (first
  | (go_at_call 14; refine H1.mono ?_; rintro e w1 ⟨rfl,hp⟩; have hb:=HB2.out _ hp; have u0:w1.cell? ⟨b2,0,none⟩=some (.int .i64 s1):=cell_at hb 0; have u1:w1.cell? ⟨b2,1,none⟩=some (.slice ia 0 ic):=cell_at hb 1; have HP1:Hid _:=hp; clear hp H1 hb HB2)
  | (go_at_call 14; refine (G2.out _ HP1.out).mono ?_; rintro e w2 ⟨rfl,hp⟩; have HP2:Hid _:=hp; clear hp HP1)
  | (go_at_call 15; refine (G3.out _ HP2.out).mono ?_; rintro e w3 ⟨rfl,hp⟩; have HP3:Hid _:=hp; clear hp HP2)
  | (go_at_call 16; refine (G4.out _ HP3.out).mono ?_; rintro e w4 ⟨⟨fa,fc,rfl⟩,hp⟩; have HP4:Hid _:=hp; clear hp HP3))
 exact HK.out _ _ rfl rfl rfl HP4.out
set_option maxRecDepth 100000 in
set_option maxHeartbeats 1600000 in
theorem or_52p {s0 s1:Int} {b1 b2:Nat} (hs:a.tmps.size=255) (hd:a.defers=[]) (x0:a.eval (.tmp 0)=.slice la ll lc) (x1:a.eval (.tmp 1)=.slice da dl dc) (x2:a.eval (.tmp 2)=.int .i64 by_) (x7:a.eval (.tmp 7)=.slice ia il ic) (x8:a.eval (.tmp 8)=.slice ka kl kc) (x12:a.eval (.tmp 12)=.pointer (some ⟨p,0,none⟩)) (x14:a.eval (.tmp 14)=.pointer (some ⟨tb,0,none⟩)) (x15:a.eval (.tmp 15)=.pointer (some ⟨rb,0,none⟩)) (x27:a.eval (.tmp 27)=.pointer (some ⟨b1,0,none⟩)) (x28:a.eval (.tmp 28)=.pointer (some ⟨b2,0,none⟩))
  (hil:1≤il) (hil2:il≤200) (hb1:x.heap[b1]?=some (.cells #[.int .i64 s0,.slice ia il ic] 46 (0,0))) {P1 P2 P3 P4:World→Prop} (H1:Calls Tryz.prog 14 #[pt tb,.agg #[.int .i64 s0,.slice ia il ic],.int .i64 0,.int .i64 4294967295] x fun e x'=>e=.returned (.bool true)∧P1 x') (hb2:∀ z,P1 z→z.heap[b2]?=some (.cells #[.int .i64 s1,.slice ia il ic] 46 (0,0))) (H2:∀ z,P1 z→Calls Tryz.prog 14 #[pt tb,.agg #[.int .i64 s1,.slice ia il ic],.int .i64 0,.int .i64 4294967295] z fun e x'=>e=.returned (.bool true)∧P2 x') (H3:∀ z,P2 z→Calls Tryz.prog 15 #[pt p] z fun e x'=>e=.returned (.int .i64 0)∧P3 x') (H4:∀ z,P3 z→Calls Tryz.prog 16 #[pt p] z fun e x'=>(∃ a cc,e=.returned (.slice a (4096 - 2 * (2 * il - 1)) cc))∧P4 x')
  (hQ:∀ a' y,a'.tmps.size=255→a'.defers=[]→a'.eval (.tmp 6)=.bool true→P4 y→Q (.ret) a' y):(atc Tryz.f3.body [1,1,1,1,1,1,1,1,1,1,1,1,1]).wp Tryz.prog (Exit.then K Q) a x:=by
 obtain ⟨cc,hcc,hce⟩:=expand255 hs hd
 have g0:=(hce 0).trans x0
 have g1:=(hce 1).trans x1
 have g2:=(hce 2).trans x2
 have g7:=(hce 7).trans x7
 have g8:=(hce 8).trans x8
 have g12:=(hce 12).trans x12
 have g14:=(hce 14).trans x14
 have g15:=(hce 15).trans x15
 have g27:=(hce 27).trans x27
 have g28:=(hce 28).trans x28
 clear hce hs hd x0 x1 x2 x7 x8 x12 x14 x15 x27 x28
 subst hcc
 conv=>arg 2; whnf
 simp only [lit255,g0,g1,g2,g7,g8,g12,g14,g15,g27,g28]
 clear g0 g1 g2 g7 g8 g12 g14 g15 g27 g28
 have v0:x.cell? ⟨b1,0,none⟩=some (.int .i64 s0):=cell_at hb1 0
 have v1:x.cell? ⟨b1,1,none⟩=some (.slice ia il ic):=cell_at hb1 1
 clear hb1
 have HB2:Hid _:=hb2
 have G2:Hid _:=H2
 have G3:Hid _:=H3
 have G4:Hid _:=H4
 clear hb2 H2 H3 H4
 obtain ⟨m,hm⟩:∃ m:Nat,m=4096 - 2 * (2 * il - 1):=⟨_,rfl⟩
 rw [← hm] at G4
 have hm1:4096 - 2 * (2 * (il:Int) - 1)=(m:Int):=by omega
 have hm2:¬ 2 * (il:Int) - 1≤0:=by omega
 have hm3:(0:Int)≤2 * (il:Int) - 1:=by omega
 have hm4:max (0:Int) (2 * (il:Int) - 1)=2 * (il:Int) - 1:=by omega
 have hm5:(0:Int) < 2 * (il:Int) - 1:=by omega
 clear hm
 have HK:Hid _:=hQ
 clear hQ
 go_wp2_with (first
  | (go_at_call 14; refine H1.mono ?_; rintro e w1 ⟨rfl,hp⟩; have hb:=HB2.out _ hp; have u0:w1.cell? ⟨b2,0,none⟩=some (.int .i64 s1):=cell_at hb 0; have u1:w1.cell? ⟨b2,1,none⟩=some (.slice ia il ic):=cell_at hb 1; have HP1:Hid _:=hp; clear hp H1 hb HB2)
  | (go_at_call 14; refine (G2.out _ HP1.out).mono ?_; rintro e w2 ⟨rfl,hp⟩; have HP2:Hid _:=hp; clear hp HP1)
  | (go_at_call 15; refine (G3.out _ HP2.out).mono ?_; rintro e w3 ⟨rfl,hp⟩; have HP3:Hid _:=hp; clear hp HP2)
  | (go_at_call 16; refine (G4.out _ HP3.out).mono ?_; rintro e w4 ⟨⟨fa,fc,rfl⟩,hp⟩; have HP4:Hid _:=hp; clear hp HP3))
 exact HK.out _ _ rfl rfl rfl HP4.out
end
end Go.Proofs.YtcinlaacgbfojaaGreatDoor

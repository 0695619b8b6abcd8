/- A drawn region of package trie's join. (Written by tools/gen/genjoin.py.) -/
import Derived.Test.YtloljphbdfjgdaaGreatDoorK29
namespace Go.Proofs.YtloljphbdfjgdaaGreatDoor
open Go.RowKit
def join_r2LV (sp:Nat) (k fk p y0 y1:Int) (v:Value) (g:GQ):Nat→Value:=fun j=>match j with | 0=>(Value.int IntKind.i64 k) | 1=>(Value.int IntKind.i64 p) | 2=>(Value.int IntKind.i64 fk) | 3=>(Value.int IntKind.i64 p) | 4=>(pa sp 3) | 5=>(Value.iface 128 v) | 6=>(Value.int IntKind.i64 y0) | 7=>(Value.int IntKind.i64 y1) | 8=>(Value.agg #[.int .i64 fk,.int .i64 p,.int .i64 0,.int .i64 0,.int .i64 y1]) | 9=>(pa (g.nb.getD 0) 0) | 10=>undef | _=>undef
set_option maxRecDepth 100000 in
set_option maxHeartbeats 1600000 in
theorem join_r2L {sp:Nat} {k fk p y0 y1:Int} {v:Value} {K:Act→World→Prop} {Q:Exit→Act→World→Prop} {a0:Act} {w:World} (hs:a0.tmps.size=49) {h a b:Value} (x1:a0.eval (.tmp 1)=.int .i64 k) (x5:a0.eval (.tmp 5)=pa sp 0) (x6:a0.eval (.tmp 6)=.int .i64 p) (hc0:0≤y0) (hc1:y0≤1099511627776) (hcn:y0+1=y1) (hSP:w.heap[sp]?=some (.cells #[h,a,b,.iface 128 v] 120 (0,0)))
  (hFirst:∀ x,Turned [] w x→Calls Tryz.prog 82 #[.int .i64 k,.int .i64 p] x fun e w'=>e=.returned (Value.int IntKind.i64 fk)∧Turned [] x w') (hCount:∀ x,Turned [] w x→Calls Tryz.prog 139 #[v] x fun e w'=>e=.returned (Value.int IntKind.i64 y0)∧Turned [] x w')
  (hEnd:∀ a' x nb,a'.tmps.size=a0.tmps.size→a'.defers=a0.defers→(∀ s,some s∉([some 19,some 20,some 21,some 22,some 23,some 24,some 25,some 26,some 27,some 8,none]:List (Option Nat))→a'.eval (.tmp s)=a0.eval (.tmp s))→a'.eval (.tmp 8)=pa nb 0→ Turned [] w x→x.heap[nb]?=some (Obj.cells #[.int .i64 fk,.int .i64 p,.int .i64 0,.int .i64 0,.int .i64 y1] 151 (0,0))→w.heap.size≤nb→K a' x):(Code.region 2 (opsOf 2 Tryz.f48.body) true).wp Tryz.prog (Exit.then K Q) a0 w:=by
 refine wp_region_ghost3 (G:=GQ) (by kernel_rfl) [some 19,some 20,some 21,some 22,some 23,some 24,some 25,some 26,some 27,some 8,none] (by rw [hs]; kernel_rfl) (join_r2LV sp k fk p y0 y1 v) [9,10] ?_ (doneQ 1000 9 10) (fun g x=>Turned [] w x∧∀ nb,g.nb=some nb→w.heap.size≤nb∧x.heap[nb]?=some (if g.st=true then Obj.cells #[.int .i64 fk,.int .i64 p,.int .i64 0,.int .i64 0,.int .i64 y1] 151 (0,0) else Obj.cells #[.int .i64 0,.int .i64 0,.int .i64 0,.int .i64 0,.int .i64 0] 151 (0,0))) (⟨false,none,false⟩) (⟨(Turned.refl _ _).drew,fun _ h=>nomatch h⟩) (by intro x hx; simp at hx; rcases hx with rfl | rfl <;> rfl) (by decide) ?_ ?_
 ·exact fun i g b h _=>absurd h (noG (by kernel_rfl) i g b)
 ·intro i hi hgd
  rcases (by simp at hi; omega:i=0∨i=1∨i=2∨i=3∨i=4∨i=5∨i=6∨i=7∨i=8∨i=9∨i=10) with rfl | rfl | rfl | rfl | rfl | rfl | rfl | rfl | rfl | rfl | rfl
  ·refine soft (by decide) ?_
   intro o ac wa g ho hoff hv hS hdn
   exact (x_move (op_is rfl ho)).trans (by rw [((hoff 1 (by decide)).trans x1)]; rfl)
  ·refine soft (by decide) ?_
   intro o ac wa g ho hoff hv hS hdn
   exact (x_move (op_is rfl ho)).trans (by rw [((hoff 6 (by decide)).trans x6)]; rfl)
  ·intro o ac wa g K ho hd _ hoff hv hS hpre hnd hlater hK
   refine l_callE (op_is rfl ho) (xs:=#[.int .i64 k,.int .i64 p]) (by simp only [List.map_toArray,List.map_cons,List.map_nil]; rw [(hv 0 19 rfl (by kernel_rfl)),(hv 1 20 rfl (by kernel_rfl))]; rfl) Tryz.func82 (by kernel_rfl) rfl (hFirst wa hS.1) ?_
   rintro e w' ⟨rfl,ht⟩
   refine ⟨_,rfl,?_⟩
   rw [hd]
   exact hK g w' ⟨hS.1.trans ht,fun nb hnb=>⟨(hS.2 nb hnb).1,ht.heap (hS.2 nb hnb).2 (by simp)⟩⟩ (by intro x hx; simp at hx; rcases hx with rfl | rfl <;> simp [doneQ]) (fun _ _ _=>rfl)
  ·refine soft (by decide) ?_
   intro o ac wa g ho hoff hv hS hdn
   exact (x_move (op_is rfl ho)).trans (by rw [((hoff 6 (by decide)).trans x6)]; rfl)
  ·refine soft (by decide) ?_
   intro o ac wa g ho hoff hv hS hdn
   exact x_field (op_is rfl ho) (by rw [((hoff 5 (by decide)).trans x5)]; show (Instr.fieldAt _ (pa _ _) _).run _ _=.ok (pa _ _) _; unfold pa; go_simp)
  ·refine soft (by decide) ?_
   intro o ac wa g ho hoff hv hS hdn
   have hc:=cell_at (hS.1.heap hSP (by simp)) 3
   exact x_load (op_is rfl ho) (by rw [(hv 4 23 rfl (by kernel_rfl))]; show (Instr.loadAt _ (pa _ _)).run _ _=_; unfold pa; go_simp; rfl)
  ·intro o ac wa g K ho hd _ hoff hv hS hpre hnd hlater hK
   refine l_enterE (x_invLC (op_is rfl ho) ((hv 5 24 rfl (by kernel_rfl)))) (hCount wa hS.1) ?_
   rintro e w' ⟨rfl,ht⟩
   refine ⟨_,rfl,?_⟩
   rw [hd]
   exact hK g w' ⟨hS.1.trans ht,fun nb hnb=>⟨(hS.2 nb hnb).1,ht.heap (hS.2 nb hnb).2 (by simp)⟩⟩ (by intro x hx; simp at hx; rcases hx with rfl | rfl <;> simp [doneQ]) (fun _ _ _=>rfl)
  ·refine soft (by decide) ?_
   intro o ac wa g ho hoff hv hS hdn
   exact x_bin (op_is rfl ho) (hv 6 25 rfl (by kernel_rfl)) rfl (by go_simp) (by show (binOp .add _ (.int .i64 y0) (.int .i64 1)).run _ _=.ok (.int .i64 y1) _; have a1:IntKind.i64.wrap y1=y1:=(by simp [IntKind.wrap,IntKind.bits,IntKind.signed]; omega); go_simp)
  ·refine soft (by decide) ?_
   intro o ac wa g ho hoff hv hS hdn
   exact x_build (op_is rfl ho) (qs:=#[(0,(Value.int IntKind.i64 fk)),(1,(Value.int IntKind.i64 p)),(3,(Value.int IntKind.i64 y1))]) (by simp only [List.map_toArray,List.map_cons,List.map_nil]; rw [(hv 2 21 rfl (by kernel_rfl)),(hv 3 22 rfl (by kernel_rfl)),(hv 7 26 rfl (by kernel_rfl))]; rfl) (by go_simp; rfl)
  ·intro o ac wa g K ho hd _ hoff hv hS hpre hnd hlater hK
   have hg:g.nb=none:=by have:=hnd (by simp); simpa [doneQ] using this
   have hst:g.st=false:=by
    have:=hlater 10 (by simp) (by kernel_rfl)
    simpa [doneQ] using this
   refine l_val hd (x_alloc (op_is rfl ho) (v:=pa wa.heap.size 0) (w':=wa.alloc (Obj.cells #[.int .i64 0,.int .i64 0,.int .i64 0,.int .i64 0,.int .i64 0] 151 (0,0))) (by unfold pa; go_simp)) ?_
   refine hK { g with nb:=some wa.heap.size } _ ⟨hS.1.alloc _,fun nb hnb=>?_⟩ (by intro x hx; simp at hx; rcases hx with rfl | rfl <;> simp [doneQ,hg]) fun j hj hr=>?_
   ·cases hnb
    refine ⟨hS.1.size,?_⟩
    rw [hst]
    exact blk_new _ _
   ·match j,hr with
    | 0,_=>rfl
    | 1,_=>rfl
    | 2,_=>rfl
    | 3,_=>rfl
    | 4,_=>rfl
    | 5,_=>rfl
    | 6,_=>rfl
    | 7,_=>rfl
    | 8,_=>rfl
    | 9,_=>exact absurd rfl hj
    | 10,hr=>exact absurd (hr.symm.trans (by kernel_rfl:reachB (opsOf 2 Tryz.f48.body) (opsOf 2 Tryz.f48.body).size 10 9=true)) (by decide)
    | k+11,_=>rfl
  ·intro o ac wa g K ho hd _ hoff hv hS hpre hnd hlater hK
   obtain ⟨nb,hnb⟩:=Option.isSome_iff_exists.1 (show g.nb.isSome=true from by have:=hpre 9 (by simp) (by kernel_rfl); simpa [doneQ] using this)
   have hst:g.st=false:=by have:=hnd (by simp); simpa [doneQ] using this
   have e1:=(hv 9 8 rfl (by kernel_rfl))
   have e2:=(hv 8 27 rfl (by kernel_rfl))
   have hb:=(hS.2 nb hnb).2
   have hbn:=(hS.2 nb hnb).1
   rw [hst] at hb
   have c0:wa.cell? ⟨nb,0,none⟩=some (Value.int IntKind.i64 0):=cell_at hb 0
   have c1:wa.cell? ⟨nb,1,none⟩=some (Value.int IntKind.i64 0):=cell_at hb 1
   have c2:wa.cell? ⟨nb,2,none⟩=some (Value.int IntKind.i64 0):=cell_at hb 2
   have c3:wa.cell? ⟨nb,3,none⟩=some (Value.int IntKind.i64 0):=cell_at hb 3
   have c4:wa.cell? ⟨nb,4,none⟩=some (Value.int IntKind.i64 0):=cell_at hb 4
   have z:=froz_at hb
   refine l_skip hd (w':=(((((wa.setCell ⟨nb,0,none⟩ (.int .i64 fk)).setCell ⟨nb,1,none⟩ (.int .i64 p)).setCell ⟨nb,2,none⟩ (.int .i64 0)).setCell ⟨nb,3,none⟩ (.int .i64 0)).setCell ⟨nb,4,none⟩ (.int .i64 y1))) (x_store (op_is rfl ho) (by
    rw [e1,e2]
    show (Instr.storeAt _ (pa (g.nb.getD 0) 0) (Value.agg #[.int .i64 fk,.int .i64 p,.int .i64 0,.int .i64 0,.int .i64 y1])).run _ _=_
    rw [hnb]
    show (Instr.storeAt _ (pa nb 0) (Value.agg #[.int .i64 fk,.int .i64 p,.int .i64 0,.int .i64 0,.int .i64 y1])).run _ _=_
    unfold pa
    go_simp)) ?_
   have htn:Turned [nb] wa (((((wa.setCell ⟨nb,0,none⟩ (.int .i64 fk)).setCell ⟨nb,1,none⟩ (.int .i64 p)).setCell ⟨nb,2,none⟩ (.int .i64 0)).setCell ⟨nb,3,none⟩ (.int .i64 0)).setCell ⟨nb,4,none⟩ (.int .i64 y1)):=((((((Turned.refl _ _).set (.inl (by simp)) 0 _).set (.inl (by simp)) 1 _).set (.inl (by simp)) 2 _).set (.inl (by simp)) 3 _).set (.inl (by simp)) 4 _)
   refine hK { g with st:=true } _ ⟨hS.1.inner htn (by intro x hx; simp at hx; subst hx; exact .inr hbn),fun nb' hnb'=>?_⟩ (by intro x hx; simp at hx; rcases hx with rfl | rfl <;> simp [doneQ]) fun j hj hr=>?_
   ·have:nb'=nb:=by rw [hnb] at hnb'; cases hnb'; rfl
    subst this
    refine ⟨hbn,?_⟩
    show _=some (if true=true then Obj.cells #[.int .i64 fk,.int .i64 p,.int .i64 0,.int .i64 0,.int .i64 y1] 151 (0,0) else _)
    rw [if_pos rfl,(blk_set (blk_set (blk_set (blk_set (blk_set hb 0 _) 1 _) 2 _) 3 _) 4 _)]
    rfl
   ·match j,hr with
    | 0,_=>rfl
    | 1,_=>rfl
    | 2,_=>rfl
    | 3,_=>rfl
    | 4,_=>rfl
    | 5,_=>rfl
    | 6,_=>rfl
    | 7,_=>rfl
    | 8,_=>rfl
    | 9,_=>rfl
    | 10,_=>exact absurd rfl hj
    | k+11,_=>rfl
 ·intro a' w' g hsz hdf hoff hS hdn hval
  obtain ⟨nb,hnb⟩:=Option.isSome_iff_exists.1 (show g.nb.isSome=true from by have:=hdn 9 (by simp); simpa [doneQ] using this)
  have hst:g.st=true:=by have:=hdn 10 (by simp); simpa [doneQ] using this
  have hb:=(hS.2 nb hnb).2
  rw [hst,if_pos rfl] at hb
  exact hEnd a' w' nb hsz hdf (fun s hs=>ev_same (hoff s hs)) ((hval 9 8 rfl).trans (by show pa (g.nb.getD 0) 0=_; rw [hnb]; rfl))  hS.1 hb (hS.2 nb hnb).1
def join_r2IV (sp:Nat) (k fk p y0 y1:Int) (v:Value) (g:GQ):Nat→Value:=fun j=>match j with | 0=>(Value.int IntKind.i64 k) | 1=>(Value.int IntKind.i64 p) | 2=>(Value.int IntKind.i64 fk) | 3=>(Value.int IntKind.i64 p) | 4=>(pa sp 3) | 5=>(Value.iface 151 v) | 6=>(Value.int IntKind.i64 y0) | 7=>(Value.int IntKind.i64 y1) | 8=>(Value.agg #[.int .i64 fk,.int .i64 p,.int .i64 0,.int .i64 0,.int .i64 y1]) | 9=>(pa (g.nb.getD 0) 0) | 10=>undef | _=>undef
set_option maxRecDepth 100000 in
set_option maxHeartbeats 1600000 in
theorem join_r2I {sp:Nat} {k fk p y0 y1:Int} {v:Value} {K:Act→World→Prop} {Q:Exit→Act→World→Prop} {a0:Act} {w:World} (hs:a0.tmps.size=49) {h a b:Value} (x1:a0.eval (.tmp 1)=.int .i64 k) (x5:a0.eval (.tmp 5)=pa sp 0) (x6:a0.eval (.tmp 6)=.int .i64 p) (hc0:0≤y0) (hc1:y0≤1099511627776) (hcn:y0+1=y1) (hSP:w.heap[sp]?=some (.cells #[h,a,b,.iface 151 v] 120 (0,0)))
  (hFirst:∀ x,Turned [] w x→Calls Tryz.prog 82 #[.int .i64 k,.int .i64 p] x fun e w'=>e=.returned (Value.int IntKind.i64 fk)∧Turned [] x w') (hCount:∀ x,Turned [] w x→Calls Tryz.prog 141 #[v] x fun e w'=>e=.returned (Value.int IntKind.i64 y0)∧Turned [] x w')
  (hEnd:∀ a' x nb,a'.tmps.size=a0.tmps.size→a'.defers=a0.defers→(∀ s,some s∉([some 19,some 20,some 21,some 22,some 23,some 24,some 25,some 26,some 27,some 8,none]:List (Option Nat))→a'.eval (.tmp s)=a0.eval (.tmp s))→a'.eval (.tmp 8)=pa nb 0→ Turned [] w x→x.heap[nb]?=some (Obj.cells #[.int .i64 fk,.int .i64 p,.int .i64 0,.int .i64 0,.int .i64 y1] 151 (0,0))→w.heap.size≤nb→K a' x):(Code.region 2 (opsOf 2 Tryz.f48.body) true).wp Tryz.prog (Exit.then K Q) a0 w:=by
 refine wp_region_ghost3 (G:=GQ) (by kernel_rfl) [some 19,some 20,some 21,some 22,some 23,some 24,some 25,some 26,some 27,some 8,none] (by rw [hs]; kernel_rfl) (join_r2IV sp k fk p y0 y1 v) [9,10] ?_ (doneQ 1000 9 10) (fun g x=>Turned [] w x∧∀ nb,g.nb=some nb→w.heap.size≤nb∧x.heap[nb]?=some (if g.st=true then Obj.cells #[.int .i64 fk,.int .i64 p,.int .i64 0,.int .i64 0,.int .i64 y1] 151 (0,0) else Obj.cells #[.int .i64 0,.int .i64 0,.int .i64 0,.int .i64 0,.int .i64 0] 151 (0,0))) (⟨false,none,false⟩) (⟨(Turned.refl _ _).drew,fun _ h=>nomatch h⟩) (by intro x hx; simp at hx; rcases hx with rfl | rfl <;> rfl) (by decide) ?_ ?_
 ·exact fun i g b h _=>absurd h (noG (by kernel_rfl) i g b)
 ·intro i hi hgd
  rcases (by simp at hi; omega:i=0∨i=1∨i=2∨i=3∨i=4∨i=5∨i=6∨i=7∨i=8∨i=9∨i=10) with rfl | rfl | rfl | rfl | rfl | rfl | rfl | rfl | rfl | rfl | rfl
  ·refine soft (by decide) ?_
   intro o ac wa g ho hoff hv hS hdn
   exact (x_move (op_is rfl ho)).trans (by rw [((hoff 1 (by decide)).trans x1)]; rfl)
  ·refine soft (by decide) ?_
   intro o ac wa g ho hoff hv hS hdn
   exact (x_move (op_is rfl ho)).trans (by rw [((hoff 6 (by decide)).trans x6)]; rfl)
  ·intro o ac wa g K ho hd _ hoff hv hS hpre hnd hlater hK
   refine l_callE (op_is rfl ho) (xs:=#[.int .i64 k,.int .i64 p]) (by simp only [List.map_toArray,List.map_cons,List.map_nil]; rw [(hv 0 19 rfl (by kernel_rfl)),(hv 1 20 rfl (by kernel_rfl))]; rfl) Tryz.func82 (by kernel_rfl) rfl (hFirst wa hS.1) ?_
   rintro e w' ⟨rfl,ht⟩
   refine ⟨_,rfl,?_⟩
   rw [hd]
   exact hK g w' ⟨hS.1.trans ht,fun nb hnb=>⟨(hS.2 nb hnb).1,ht.heap (hS.2 nb hnb).2 (by simp)⟩⟩ (by intro x hx; simp at hx; rcases hx with rfl | rfl <;> simp [doneQ]) (fun _ _ _=>rfl)
  ·refine soft (by decide) ?_
   intro o ac wa g ho hoff hv hS hdn
   exact (x_move (op_is rfl ho)).trans (by rw [((hoff 6 (by decide)).trans x6)]; rfl)
  ·refine soft (by decide) ?_
   intro o ac wa g ho hoff hv hS hdn
   exact x_field (op_is rfl ho) (by rw [((hoff 5 (by decide)).trans x5)]; show (Instr.fieldAt _ (pa _ _) _).run _ _=.ok (pa _ _) _; unfold pa; go_simp)
  ·refine soft (by decide) ?_
   intro o ac wa g ho hoff hv hS hdn
   have hc:=cell_at (hS.1.heap hSP (by simp)) 3
   exact x_load (op_is rfl ho) (by rw [(hv 4 23 rfl (by kernel_rfl))]; show (Instr.loadAt _ (pa _ _)).run _ _=_; unfold pa; go_simp; rfl)
  ·intro o ac wa g K ho hd _ hoff hv hS hpre hnd hlater hK
   refine l_enterE (x_invIC (op_is rfl ho) ((hv 5 24 rfl (by kernel_rfl)))) (hCount wa hS.1) ?_
   rintro e w' ⟨rfl,ht⟩
   refine ⟨_,rfl,?_⟩
   rw [hd]
   exact hK g w' ⟨hS.1.trans ht,fun nb hnb=>⟨(hS.2 nb hnb).1,ht.heap (hS.2 nb hnb).2 (by simp)⟩⟩ (by intro x hx; simp at hx; rcases hx with rfl | rfl <;> simp [doneQ]) (fun _ _ _=>rfl)
  ·refine soft (by decide) ?_
   intro o ac wa g ho hoff hv hS hdn
   exact x_bin (op_is rfl ho) (hv 6 25 rfl (by kernel_rfl)) rfl (by go_simp) (by show (binOp .add _ (.int .i64 y0) (.int .i64 1)).run _ _=.ok (.int .i64 y1) _; have a1:IntKind.i64.wrap y1=y1:=(by simp [IntKind.wrap,IntKind.bits,IntKind.signed]; omega); go_simp)
  ·refine soft (by decide) ?_
   intro o ac wa g ho hoff hv hS hdn
   exact x_build (op_is rfl ho) (qs:=#[(0,(Value.int IntKind.i64 fk)),(1,(Value.int IntKind.i64 p)),(3,(Value.int IntKind.i64 y1))]) (by simp only [List.map_toArray,List.map_cons,List.map_nil]; rw [(hv 2 21 rfl (by kernel_rfl)),(hv 3 22 rfl (by kernel_rfl)),(hv 7 26 rfl (by kernel_rfl))]; rfl) (by go_simp; rfl)
  ·intro o ac wa g K ho hd _ hoff hv hS hpre hnd hlater hK
   have hg:g.nb=none:=by have:=hnd (by simp); simpa [doneQ] using this
   have hst:g.st=false:=by
    have:=hlater 10 (by simp) (by kernel_rfl)
    simpa [doneQ] using this
   refine l_val hd (x_alloc (op_is rfl ho) (v:=pa wa.heap.size 0) (w':=wa.alloc (Obj.cells #[.int .i64 0,.int .i64 0,.int .i64 0,.int .i64 0,.int .i64 0] 151 (0,0))) (by unfold pa; go_simp)) ?_
   refine hK { g with nb:=some wa.heap.size } _ ⟨hS.1.alloc _,fun nb hnb=>?_⟩ (by intro x hx; simp at hx; rcases hx with rfl | rfl <;> simp [doneQ,hg]) fun j hj hr=>?_
   ·cases hnb
    refine ⟨hS.1.size,?_⟩
    rw [hst]
    exact blk_new _ _
   ·match j,hr with
    | 0,_=>rfl
    | 1,_=>rfl
    | 2,_=>rfl
    | 3,_=>rfl
    | 4,_=>rfl
    | 5,_=>rfl
    | 6,_=>rfl
    | 7,_=>rfl
    | 8,_=>rfl
    | 9,_=>exact absurd rfl hj
    | 10,hr=>exact absurd (hr.symm.trans (by kernel_rfl:reachB (opsOf 2 Tryz.f48.body) (opsOf 2 Tryz.f48.body).size 10 9=true)) (by decide)
    | k+11,_=>rfl
  ·intro o ac wa g K ho hd _ hoff hv hS hpre hnd hlater hK
   obtain ⟨nb,hnb⟩:=Option.isSome_iff_exists.1 (show g.nb.isSome=true from by have:=hpre 9 (by simp) (by kernel_rfl); simpa [doneQ] using this)
   have hst:g.st=false:=by have:=hnd (by simp); simpa [doneQ] using this
   have e1:=(hv 9 8 rfl (by kernel_rfl))
   have e2:=(hv 8 27 rfl (by kernel_rfl))
   have hb:=(hS.2 nb hnb).2
   have hbn:=(hS.2 nb hnb).1
   rw [hst] at hb
   have c0:wa.cell? ⟨nb,0,none⟩=some (Value.int IntKind.i64 0):=cell_at hb 0
   have c1:wa.cell? ⟨nb,1,none⟩=some (Value.int IntKind.i64 0):=cell_at hb 1
   have c2:wa.cell? ⟨nb,2,none⟩=some (Value.int IntKind.i64 0):=cell_at hb 2
   have c3:wa.cell? ⟨nb,3,none⟩=some (Value.int IntKind.i64 0):=cell_at hb 3
   have c4:wa.cell? ⟨nb,4,none⟩=some (Value.int IntKind.i64 0):=cell_at hb 4
   have z:=froz_at hb
   refine l_skip hd (w':=(((((wa.setCell ⟨nb,0,none⟩ (.int .i64 fk)).setCell ⟨nb,1,none⟩ (.int .i64 p)).setCell ⟨nb,2,none⟩ (.int .i64 0)).setCell ⟨nb,3,none⟩ (.int .i64 0)).setCell ⟨nb,4,none⟩ (.int .i64 y1))) (x_store (op_is rfl ho) (by
    rw [e1,e2]
    show (Instr.storeAt _ (pa (g.nb.getD 0) 0) (Value.agg #[.int .i64 fk,.int .i64 p,.int .i64 0,.int .i64 0,.int .i64 y1])).run _ _=_
    rw [hnb]
    show (Instr.storeAt _ (pa nb 0) (Value.agg #[.int .i64 fk,.int .i64 p,.int .i64 0,.int .i64 0,.int .i64 y1])).run _ _=_
    unfold pa
    go_simp)) ?_
   have htn:Turned [nb] wa (((((wa.setCell ⟨nb,0,none⟩ (.int .i64 fk)).setCell ⟨nb,1,none⟩ (.int .i64 p)).setCell ⟨nb,2,none⟩ (.int .i64 0)).setCell ⟨nb,3,none⟩ (.int .i64 0)).setCell ⟨nb,4,none⟩ (.int .i64 y1)):=((((((Turned.refl _ _).set (.inl (by simp)) 0 _).set (.inl (by simp)) 1 _).set (.inl (by simp)) 2 _).set (.inl (by simp)) 3 _).set (.inl (by simp)) 4 _)
   refine hK { g with st:=true } _ ⟨hS.1.inner htn (by intro x hx; simp at hx; subst hx; exact .inr hbn),fun nb' hnb'=>?_⟩ (by intro x hx; simp at hx; rcases hx with rfl | rfl <;> simp [doneQ]) fun j hj hr=>?_
   ·have:nb'=nb:=by rw [hnb] at hnb'; cases hnb'; rfl
    subst this
    refine ⟨hbn,?_⟩
    show _=some (if true=true then Obj.cells #[.int .i64 fk,.int .i64 p,.int .i64 0,.int .i64 0,.int .i64 y1] 151 (0,0) else _)
    rw [if_pos rfl,(blk_set (blk_set (blk_set (blk_set (blk_set hb 0 _) 1 _) 2 _) 3 _) 4 _)]
    rfl
   ·match j,hr with
    | 0,_=>rfl
    | 1,_=>rfl
    | 2,_=>rfl
    | 3,_=>rfl
    | 4,_=>rfl
    | 5,_=>rfl
    | 6,_=>rfl
    | 7,_=>rfl
    | 8,_=>rfl
    | 9,_=>rfl
    | 10,_=>exact absurd rfl hj
    | k+11,_=>rfl
 ·intro a' w' g hsz hdf hoff hS hdn hval
  obtain ⟨nb,hnb⟩:=Option.isSome_iff_exists.1 (show g.nb.isSome=true from by have:=hdn 9 (by simp); simpa [doneQ] using this)
  have hst:g.st=true:=by have:=hdn 10 (by simp); simpa [doneQ] using this
  have hb:=(hS.2 nb hnb).2
  rw [hst,if_pos rfl] at hb
  exact hEnd a' w' nb hsz hdf (fun s hs=>ev_same (hoff s hs)) ((hval 9 8 rfl).trans (by show pa (g.nb.getD 0) 0=_; rw [hnb]; rfl))  hS.1 hb (hS.2 nb hnb).1
end Go.Proofs.YtloljphbdfjgdaaGreatDoor
/- Package trie's join, walked. (Written by tools/gen/genjoin2.py.) -/
namespace Go.Proofs.YtloljphbdfjgdaaGreatDoor
open Go.RowKit
section
variable {w:World} {cb tb P:Nat} {root old err k h a b:Int} {had:Bool} {gv mv:Value} {R:World→World→Prop}
set_option maxRecDepth 100000 in
set_option maxHeartbeats 1600000 in
theorem join_walkL0 {kk vv:Int} (ho:w.heap[cb]?=some (chObj tb root old had gv mv err)) (hT:Tab w) (k0:0≤k) (k1:k≤4294967295) (l0:0≤kk) (l1:kk≤4294967295) (hne:k≠kk) (hP:plc k kk=P) (hp:P≤31) (hsd:hv k.toNat P % 2=0)
  (hTk:∀ x,Turned [] w x→Calls Tryz.prog 43 #[.pointer (some ⟨cb,0,none⟩),.iface 151 (.agg #[.int .i64 (fstK k P),.int .i64 P,.int .i64 root,.int .i64 h,.int .i64 2])] x fun e w'=>e=.returned (.tuple #[])∧R x w') :
  Calls Tryz.prog 48 #[.pointer (some ⟨cb,0,none⟩),.int .i64 k,.agg #[.int .i64 h,.int .i64 a,.int .i64 b,.iface 128 (.agg #[.int .i64 kk,.int .i64 vv])]] w fun e w'=>e=.returned (.tuple #[])∧∃ x,Turned [] w x∧R x w':=by
 have mm:=m_leaf_span
 have HFs:=fld_span0
 have HPl:Hid (∀ x,Tab x→Calls Tryz.prog 81 #[.int .i64 k,.int .i64 kk] x fun e w'=>e=.returned (.tuple #[.int .i64 P,.int .i64 0])∧w'=x):=fun x hx=>by
  have:=cPlace hx k0 k1 l0 l1 hne
  rwa [hP] at this
 have HFo:Hid (∀ x,Calls Tryz.prog 82 #[.int .i64 k,.int .i64 P] x fun e w'=>e=.returned (.int .i64 (fstK k P))∧w'=x):=cFirstOf k0 k1 hp
 have HSd:Hid (∀ x l r y,Tab x→Calls Tryz.prog 77 #[.agg #[.int .i64 (fstK k P),.int .i64 P,.int .i64 l,.int .i64 r,.int .i64 y],.int .i64 k] x fun e w'=>e=.returned (.int .i64 0)∧Turned [] x w'):=fun x l r y hx=>cSide l r hx k0 k1 hp hsd
 have HO:Hid _:=ho
 have HT:Hid (Tab w):=hT
 have HTk:Hid _:=hTk
 have lcb:=lt_of_heap ho
 clear ho hT k0 k1 l0 l1 hne hP hp hsd hTk
 generalize fstK k P=fk at *
 go_enter Tryz.func48,Tryz.ntmps48
 go_wp2_with (first
  | (go_at_call 140; refine (cLeafSpan _ _ _).mono ?_; rintro e w1 ⟨rfl,ht1⟩; obtain ⟨hb1,htt⟩:=one_cells ht1; have HT1:Hid (Turned [] w w1):=htt; have HB1:Hid _:=hb1; have hlt1:w.heap.size < w1.heap.size:=lt_of_heap hb1; clear ht1 hb1 htt)
  | (go_at_call 81; refine (HPl.out _ (Tab.keep HT.out HT1.out (by simp))).mono ?_; rintro e w2 ⟨rfl,rfl⟩))
 refine join_r2L (sp:=w.heap.size) (k:=k) (fk:=fk) (p:=(P:Int)) (y0:=1) (y1:=2) (v:=.agg #[.int .i64 kk,.int .i64 vv]) rfl rfl rfl rfl (by decide) (by decide) (by decide) HB1.out (fun x _=>(HFo.out x).mono (by rintro e w' ⟨rfl,rfl⟩; exact ⟨rfl,Turned.refl _ _⟩)) (fun x _=>cLeafCount _ _ x) ?_
 rintro a' x nb hs hd hoff x8 htx hnb hnl
 obtain ⟨cc,hcc,hce⟩:=expand49 (hs.trans rfl) (hd.trans rfl)
 have g0:=(hce 0).trans ((hoff 0 (by decide)).trans rfl)
 have g1:=(hce 1).trans ((hoff 1 (by decide)).trans rfl)
 have g5:=(hce 5).trans ((hoff 5 (by decide)).trans rfl)
 have g8:=(hce 8).trans x8
 have hTx:Turned [] w x:=HT1.out.trans htx
 have HTx:Hid (Turned [] w x):=hTx
 have HNB:Hid _:=hnb
 have hc2:x.cell? ⟨cb,2,none⟩=some (.int .i64 root):=by rw [cell_at (hTx.heap HO.out (by simp))]; rfl
 have hs0:x.cell? ⟨w.heap.size,0,none⟩=some (.int .i64 h):=by rw [cell_at (htx.heap HB1.out (by simp))]; rfl
 obtain ⟨⟨n0,n1,n2,n3,n4⟩,-⟩:=cells5 hnb
 have z2:=froz_at hnb 2
 have z3:=froz_at hnb 3
 have ne1:¬ cb=nb:=by have:=HT1.out.size; omega
 have ne2:¬ w.heap.size=nb:=by omega
 have lx:=htx.size
 have lnb:=lt_of_heap hnb
 have HNL:Hid _:=hnl
 clear hce hs hd hoff x8 htx hTx hnb hnl
 subst hcc
 simp only [lit49,g0,g1,g5,g8]
 clear g0 g1 g5 g8
 unfold pa
 go_wp2_with (go_at_call 77; refine (HSd.out _ _ _ _ (Tab.keep HT.out HTx.out (by simp))).mono ?_; rintro e x2 ⟨rfl,ht2⟩; have HT2:Hid (Turned [] x x2):=ht2; have HNB2:Hid _:=ht2.heap HNB.out (by simp); have hc2':=ht2.cell hc2 (by simp); have hs0':=ht2.cell hs0 (by simp); have n0':=ht2.cell n0 (by simp); have n1':=ht2.cell n1 (by simp); have n2':=ht2.cell n2 (by simp); have n3':=ht2.cell n3 (by simp); have n4':=ht2.cell n4 (by simp); have z2':=froz_at HNB2.out 2; have z3':=froz_at HNB2.out 3; clear ht2 hc2 hs0 n0 n1 n2 n3 n4 z2 z3)
 go_region
 have hnw:w.heap.size≤nb:=by have:=HT1.out.size; have:=HNL.out; omega
 go_wp2_with (go_at_call 43; refine (HTk.out _ ((((HTx.out.trans HT2.out).set (.inr hnw) _ _).set (.inr hnw) _ _).drew)).mono ?_; rintro e x3 ⟨rfl,hR⟩; have HRR:Hid _:=hR; clear hR)
 go_end0
 exact ⟨rfl,_,(((HTx.out.trans HT2.out).set (.inr hnw) _ _).set (.inr hnw) _ _).drew,HRR.out⟩
set_option maxRecDepth 100000 in
set_option maxHeartbeats 1600000 in
theorem join_walkL1 {kk vv:Int} (ho:w.heap[cb]?=some (chObj tb root old had gv mv err)) (hT:Tab w) (k0:0≤k) (k1:k≤4294967295) (l0:0≤kk) (l1:kk≤4294967295) (hne:k≠kk) (hP:plc k kk=P) (hp:P≤31) (hsd:hv k.toNat P % 2=1)
  (hTk:∀ x,Turned [] w x→Calls Tryz.prog 43 #[.pointer (some ⟨cb,0,none⟩),.iface 151 (.agg #[.int .i64 (fstK k P),.int .i64 P,.int .i64 h,.int .i64 root,.int .i64 2])] x fun e w'=>e=.returned (.tuple #[])∧R x w') :
  Calls Tryz.prog 48 #[.pointer (some ⟨cb,0,none⟩),.int .i64 k,.agg #[.int .i64 h,.int .i64 a,.int .i64 b,.iface 128 (.agg #[.int .i64 kk,.int .i64 vv])]] w fun e w'=>e=.returned (.tuple #[])∧∃ x,Turned [] w x∧R x w':=by
 have mm:=m_leaf_span
 have HFs:=fld_span0
 have HPl:Hid (∀ x,Tab x→Calls Tryz.prog 81 #[.int .i64 k,.int .i64 kk] x fun e w'=>e=.returned (.tuple #[.int .i64 P,.int .i64 0])∧w'=x):=fun x hx=>by
  have:=cPlace hx k0 k1 l0 l1 hne
  rwa [hP] at this
 have HFo:Hid (∀ x,Calls Tryz.prog 82 #[.int .i64 k,.int .i64 P] x fun e w'=>e=.returned (.int .i64 (fstK k P))∧w'=x):=cFirstOf k0 k1 hp
 have HSd:Hid (∀ x l r y,Tab x→Calls Tryz.prog 77 #[.agg #[.int .i64 (fstK k P),.int .i64 P,.int .i64 l,.int .i64 r,.int .i64 y],.int .i64 k] x fun e w'=>e=.returned (.int .i64 1)∧Turned [] x w'):=fun x l r y hx=>cSide l r hx k0 k1 hp hsd
 have HO:Hid _:=ho
 have HT:Hid (Tab w):=hT
 have HTk:Hid _:=hTk
 have lcb:=lt_of_heap ho
 clear ho hT k0 k1 l0 l1 hne hP hp hsd hTk
 generalize fstK k P=fk at *
 go_enter Tryz.func48,Tryz.ntmps48
 go_wp2_with (first
  | (go_at_call 140; refine (cLeafSpan _ _ _).mono ?_; rintro e w1 ⟨rfl,ht1⟩; obtain ⟨hb1,htt⟩:=one_cells ht1; have HT1:Hid (Turned [] w w1):=htt; have HB1:Hid _:=hb1; have hlt1:w.heap.size < w1.heap.size:=lt_of_heap hb1; clear ht1 hb1 htt)
  | (go_at_call 81; refine (HPl.out _ (Tab.keep HT.out HT1.out (by simp))).mono ?_; rintro e w2 ⟨rfl,rfl⟩))
 refine join_r2L (sp:=w.heap.size) (k:=k) (fk:=fk) (p:=(P:Int)) (y0:=1) (y1:=2) (v:=.agg #[.int .i64 kk,.int .i64 vv]) rfl rfl rfl rfl (by decide) (by decide) (by decide) HB1.out (fun x _=>(HFo.out x).mono (by rintro e w' ⟨rfl,rfl⟩; exact ⟨rfl,Turned.refl _ _⟩)) (fun x _=>cLeafCount _ _ x) ?_
 rintro a' x nb hs hd hoff x8 htx hnb hnl
 obtain ⟨cc,hcc,hce⟩:=expand49 (hs.trans rfl) (hd.trans rfl)
 have g0:=(hce 0).trans ((hoff 0 (by decide)).trans rfl)
 have g1:=(hce 1).trans ((hoff 1 (by decide)).trans rfl)
 have g5:=(hce 5).trans ((hoff 5 (by decide)).trans rfl)
 have g8:=(hce 8).trans x8
 have hTx:Turned [] w x:=HT1.out.trans htx
 have HTx:Hid (Turned [] w x):=hTx
 have HNB:Hid _:=hnb
 have hc2:x.cell? ⟨cb,2,none⟩=some (.int .i64 root):=by rw [cell_at (hTx.heap HO.out (by simp))]; rfl
 have hs0:x.cell? ⟨w.heap.size,0,none⟩=some (.int .i64 h):=by rw [cell_at (htx.heap HB1.out (by simp))]; rfl
 obtain ⟨⟨n0,n1,n2,n3,n4⟩,-⟩:=cells5 hnb
 have z2:=froz_at hnb 2
 have z3:=froz_at hnb 3
 have ne1:¬ cb=nb:=by have:=HT1.out.size; omega
 have ne2:¬ w.heap.size=nb:=by omega
 have lx:=htx.size
 have lnb:=lt_of_heap hnb
 have HNL:Hid _:=hnl
 clear hce hs hd hoff x8 htx hTx hnb hnl
 subst hcc
 simp only [lit49,g0,g1,g5,g8]
 clear g0 g1 g5 g8
 unfold pa
 go_wp2_with (go_at_call 77; refine (HSd.out _ _ _ _ (Tab.keep HT.out HTx.out (by simp))).mono ?_; rintro e x2 ⟨rfl,ht2⟩; have HT2:Hid (Turned [] x x2):=ht2; have HNB2:Hid _:=ht2.heap HNB.out (by simp); have hc2':=ht2.cell hc2 (by simp); have hs0':=ht2.cell hs0 (by simp); have n0':=ht2.cell n0 (by simp); have n1':=ht2.cell n1 (by simp); have n2':=ht2.cell n2 (by simp); have n3':=ht2.cell n3 (by simp); have n4':=ht2.cell n4 (by simp); have z2':=froz_at HNB2.out 2; have z3':=froz_at HNB2.out 3; clear ht2 hc2 hs0 n0 n1 n2 n3 n4 z2 z3)
 go_region
 have hnw:w.heap.size≤nb:=by have:=HT1.out.size; have:=HNL.out; omega
 go_wp2_with (go_at_call 43; refine (HTk.out _ ((((HTx.out.trans HT2.out).set (.inr hnw) _ _).set (.inr hnw) _ _).drew)).mono ?_; rintro e x3 ⟨rfl,hR⟩; have HRR:Hid _:=hR; clear hR)
 go_end0
 exact ⟨rfl,_,(((HTx.out.trans HT2.out).set (.inr hnw) _ _).set (.inr hnw) _ _).drew,HRR.out⟩
set_option maxRecDepth 100000 in
set_option maxHeartbeats 1600000 in
theorem join_walkI0 {f lh rh y0:Int} {q:Nat} (ho:w.heap[cb]?=some (chObj tb root old had gv mv err)) (hT:Tab w) (f0:0≤f) (f1:f+2 * 2 ^ q≤4294967296) (hq:q≤31) (hy0:0≤y0) (hy1:y0≤4096) (k0:0≤k) (k1:k≤4294967295) (l0:0≤f) (l1:f≤4294967295) (hne:k≠f) (hP:plc k f=P) (hp:P≤31) (hsd:hv k.toNat P % 2=0)
  (hTk:∀ x,Turned [] w x→Calls Tryz.prog 43 #[.pointer (some ⟨cb,0,none⟩),.iface 151 (.agg #[.int .i64 (fstK k P),.int .i64 P,.int .i64 root,.int .i64 h,.int .i64 (y0+1)])] x fun e w'=>e=.returned (.tuple #[])∧R x w') :
  Calls Tryz.prog 48 #[.pointer (some ⟨cb,0,none⟩),.int .i64 k,.agg #[.int .i64 h,.int .i64 a,.int .i64 b,.iface 151 (.agg #[.int .i64 f,.int .i64 q,.int .i64 lh,.int .i64 rh,.int .i64 y0])]] w fun e w'=>e=.returned (.tuple #[])∧∃ x,Turned [] w x∧R x w':=by
 have HSp:Hid (∀ x,Calls Tryz.prog 76 #[.agg #[.int .i64 f,.int .i64 q,.int .i64 lh,.int .i64 rh,.int .i64 y0]] x fun e w'=>e=.returned (.agg #[.int .i64 f,.int .i64 (f+2 * 2 ^ q - 1)])∧Turned [] x w'):=cInnerSpan _ _ _ f0 f1 hq
 generalize f+2 * 2 ^ q - 1=X at HSp
 have HY:Hid (0≤y0∧y0≤4096):=⟨hy0,hy1⟩
 clear f0 f1 hq hy0 hy1
 have mm:=m_inner_span
 have HFs:=fld_span0
 have HPl:Hid (∀ x,Tab x→Calls Tryz.prog 81 #[.int .i64 k,.int .i64 f] x fun e w'=>e=.returned (.tuple #[.int .i64 P,.int .i64 0])∧w'=x):=fun x hx=>by
  have:=cPlace hx k0 k1 l0 l1 hne
  rwa [hP] at this
 have HFo:Hid (∀ x,Calls Tryz.prog 82 #[.int .i64 k,.int .i64 P] x fun e w'=>e=.returned (.int .i64 (fstK k P))∧w'=x):=cFirstOf k0 k1 hp
 have HSd:Hid (∀ x l r y,Tab x→Calls Tryz.prog 77 #[.agg #[.int .i64 (fstK k P),.int .i64 P,.int .i64 l,.int .i64 r,.int .i64 y],.int .i64 k] x fun e w'=>e=.returned (.int .i64 0)∧Turned [] x w'):=fun x l r y hx=>cSide l r hx k0 k1 hp hsd
 have HO:Hid _:=ho
 have HT:Hid (Tab w):=hT
 have HTk:Hid _:=hTk
 have lcb:=lt_of_heap ho
 clear ho hT k0 k1 l0 l1 hne hP hp hsd hTk
 generalize fstK k P=fk at *
 go_enter Tryz.func48,Tryz.ntmps48
 go_wp2_with (first
  | (go_at_call 76; refine (HSp.out _).mono ?_; rintro e w1 ⟨rfl,ht1⟩; obtain ⟨hb1,htt⟩:=one_cells ht1; have HT1:Hid (Turned [] w w1):=htt; have HB1:Hid _:=hb1; have hlt1:w.heap.size < w1.heap.size:=lt_of_heap hb1; clear ht1 hb1 htt)
  | (go_at_call 81; refine (HPl.out _ (Tab.keep HT.out HT1.out (by simp))).mono ?_; rintro e w2 ⟨rfl,rfl⟩))
 refine join_r2I (sp:=w.heap.size) (k:=k) (fk:=fk) (p:=(P:Int)) (y0:=y0) (y1:=(y0+1)) (v:=.agg #[.int .i64 f,.int .i64 q,.int .i64 lh,.int .i64 rh,.int .i64 y0]) rfl rfl rfl rfl (by have:=HY.out; omega) (by have:=HY.out; omega) rfl HB1.out (fun x _=>(HFo.out x).mono (by rintro e w' ⟨rfl,rfl⟩; exact ⟨rfl,Turned.refl _ _⟩)) (fun x _=>cInnerCount _ _ _ _ _ x) ?_
 rintro a' x nb hs hd hoff x8 htx hnb hnl
 obtain ⟨cc,hcc,hce⟩:=expand49 (hs.trans rfl) (hd.trans rfl)
 have g0:=(hce 0).trans ((hoff 0 (by decide)).trans rfl)
 have g1:=(hce 1).trans ((hoff 1 (by decide)).trans rfl)
 have g5:=(hce 5).trans ((hoff 5 (by decide)).trans rfl)
 have g8:=(hce 8).trans x8
 have hTx:Turned [] w x:=HT1.out.trans htx
 have HTx:Hid (Turned [] w x):=hTx
 have HNB:Hid _:=hnb
 have hc2:x.cell? ⟨cb,2,none⟩=some (.int .i64 root):=by rw [cell_at (hTx.heap HO.out (by simp))]; rfl
 have hs0:x.cell? ⟨w.heap.size,0,none⟩=some (.int .i64 h):=by rw [cell_at (htx.heap HB1.out (by simp))]; rfl
 obtain ⟨⟨n0,n1,n2,n3,n4⟩,-⟩:=cells5 hnb
 have z2:=froz_at hnb 2
 have z3:=froz_at hnb 3
 have ne1:¬ cb=nb:=by have:=HT1.out.size; omega
 have ne2:¬ w.heap.size=nb:=by omega
 have lx:=htx.size
 have lnb:=lt_of_heap hnb
 have HNL:Hid _:=hnl
 clear hce hs hd hoff x8 htx hTx hnb hnl
 subst hcc
 simp only [lit49,g0,g1,g5,g8]
 clear g0 g1 g5 g8
 unfold pa
 go_wp2_with (go_at_call 77; refine (HSd.out _ _ _ _ (Tab.keep HT.out HTx.out (by simp))).mono ?_; rintro e x2 ⟨rfl,ht2⟩; have HT2:Hid (Turned [] x x2):=ht2; have HNB2:Hid _:=ht2.heap HNB.out (by simp); have hc2':=ht2.cell hc2 (by simp); have hs0':=ht2.cell hs0 (by simp); have n0':=ht2.cell n0 (by simp); have n1':=ht2.cell n1 (by simp); have n2':=ht2.cell n2 (by simp); have n3':=ht2.cell n3 (by simp); have n4':=ht2.cell n4 (by simp); have z2':=froz_at HNB2.out 2; have z3':=froz_at HNB2.out 3; clear ht2 hc2 hs0 n0 n1 n2 n3 n4 z2 z3)
 go_region
 have hnw:w.heap.size≤nb:=by have:=HT1.out.size; have:=HNL.out; omega
 go_wp2_with (go_at_call 43; refine (HTk.out _ ((((HTx.out.trans HT2.out).set (.inr hnw) _ _).set (.inr hnw) _ _).drew)).mono ?_; rintro e x3 ⟨rfl,hR⟩; have HRR:Hid _:=hR; clear hR)
 go_end0
 exact ⟨rfl,_,(((HTx.out.trans HT2.out).set (.inr hnw) _ _).set (.inr hnw) _ _).drew,HRR.out⟩
set_option maxRecDepth 100000 in
set_option maxHeartbeats 1600000 in
theorem join_walkI1 {f lh rh y0:Int} {q:Nat} (ho:w.heap[cb]?=some (chObj tb root old had gv mv err)) (hT:Tab w) (f0:0≤f) (f1:f+2 * 2 ^ q≤4294967296) (hq:q≤31) (hy0:0≤y0) (hy1:y0≤4096) (k0:0≤k) (k1:k≤4294967295) (l0:0≤f) (l1:f≤4294967295) (hne:k≠f) (hP:plc k f=P) (hp:P≤31) (hsd:hv k.toNat P % 2=1)
  (hTk:∀ x,Turned [] w x→Calls Tryz.prog 43 #[.pointer (some ⟨cb,0,none⟩),.iface 151 (.agg #[.int .i64 (fstK k P),.int .i64 P,.int .i64 h,.int .i64 root,.int .i64 (y0+1)])] x fun e w'=>e=.returned (.tuple #[])∧R x w') :
  Calls Tryz.prog 48 #[.pointer (some ⟨cb,0,none⟩),.int .i64 k,.agg #[.int .i64 h,.int .i64 a,.int .i64 b,.iface 151 (.agg #[.int .i64 f,.int .i64 q,.int .i64 lh,.int .i64 rh,.int .i64 y0])]] w fun e w'=>e=.returned (.tuple #[])∧∃ x,Turned [] w x∧R x w':=by
 have HSp:Hid (∀ x,Calls Tryz.prog 76 #[.agg #[.int .i64 f,.int .i64 q,.int .i64 lh,.int .i64 rh,.int .i64 y0]] x fun e w'=>e=.returned (.agg #[.int .i64 f,.int .i64 (f+2 * 2 ^ q - 1)])∧Turned [] x w'):=cInnerSpan _ _ _ f0 f1 hq
 generalize f+2 * 2 ^ q - 1=X at HSp
 have HY:Hid (0≤y0∧y0≤4096):=⟨hy0,hy1⟩
 clear f0 f1 hq hy0 hy1
 have mm:=m_inner_span
 have HFs:=fld_span0
 have HPl:Hid (∀ x,Tab x→Calls Tryz.prog 81 #[.int .i64 k,.int .i64 f] x fun e w'=>e=.returned (.tuple #[.int .i64 P,.int .i64 0])∧w'=x):=fun x hx=>by
  have:=cPlace hx k0 k1 l0 l1 hne
  rwa [hP] at this
 have HFo:Hid (∀ x,Calls Tryz.prog 82 #[.int .i64 k,.int .i64 P] x fun e w'=>e=.returned (.int .i64 (fstK k P))∧w'=x):=cFirstOf k0 k1 hp
 have HSd:Hid (∀ x l r y,Tab x→Calls Tryz.prog 77 #[.agg #[.int .i64 (fstK k P),.int .i64 P,.int .i64 l,.int .i64 r,.int .i64 y],.int .i64 k] x fun e w'=>e=.returned (.int .i64 1)∧Turned [] x w'):=fun x l r y hx=>cSide l r hx k0 k1 hp hsd
 have HO:Hid _:=ho
 have HT:Hid (Tab w):=hT
 have HTk:Hid _:=hTk
 have lcb:=lt_of_heap ho
 clear ho hT k0 k1 l0 l1 hne hP hp hsd hTk
 generalize fstK k P=fk at *
 go_enter Tryz.func48,Tryz.ntmps48
 go_wp2_with (first
  | (go_at_call 76; refine (HSp.out _).mono ?_; rintro e w1 ⟨rfl,ht1⟩; obtain ⟨hb1,htt⟩:=one_cells ht1; have HT1:Hid (Turned [] w w1):=htt; have HB1:Hid _:=hb1; have hlt1:w.heap.size < w1.heap.size:=lt_of_heap hb1; clear ht1 hb1 htt)
  | (go_at_call 81; refine (HPl.out _ (Tab.keep HT.out HT1.out (by simp))).mono ?_; rintro e w2 ⟨rfl,rfl⟩))
 refine join_r2I (sp:=w.heap.size) (k:=k) (fk:=fk) (p:=(P:Int)) (y0:=y0) (y1:=(y0+1)) (v:=.agg #[.int .i64 f,.int .i64 q,.int .i64 lh,.int .i64 rh,.int .i64 y0]) rfl rfl rfl rfl (by have:=HY.out; omega) (by have:=HY.out; omega) rfl HB1.out (fun x _=>(HFo.out x).mono (by rintro e w' ⟨rfl,rfl⟩; exact ⟨rfl,Turned.refl _ _⟩)) (fun x _=>cInnerCount _ _ _ _ _ x) ?_
 rintro a' x nb hs hd hoff x8 htx hnb hnl
 obtain ⟨cc,hcc,hce⟩:=expand49 (hs.trans rfl) (hd.trans rfl)
 have g0:=(hce 0).trans ((hoff 0 (by decide)).trans rfl)
 have g1:=(hce 1).trans ((hoff 1 (by decide)).trans rfl)
 have g5:=(hce 5).trans ((hoff 5 (by decide)).trans rfl)
 have g8:=(hce 8).trans x8
 have hTx:Turned [] w x:=HT1.out.trans htx
 have HTx:Hid (Turned [] w x):=hTx
 have HNB:Hid _:=hnb
 have hc2:x.cell? ⟨cb,2,none⟩=some (.int .i64 root):=by rw [cell_at (hTx.heap HO.out (by simp))]; rfl
 have hs0:x.cell? ⟨w.heap.size,0,none⟩=some (.int .i64 h):=by rw [cell_at (htx.heap HB1.out (by simp))]; rfl
 obtain ⟨⟨n0,n1,n2,n3,n4⟩,-⟩:=cells5 hnb
 have z2:=froz_at hnb 2
 have z3:=froz_at hnb 3
 have ne1:¬ cb=nb:=by have:=HT1.out.size; omega
 have ne2:¬ w.heap.size=nb:=by omega
 have lx:=htx.size
 have lnb:=lt_of_heap hnb
 have HNL:Hid _:=hnl
 clear hce hs hd hoff x8 htx hTx hnb hnl
 subst hcc
 simp only [lit49,g0,g1,g5,g8]
 clear g0 g1 g5 g8
 unfold pa
 go_wp2_with (go_at_call 77; refine (HSd.out _ _ _ _ (Tab.keep HT.out HTx.out (by simp))).mono ?_; rintro e x2 ⟨rfl,ht2⟩; have HT2:Hid (Turned [] x x2):=ht2; have HNB2:Hid _:=ht2.heap HNB.out (by simp); have hc2':=ht2.cell hc2 (by simp); have hs0':=ht2.cell hs0 (by simp); have n0':=ht2.cell n0 (by simp); have n1':=ht2.cell n1 (by simp); have n2':=ht2.cell n2 (by simp); have n3':=ht2.cell n3 (by simp); have n4':=ht2.cell n4 (by simp); have z2':=froz_at HNB2.out 2; have z3':=froz_at HNB2.out 3; clear ht2 hc2 hs0 n0 n1 n2 n3 n4 z2 z3)
 go_region
 have hnw:w.heap.size≤nb:=by have:=HT1.out.size; have:=HNL.out; omega
 go_wp2_with (go_at_call 43; refine (HTk.out _ ((((HTx.out.trans HT2.out).set (.inr hnw) _ _).set (.inr hnw) _ _).drew)).mono ?_; rintro e x3 ⟨rfl,hR⟩; have HRR:Hid _:=hR; clear hR)
 go_end0
 exact ⟨rfl,_,(((HTx.out.trans HT2.out).set (.inr hnw) _ _).set (.inr hnw) _ _).drew,HRR.out⟩
end
end Go.Proofs.YtloljphbdfjgdaaGreatDoor
/- Package trie's join, alone, by contract. -/
namespace Go.Proofs.YtloljphbdfjgdaaGreatDoor
open Go.RowKit
theorem Tr.put_out {g:Nat→Int} {k v:Int} {p:Nat} {b:Int}:∀ {e:Tr},e.WF→(k < e.lo∨e.hi < k)→Tr.put g k v p b e=if k < e.lo then (Tr.node (g 1) p b (Tr.leaf (g 0) k v) e,2) else (Tr.node (g 1) p b e (Tr.leaf (g 0) k v),2)
 | .leaf h k' v',_,hk=>by
  have:¬ k'=k:=by simp only [Tr.lo,Tr.hi] at hk; omega
  simp only [Tr.put,Tr.lo]
  rw [if_neg this]
  by_cases hlt:k < k' <;> simp [hlt]
 | .node h q c l r,_,hk=>by
  simp only [Tr.lo,Tr.hi] at hk
  have hp:=Tr.pow_pos' q
  simp only [Tr.put,Tr.lo]
  rw [if_neg (by omega),if_neg (by omega)]
  by_cases hlt:k < c <;> simp [hlt]
section
variable {w:World} {B cb tb p it m P:Nat} {F:List Nat} {s s':PSt} {St:List Nat} {root old err k v a b bb:Int} {had:Bool} {gv mv:Value} {gone:List Int}
theorem cJoin {e:Tr} (hC:CG B w cb tb p F s' root old had gv mv gone (Tr.mades (gOf s St) m) err) (hO:OkU s St it s' m root err (Tr.leaf (gOf s St 0) k v,1)) (hT:Tab w) (he:e.WF) (hR:Rep s e) (hcnt:e.cnt≤4096) (k0:0≤k) (k1:k≤4294967295) (hout:k < e.lo∨e.hi < k) (hplc:plc k e.lo=P) (hP:Tr.Parts k e.lo P (fstK k P)) (hB:B≤w.heap.size) (hit:it≤900000000) :
  Calls Tryz.prog 48 #[.pointer (some ⟨cb,0,none⟩),.int .i64 k,.agg #[.int .i64 e.hd,.int .i64 a,.int .i64 b,nv e]] w fun e' w'=>e'=.returned (.tuple #[])∧∃ F' mv' s2 m2 root2 err2,CG B w' cb tb p F' s2 root2 old had gv mv' gone (Tr.mades (gOf s St) m2) err2∧OkU s St it s2 m2 root2 err2 (Tr.put (gOf s St) k v P (fstK k P) e)∧Turned (cb :: (mv.ownBlock.toList ++ F)) w w'∧Wider F F' w∧(∀ g,mv'.ownBlock=some g→mv.ownBlock=some g∨w.heap.size≤g):=by
 have hsp:=he.span
 have hne:k≠e.lo:=by have:=hsp.2.1; omega
 have l0:0≤e.lo:=by have:=hsp.2.1; omega
 have l1:e.lo≤4294967295:=by have:=hsp.2.1; omega
 have hp31:=hP.p31
 have fb0:=hP.b0
 have fb1:fstK k P≤4294967295:=by have:=hP.b1; have:=Tr.pow_pos' P; omega
 have fin:∀ {t':Tr} {xb xc y:Int},y=((e.cnt:Nat):Int)+1→t'.hd=gOf s St 1→Tr.put (gOf s St) k v P (fstK k P) e=(t',2)→(root=gOf s St 0→Rep s' (Tr.leaf (gOf s St 0) k v)→∀ s'',Ct s'' (gOf s St 1) ⟨fstK k P * 64+P+1,xb,xc,y⟩→(∀ h x,Ct s' h x→Ct s'' h x)→Rep s'' t')→∀ x,Turned [] w x →
   Calls Tryz.prog 43 #[.pointer (some ⟨cb,0,none⟩),.iface 151 (.agg #[.int .i64 (fstK k P),.int .i64 P,.int .i64 xb,.int .i64 xc,.int .i64 y])] x fun e' w'=>e'=.returned (.tuple #[])∧∃ F' mv' s2 m2 root2 err2,CG B w' cb tb p F' s2 root2 old had gv mv' gone (Tr.mades (gOf s St) m2) err2∧OkU s St it s2 m2 root2 err2 (Tr.put (gOf s St) k v P (fstK k P) e)∧Turned (cb :: (mv.ownBlock.toList ++ F)) x w'∧Wider F F' x∧(∀ g,mv'.ownBlock=some g→mv.ownBlock=some g∨x.heap.size≤g):=by
  intro t' xb xc y hy hd hpe hrep x htx
  refine (cTakeU (u:=(Tr.leaf (gOf s St 0) k v,1)) (t':=t') (hC.still htx) hO (Nat.le_trans hB htx.size) hit (by show 1≤1000; decide) (cNumInner xb xc _ fb0 fb1 hp31) hd (fun _ hr hR=>hrep hr hR)).mono ?_
  rintro e' w' ⟨rfl,F',mv',s2,m2,root2,err2,hc2,ho2,ht2,hW2,hm2⟩
  refine ⟨rfl,F',mv',s2,m2,root2,err2,hc2,?_,ht2,hW2,hm2⟩
  rw [hpe]
  exact ho2
 have post:∀ {e':Ending} {w':World},(e'=.returned (.tuple #[])∧∃ x,Turned [] w x∧∃ F' mv' s2 m2 root2 err2,CG B w' cb tb p F' s2 root2 old had gv mv' gone (Tr.mades (gOf s St) m2) err2∧OkU s St it s2 m2 root2 err2 (Tr.put (gOf s St) k v P (fstK k P) e)∧Turned (cb :: (mv.ownBlock.toList ++ F)) x w'∧Wider F F' x∧(∀ g,mv'.ownBlock=some g→mv.ownBlock=some g∨x.heap.size≤g))→e'=.returned (.tuple #[])∧∃ F' mv' s2 m2 root2 err2,CG B w' cb tb p F' s2 root2 old had gv mv' gone (Tr.mades (gOf s St) m2) err2∧OkU s St it s2 m2 root2 err2 (Tr.put (gOf s St) k v P (fstK k P) e)∧Turned (cb :: (mv.ownBlock.toList ++ F)) w w'∧Wider F F' w∧(∀ g,mv'.ownBlock=some g→mv.ownBlock=some g∨w.heap.size≤g):=by
  rintro e' w' ⟨rfl,x,htx,F',mv',s2,m2,root2,err2,hc2,ho2,ht2,hW2,hm2⟩
  have:=htx.size
  exact ⟨rfl,F',mv',s2,m2,root2,err2,hc2,ho2,(htx.mono (by simp)).trans ht2,fun z hz=>(hW2 z hz).imp id (fun h=>by omega),fun g hg=>(hm2 g hg).imp id (fun h=>by omega)⟩
 have hpo:=Tr.put_out (g:=gOf s St) (v:=v) (p:=P) (b:=fstK k P) he hout
 have rp0:k < e.lo→root=gOf s St 0→Rep s' (Tr.leaf (gOf s St 0) k v)→∀ s'',Ct s'' (gOf s St 1) ⟨fstK k P * 64+P+1,root,e.hd,((e.cnt:Nat):Int)+1⟩→(∀ h x,Ct s' h x→Ct s'' h x)→Rep s'' (Tr.node (gOf s St 1) P (fstK k P) (Tr.leaf (gOf s St 0) k v) e):=by
  intro _ hr hL s'' hct hk
  refine ⟨?_,hk _ _ hL,hR.keep (fun h x _ hx=>hk h x (hO.mkd.ct h x hx))⟩
  rw [hr,show ((e.cnt:Nat):Int)+1=((1+e.cnt:Nat):Int) by omega] at hct
  exact hct
 have rp1:root=gOf s St 0→Rep s' (Tr.leaf (gOf s St 0) k v)→∀ s'',Ct s'' (gOf s St 1) ⟨fstK k P * 64+P+1,e.hd,root,((e.cnt:Nat):Int)+1⟩→(∀ h x,Ct s' h x→Ct s'' h x)→Rep s'' (Tr.node (gOf s St 1) P (fstK k P) e (Tr.leaf (gOf s St 0) k v)):=by
  intro hr hL s'' hct hk
  refine ⟨?_,hR.keep (fun h x _ hx=>hk h x (hO.mkd.ct h x hx)),hk _ _ hL⟩
  rw [hr,show ((e.cnt:Nat):Int)+1=((e.cnt+1:Nat):Int) by omega] at hct
  exact hct
 rcases hP.side he hout with ⟨h1,h2,h3,h4⟩ | ⟨h1,h2,h3,h4⟩
 ·have hsd:=bit_low (p:=P) k0 hP.low h1 h2
  have hlt:k < e.lo:=by omega
  rw [if_pos hlt] at hpo
  have hF:=fun {y:Int} (hy:y=((e.cnt:Nat):Int)+1)=>fin (xb:=root) (xc:=e.hd) hy rfl hpo (by rw [hy]; exact rp0 hlt)
  cases e with
  | leaf h kk vv=>exact (join_walkL0 hC.obj hT k0 k1 l0 l1 hne hplc hp31 hsd (hF (y:=2) rfl)).mono fun _ _ h=>post h
  | node h q c l r=>exact (join_walkI0 (y0:=((l.cnt+r.cnt:Nat):Int)) hC.obj hT he.2.1 he.2.2.1 he.1 (by omega) (by rw [Tr.cnt_node] at hcnt; omega) k0 k1 l0 l1 hne hplc hp31 hsd (hF (y:=((l.cnt+r.cnt:Nat):Int)+1) (by rw [Tr.cnt_node]))).mono fun _ _ h=>post h
 ·have hsd:=bit_high (p:=P) k0 hP.low h3 h4
  have hlt:¬ k < e.lo:=by have:=hsp.2.1; omega
  rw [if_neg hlt] at hpo
  have hF:=fun {y:Int} (hy:y=((e.cnt:Nat):Int)+1)=>fin (xb:=e.hd) (xc:=root) hy rfl hpo (by rw [hy]; exact rp1)
  cases e with
  | leaf h kk vv=>exact (join_walkL1 hC.obj hT k0 k1 l0 l1 hne hplc hp31 hsd (hF (y:=2) rfl)).mono fun _ _ h=>post h
  | node h q c l r=>exact (join_walkI1 (y0:=((l.cnt+r.cnt:Nat):Int)) hC.obj hT he.2.1 he.2.2.1 he.1 (by omega) (by rw [Tr.cnt_node] at hcnt; omega) k0 k1 l0 l1 hne hplc hp31 hsd (hF (y:=((l.cnt+r.cnt:Nat):Int)+1) (by rw [Tr.cnt_node]))).mono fun _ _ h=>post h
end
end Go.Proofs.YtloljphbdfjgdaaGreatDoor

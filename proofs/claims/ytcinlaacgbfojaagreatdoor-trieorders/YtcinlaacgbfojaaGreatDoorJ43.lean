/- Drawn regions of TrieOrders: a change's answer is laid into a new block. (Written by tools/gen/genord.py.) -/
import Derived.Test.YtcinlaacgbfojaaGreatDoorJ42
import Derived.Test.YtcinlaacgbfojaaGreatDoorJ39
import Derived.Test.YtcinlaacgbfojaaGreatDoorJ03
namespace Go.Proofs.YtcinlaacgbfojaaGreatDoor
open Go.RowKit
structure EdV where
 root:Int
 old:Int
 had:Bool
 ga:Option Addr
 gl:Nat
 gc:Nat
 ma:Option Addr
 ml:Nat
 mc:Nat
 er:Int
def editZ:Obj:=.cells #[.int .i64 0,.int .i64 0,.bool false,.slice none 0 0,.slice none 0 0] 39 (0,0)
def editV (v:EdV):Obj:=.cells #[.int .i64 v.root,.int .i64 v.old,.bool v.had,.slice v.ga v.gl v.gc,.slice v.ma v.ml v.mc] 39 (0,0)
structure GE where
 ca:Option EdV
 nb:Option Nat
 st:Bool
def doneE (c a s:Nat) (g:GE) (i:Nat):Bool:=if i=c then g.ca.isSome else if i=a then g.nb.isSome else if i=s then g.st else false
structure SE (P0:World→Prop) (P1:EdV→World→Prop) (w:World) (g:GE) (x:World):Prop where
 p0:g.ca=none→P0 x
 p1:∀ v,g.ca=some v→P1 v x
 box:∀ nb,g.nb=some nb→w.heap.size≤nb∧x.heap[nb]?=some (match g.st,g.ca with | true,some v=>editV v | _,_=>editZ)
theorem SE.size {P0:World→Prop} {P1:EdV→World→Prop} {w x:World} {g:GE} (h:SE P0 P1 w g x) (h0:∀ x,P0 x→w.heap.size≤x.heap.size) (h1:∀ v x,P1 v x→w.heap.size≤x.heap.size):w.heap.size≤x.heap.size:=by
 cases hc:g.ca with
 | none=>exact h0 x (h.p0 hc)
 | some v=>exact h1 v x (h.p1 v hc)
theorem SE.c {P0:World→Prop} {P1:EdV→World→Prop} {C:World→Prop} {w x:World} {g:GE} (h:SE P0 P1 w g x) (h0:∀ x,P0 x→C x) (h1:∀ v x,P1 v x→C x):C x:=by
 cases hc:g.ca with
 | none=>exact h0 x (h.p0 hc)
 | some v=>exact h1 v x (h.p1 v hc)
def to_r27V (tb rb kb kl kc k jj:Nat) (rt ky vy:Int) (g:GE):Nat→Value:=fun j=>match j with | 0=>(pa tb 0) | 1=>(Value.int IntKind.i64 k) | 2=>(pa rb k) | 3=>(Value.int IntKind.i64 rt) | 4=>(Value.slice (some ⟨kb,0,none⟩) kl kc) | 5=>(Value.int IntKind.i64 jj) | 6=>(pa kb (jj * 2)) | 7=>(pa kb (jj * 2)) | 8=>(Value.int IntKind.i64 ky) | 9=>(Value.slice (some ⟨kb,0,none⟩) kl kc) | 10=>(Value.int IntKind.i64 jj) | 11=>(pa kb (jj * 2)) | 12=>(pa kb (jj * 2+1)) | 13=>(Value.int IntKind.i64 vy) | 14=>(match g.ca with | some v=>Value.tuple #[(.agg #[.int .i64 v.root,.int .i64 v.old,.bool v.had,.slice v.ga v.gl v.gc,.slice v.ma v.ml v.mc]),.int .i64 v.er] | none=>undef) | 15=>(match g.ca with | some v=>Value.tuple #[(.agg #[.int .i64 v.root,.int .i64 v.old,.bool v.had,.slice v.ga v.gl v.gc,.slice v.ma v.ml v.mc]),.int .i64 v.er] | none=>undef) | 16=>(match g.ca with | some v=>Value.agg #[.int .i64 v.root,.int .i64 v.old,.bool v.had,.slice v.ga v.gl v.gc,.slice v.ma v.ml v.mc] | none=>undef) | 17=>(match g.ca with | some v=>Value.int IntKind.i64 v.er | none=>undef) | 18=>(pa (g.nb.getD 0) 0) | 19=>undef | 20=>(match g.ca with | some v=>Value.int IntKind.i64 v.er | none=>undef) | _=>undef
set_option maxRecDepth 100000 in
set_option maxHeartbeats 1600000 in
theorem to_r27 {tb rb kb kl kc k jj:Nat} {rt ky vy:Int} {P0:World→Prop} {P1:EdV→World→Prop} {K:Act→World→Prop} {Q:Exit→Act→World→Prop} {a0:Act} {w:World} (hs:a0.tmps.size=255) {C:World→Prop} (x14:a0.eval (.tmp 14)=pa tb 0) (x16:a0.eval (.tmp 16)=.int .i64 k) (x15:a0.eval (.tmp 15)=pa rb 0) (x8:a0.eval (.tmp 8)=.slice (some ⟨kb,0,none⟩) kl kc) (x18:a0.eval (.tmp 18)=.int .i64 jj) (hk:k < 2) (hj:jj < kl) (hc0:∀ x,P0 x→C x) (hc1:∀ v x,P1 v x→C x) (hcc:∀ x,C x→x.cell? ⟨rb,k,none⟩=some (.int .i64 rt)∧x.cell? ⟨kb,jj * 2,none⟩=some (.int .i64 ky)∧x.cell? ⟨kb,jj * 2+1,none⟩=some (.int .i64 vy))
  (hA:P0 w.drew) (hP0:∀ x y,P0 x→Turned [] x y→P0 y) (hP1:∀ v x y,P1 v x→Turned [] x y→P1 v y) (hP2:∀ v x y nb,P1 v x→x.heap[nb]?=some editZ→w.heap.size≤nb→Turned [nb] x y→P1 v y) (hL0:∀ x,P0 x→w.heap.size≤x.heap.size) (hL1:∀ v x,P1 v x→w.heap.size≤x.heap.size)
  (hCall:∀ x,P0 x→Calls Tryz.prog 10 #[pa tb 0,.pointer none,.int .i64 rt,.int .i64 ky,.int .i64 vy] x fun e w'=>∃ v:EdV,e=.returned (.tuple #[(.agg #[.int .i64 v.root,.int .i64 v.old,.bool v.had,.slice v.ga v.gl v.gc,.slice v.ma v.ml v.mc]),.int .i64 v.er])∧KeepT x w'∧P1 v w')
  (hEnd:∀ a' x nb v,a'.tmps.size=a0.tmps.size→a'.defers=a0.defers→(∀ s,some s∉([some 133,some 134,some 135,some 136,some 137,some 138,some 139,some 140,some 141,some 142,some 143,some 144,some 145,some 146,some 147,some 132,some 148,some 149,some 19,none,some 20]:List (Option Nat))→a'.eval (.tmp s)=a0.eval (.tmp s))→a'.eval (.tmp 19)=pa nb 0→a'.eval (.tmp 20)=.int .i64 v.er→P1 v x→x.heap[nb]?=some (editV v)→w.heap.size≤nb→K a' x):(Code.region 27 (opsOf 27 Tryz.f3.body) true).wp Tryz.prog (Exit.then K Q) a0 w:=by
 refine wp_region_ghost3 (G:=GE) (by kernel_rfl) [some 133,some 134,some 135,some 136,some 137,some 138,some 139,some 140,some 141,some 142,some 143,some 144,some 145,some 146,some 147,some 132,some 148,some 149,some 19,none,some 20] (by rw [hs]; kernel_rfl) (to_r27V tb rb kb kl kc k jj rt ky vy) [14,18,19] ?_ (doneE 14 18 19) (SE P0 P1 w) (⟨none,none,false⟩) (⟨fun _=>hA,(fun v h=>by cases h),fun nb hnb=>(by cases hnb)⟩) (by intro x hx; simp at hx; rcases hx with rfl | rfl | rfl <;> rfl) (by decide) ?_ ?_
 ·exact fun i g b h _=>absurd h (noG (by kernel_rfl) i g b)
 ·intro i hi hgd
  rcases (by simp at hi; omega:i=0∨i=1∨i=2∨i=3∨i=4∨i=5∨i=6∨i=7∨i=8∨i=9∨i=10∨i=11∨i=12∨i=13∨i=14∨i=15∨i=16∨i=17∨i=18∨i=19∨i=20) with rfl | rfl | rfl | rfl | rfl | rfl | rfl | rfl | rfl | rfl | rfl | rfl | rfl | rfl | rfl | rfl | rfl | rfl | rfl | rfl | rfl
  ·refine soft (by decide) ?_
   intro o ac wa g ho hoff hv hS hdn
   exact (x_move (op_is rfl ho)).trans (by rw [((hoff 14 (by decide)).trans x14)]; rfl)
  ·refine soft (by decide) ?_
   intro o ac wa g ho hoff hv hS hdn
   exact (x_move (op_is rfl ho)).trans (by rw [((hoff 16 (by decide)).trans x16)]; rfl)
  ·refine soft (by decide) ?_
   intro o ac wa g ho hoff hv hS hdn
   have hlt:(k:Int) < 2:=by omega
   exact x_index (op_is rfl ho) (by rw [((hoff 15 (by decide)).trans x15),(hv 1 134 rfl (by kernel_rfl))]; show (Instr.indexAt _ (pa _ _) (Value.int _ _)).run _ _=.ok (pa _ _) _; unfold pa; go_simp)
  ·refine soft (by decide) ?_
   intro o ac wa g ho hoff hv hS hdn
   have hc:=(hcc _ (hS.c hc0 hc1)).1
   exact x_load (op_is rfl ho) (by rw [(hv 2 135 rfl (by kernel_rfl))]; show (Instr.loadAt _ (pa _ _)).run _ _=_; unfold pa; go_simp; first | rfl | skip)
  ·refine soft (by decide) ?_
   intro o ac wa g ho hoff hv hS hdn
   exact (x_move (op_is rfl ho)).trans (by rw [((hoff 8 (by decide)).trans x8)]; rfl)
  ·refine soft (by decide) ?_
   intro o ac wa g ho hoff hv hS hdn
   exact (x_move (op_is rfl ho)).trans (by rw [((hoff 18 (by decide)).trans x18)]; rfl)
  ·refine soft (by decide) ?_
   intro o ac wa g ho hoff hv hS hdn
   have hlt:(jj:Int) < kl:=by omega
   exact x_index (op_is rfl ho) (by rw [(hv 4 137 rfl (by kernel_rfl)),(hv 5 138 rfl (by kernel_rfl))]; show (Instr.indexAt _ (Value.slice _ _ _) (Value.int _ _)).run _ _=.ok (pa _ _) _; unfold pa; go_simp)
  ·refine soft (by decide) ?_
   intro o ac wa g ho hoff hv hS hdn
   exact x_field (op_is rfl ho) (by rw [(hv 6 139 rfl (by kernel_rfl))]; show (Instr.fieldAt _ (pa _ _) _).run _ _=.ok (pa _ _) _; unfold pa; go_simp)
  ·refine soft (by decide) ?_
   intro o ac wa g ho hoff hv hS hdn
   have hc:=(hcc _ (hS.c hc0 hc1)).2.1
   exact x_load (op_is rfl ho) (by rw [(hv 7 140 rfl (by kernel_rfl))]; show (Instr.loadAt _ (pa _ _)).run _ _=_; unfold pa; go_simp; first | rfl | skip)
  ·refine soft (by decide) ?_
   intro o ac wa g ho hoff hv hS hdn
   exact (x_move (op_is rfl ho)).trans (by rw [((hoff 8 (by decide)).trans x8)]; rfl)
  ·refine soft (by decide) ?_
   intro o ac wa g ho hoff hv hS hdn
   exact (x_move (op_is rfl ho)).trans (by rw [((hoff 18 (by decide)).trans x18)]; rfl)
  ·refine soft (by decide) ?_
   intro o ac wa g ho hoff hv hS hdn
   have hlt:(jj:Int) < kl:=by omega
   exact x_index (op_is rfl ho) (by rw [(hv 9 142 rfl (by kernel_rfl)),(hv 10 143 rfl (by kernel_rfl))]; show (Instr.indexAt _ (Value.slice _ _ _) (Value.int _ _)).run _ _=.ok (pa _ _) _; unfold pa; go_simp)
  ·refine soft (by decide) ?_
   intro o ac wa g ho hoff hv hS hdn
   exact x_field (op_is rfl ho) (by rw [(hv 11 144 rfl (by kernel_rfl))]; show (Instr.fieldAt _ (pa _ _) _).run _ _=.ok (pa _ _) _; unfold pa; go_simp)
  ·refine soft (by decide) ?_
   intro o ac wa g ho hoff hv hS hdn
   have hc:=(hcc _ (hS.c hc0 hc1)).2.2
   exact x_load (op_is rfl ho) (by rw [(hv 12 145 rfl (by kernel_rfl))]; show (Instr.loadAt _ (pa _ _)).run _ _=_; unfold pa; go_simp; first | rfl | skip)
  ·intro o ac wa g K ho hd _ hoff hv hS hpre hnd hlater hK
   have hg:g.ca=none:=by have:=hnd (by simp); simpa [doneE] using this
   have hst:g.st=false:=by
    have:=hlater 19 (by simp) (by kernel_rfl)
    simpa [doneE] using this
   refine l_callE (op_is rfl ho) (xs:=#[pa tb 0,.pointer none,.int .i64 rt,.int .i64 ky,.int .i64 vy]) (by simp only [List.map_toArray,List.map_cons,List.map_nil]; rw [(hv 0 133 rfl (by kernel_rfl)),(hv 3 136 rfl (by kernel_rfl)),(hv 8 141 rfl (by kernel_rfl)),(hv 13 146 rfl (by kernel_rfl))]; rfl) Tryz.func10 (by kernel_rfl) rfl (hCall wa (hS.p0 hg)) ?_
   rintro e w' ⟨v,rfl,hkp,hp⟩
   refine ⟨_,rfl,?_⟩
   rw [hd]
   refine hK { g with ca:=some v } w' ⟨(fun h=>by cases h),(fun v' h=>by cases h; exact hp),fun nb hnb=>⟨(hS.box nb hnb).1,?_⟩⟩ (by intro x hx; simp at hx; rcases hx with rfl | rfl | rfl <;> simp [doneE,hg]) fun j hj hr=>?_
   ·have hb:=(hS.box nb hnb).2
    simp only [hst] at hb ⊢
    exact hkp.blk _ _ _ (by decide) hb
   ·match j,hr with
    | 0,_=>rfl
    | 1,_=>rfl
    | 2,_=>rfl
    | 3,_=>rfl
    | 4,_=>rfl
    | 5,_=>rfl
    | 6,_=>rfl
    | 7,_=>rfl
    | 8,_=>rfl
    | 9,_=>rfl
    | 10,_=>rfl
    | 11,_=>rfl
    | 12,_=>rfl
    | 13,_=>rfl
    | 14,_=>exact absurd rfl hj
    | 15,hr=>exact absurd (hr.symm.trans (by kernel_rfl:reachB (opsOf 27 Tryz.f3.body) (opsOf 27 Tryz.f3.body).size 15 14=true)) (by decide)
    | 16,hr=>exact absurd (hr.symm.trans (by kernel_rfl:reachB (opsOf 27 Tryz.f3.body) (opsOf 27 Tryz.f3.body).size 16 14=true)) (by decide)
    | 17,hr=>exact absurd (hr.symm.trans (by kernel_rfl:reachB (opsOf 27 Tryz.f3.body) (opsOf 27 Tryz.f3.body).size 17 14=true)) (by decide)
    | 18,_=>rfl
    | 19,_=>rfl
    | 20,hr=>exact absurd (hr.symm.trans (by kernel_rfl:reachB (opsOf 27 Tryz.f3.body) (opsOf 27 Tryz.f3.body).size 20 14=true)) (by decide)
    | k+21,_=>rfl
  ·refine soft (by decide) ?_
   intro o ac wa g ho hoff hv hS hdn
   exact (x_move (op_is rfl ho)).trans (by rw [(hv 14 147 rfl (by kernel_rfl))]; rfl)
  ·refine soft (by decide) ?_
   intro o ac wa g ho hoff hv hS hdn
   obtain ⟨v,hv2⟩:=Option.isSome_iff_exists.1 (show g.ca.isSome=true from by have:=hdn 14 (by simp) (by kernel_rfl); simpa [doneE] using this)
   exact (x_extrQ (v:=Value.agg #[.int .i64 v.root,.int .i64 v.old,.bool v.had,.slice v.ga v.gl v.gc,.slice v.ma v.ml v.mc]) (op_is rfl ho) ((hv 15 132 rfl (by kernel_rfl)).trans (by show (match g.ca with | some v=>Value.tuple #[(.agg #[.int .i64 v.root,.int .i64 v.old,.bool v.had,.slice v.ga v.gl v.gc,.slice v.ma v.ml v.mc]),.int .i64 v.er] | none=>undef)=Value.tuple #[(.agg #[.int .i64 v.root,.int .i64 v.old,.bool v.had,.slice v.ga v.gl v.gc,.slice v.ma v.ml v.mc]),.int .i64 v.er]; rw [hv2])) rfl).trans (by show _=Result.ok (Next.value (match g.ca with | some v=>Value.agg #[.int .i64 v.root,.int .i64 v.old,.bool v.had,.slice v.ga v.gl v.gc,.slice v.ma v.ml v.mc] | none=>undef)) _; rw [hv2])
  ·refine soft (by decide) ?_
   intro o ac wa g ho hoff hv hS hdn
   obtain ⟨v,hv2⟩:=Option.isSome_iff_exists.1 (show g.ca.isSome=true from by have:=hdn 14 (by simp) (by kernel_rfl); simpa [doneE] using this)
   exact (x_extrQ (v:=Value.int IntKind.i64 v.er) (op_is rfl ho) ((hv 15 132 rfl (by kernel_rfl)).trans (by show (match g.ca with | some v=>Value.tuple #[(.agg #[.int .i64 v.root,.int .i64 v.old,.bool v.had,.slice v.ga v.gl v.gc,.slice v.ma v.ml v.mc]),.int .i64 v.er] | none=>undef)=Value.tuple #[(.agg #[.int .i64 v.root,.int .i64 v.old,.bool v.had,.slice v.ga v.gl v.gc,.slice v.ma v.ml v.mc]),.int .i64 v.er]; rw [hv2])) rfl).trans (by show _=Result.ok (Next.value (match g.ca with | some v=>Value.int IntKind.i64 v.er | none=>undef)) _; rw [hv2])
  ·intro o ac wa g K ho hd _ hoff hv hS hpre hnd hlater hK
   have hg:g.nb=none:=by have:=hnd (by simp); simpa [doneE] using this
   have hst:g.st=false:=by
    have:=hlater 19 (by simp) (by kernel_rfl)
    simpa [doneE] using this
   have T0:Turned [] wa (wa.alloc editZ):=(Turned.refl [] _).alloc _
   refine l_val hd (x_alloc (op_is rfl ho) (v:=pa wa.heap.size 0) (w':=wa.alloc editZ) (by unfold pa editZ; go_simp)) ?_
   refine hK { g with nb:=some wa.heap.size } _ ⟨fun h=>hP0 _ _ (hS.p0 h) T0,fun v h=>hP1 _ _ _ (hS.p1 v h) T0,fun nb hnb=>?_⟩ (by intro x hx; simp at hx; rcases hx with rfl | rfl | rfl <;> simp [doneE,hg]) fun j hj hr=>?_
   ·cases hnb
    refine ⟨hS.size hL0 hL1,?_⟩
    simp only [hst]
    exact blk_new _ _
   ·match j,hr with
    | 0,_=>rfl
    | 1,_=>rfl
    | 2,_=>rfl
    | 3,_=>rfl
    | 4,_=>rfl
    | 5,_=>rfl
    | 6,_=>rfl
    | 7,_=>rfl
    | 8,_=>rfl
    | 9,_=>rfl
    | 10,_=>rfl
    | 11,_=>rfl
    | 12,_=>rfl
    | 13,_=>rfl
    | 14,_=>rfl
    | 15,_=>rfl
    | 16,_=>rfl
    | 17,_=>rfl
    | 18,_=>exact absurd rfl hj
    | 19,hr=>exact absurd (hr.symm.trans (by kernel_rfl:reachB (opsOf 27 Tryz.f3.body) (opsOf 27 Tryz.f3.body).size 19 18=true)) (by decide)
    | 20,_=>rfl
    | k+21,_=>rfl
  ·intro o ac wa g K ho hd _ hoff hv hS hpre hnd hlater hK
   obtain ⟨nb,hnb⟩:=Option.isSome_iff_exists.1 (show g.nb.isSome=true from by have:=hpre 18 (by simp) (by kernel_rfl); simpa [doneE] using this)
   obtain ⟨v,hv2⟩:=Option.isSome_iff_exists.1 (show g.ca.isSome=true from by have:=hpre 14 (by simp) (by kernel_rfl); simpa [doneE] using this)
   have hst:g.st=false:=by have:=hnd (by simp); simpa [doneE] using this
   have e1:=(hv 18 19 rfl (by kernel_rfl))
   have e2:=(hv 16 148 rfl (by kernel_rfl))
   have hb:=(hS.box nb hnb).2
   have hbn:=(hS.box nb hnb).1
   simp only [hst] at hb
   have c0:wa.cell? ⟨nb,0,none⟩=some (.int .i64 0):=cell_at hb 0
   have c1:wa.cell? ⟨nb,1,none⟩=some (.int .i64 0):=cell_at hb 1
   have c2:wa.cell? ⟨nb,2,none⟩=some (.bool false):=cell_at hb 2
   have c3:wa.cell? ⟨nb,3,none⟩=some (.slice none 0 0):=cell_at hb 3
   have c4:wa.cell? ⟨nb,4,none⟩=some (.slice none 0 0):=cell_at hb 4
   have z:=froz_at hb
   refine l_skip hd (w':=(((((wa.setCell ⟨nb,0,none⟩ (.int .i64 v.root)).setCell ⟨nb,1,none⟩ (.int .i64 v.old)).setCell ⟨nb,2,none⟩ (.bool v.had)).setCell ⟨nb,3,none⟩ (.slice v.ga v.gl v.gc)).setCell ⟨nb,4,none⟩ (.slice v.ma v.ml v.mc))) (x_store (op_is rfl ho) (by
    rw [e1,e2]
    show (Instr.storeAt _ (pa (g.nb.getD 0) 0) (match g.ca with | some v=>Value.agg #[.int .i64 v.root,.int .i64 v.old,.bool v.had,.slice v.ga v.gl v.gc,.slice v.ma v.ml v.mc] | none=>undef)).run _ _=_
    rw [hnb,hv2]
    show (Instr.storeAt _ (pa nb 0) (Value.agg #[.int .i64 v.root,.int .i64 v.old,.bool v.had,.slice v.ga v.gl v.gc,.slice v.ma v.ml v.mc])).run _ _=_
    unfold pa
    go_simp)) ?_
   have htn:Turned [nb] wa (((((wa.setCell ⟨nb,0,none⟩ (.int .i64 v.root)).setCell ⟨nb,1,none⟩ (.int .i64 v.old)).setCell ⟨nb,2,none⟩ (.bool v.had)).setCell ⟨nb,3,none⟩ (.slice v.ga v.gl v.gc)).setCell ⟨nb,4,none⟩ (.slice v.ma v.ml v.mc)):=edit_turned wa nb _ _ _ _ _
   refine hK { g with st:=true } _ ⟨(fun h=>by rw [hv2] at h; cases h),(fun v' h=>hP2 _ _ _ nb (hS.p1 v' h) hb hbn htn),fun nb' hnb'=>?_⟩ (by intro x hx; simp at hx; rcases hx with rfl | rfl | rfl <;> simp [doneE]) fun j hj hr=>?_
   ·have:nb'=nb:=by rw [hnb] at hnb'; cases hnb'; rfl
    subst this
    refine ⟨hbn,?_⟩
    simp only [hv2]
    exact edit_set hb
   ·match j,hr with
    | 0,_=>rfl
    | 1,_=>rfl
    | 2,_=>rfl
    | 3,_=>rfl
    | 4,_=>rfl
    | 5,_=>rfl
    | 6,_=>rfl
    | 7,_=>rfl
    | 8,_=>rfl
    | 9,_=>rfl
    | 10,_=>rfl
    | 11,_=>rfl
    | 12,_=>rfl
    | 13,_=>rfl
    | 14,_=>rfl
    | 15,_=>rfl
    | 16,_=>rfl
    | 17,_=>rfl
    | 18,_=>rfl
    | 19,_=>exact absurd rfl hj
    | 20,_=>rfl
    | k+21,_=>rfl
  ·refine soft (by decide) ?_
   intro o ac wa g ho hoff hv hS hdn
   exact (x_assign (op_is rfl ho)).trans (by rw [(hv 17 149 rfl (by kernel_rfl))]; rfl)
 ·intro a' w' g hsz hdf hoff hS hdn hval
  obtain ⟨nb,hnb⟩:=Option.isSome_iff_exists.1 (show g.nb.isSome=true from by have:=hdn 18 (by simp); simpa [doneE] using this)
  obtain ⟨v,hv2⟩:=Option.isSome_iff_exists.1 (show g.ca.isSome=true from by have:=hdn 14 (by simp); simpa [doneE] using this)
  have hst:g.st=true:=by have:=hdn 19 (by simp); simpa [doneE] using this
  have hb:=(hS.box nb hnb).2
  simp only [hst,hv2] at hb
  exact hEnd a' w' nb v hsz hdf (fun s hs=>ev_same (hoff s hs)) ((hval 18 19 rfl).trans (by show pa (g.nb.getD 0) 0=_; rw [hnb]; rfl)) ((hval 20 20 rfl).trans (by simp only [to_r27V,hv2])) (hS.p1 v hv2) hb (hS.box nb hnb).1
def to_r42V (tb rb kb ko kl kc k jj:Nat) (rt ky:Int) (g:GE):Nat→Value:=fun j=>match j with | 0=>(pa tb 0) | 1=>(Value.int IntKind.i64 k) | 2=>(pa rb k) | 3=>(Value.int IntKind.i64 rt) | 4=>(Value.slice (some ⟨kb,ko,none⟩) kl kc) | 5=>(Value.int IntKind.i64 jj) | 6=>(pa kb (ko+jj)) | 7=>(Value.int IntKind.i64 ky) | 8=>(match g.ca with | some v=>Value.tuple #[(.agg #[.int .i64 v.root,.int .i64 v.old,.bool v.had,.slice v.ga v.gl v.gc,.slice v.ma v.ml v.mc]),.int .i64 v.er] | none=>undef) | 9=>(match g.ca with | some v=>Value.tuple #[(.agg #[.int .i64 v.root,.int .i64 v.old,.bool v.had,.slice v.ga v.gl v.gc,.slice v.ma v.ml v.mc]),.int .i64 v.er] | none=>undef) | 10=>(match g.ca with | some v=>Value.agg #[.int .i64 v.root,.int .i64 v.old,.bool v.had,.slice v.ga v.gl v.gc,.slice v.ma v.ml v.mc] | none=>undef) | 11=>(match g.ca with | some v=>Value.int IntKind.i64 v.er | none=>undef) | 12=>(pa (g.nb.getD 0) 0) | 13=>undef | 14=>(match g.ca with | some v=>Value.int IntKind.i64 v.er | none=>undef) | _=>undef
set_option maxRecDepth 100000 in
set_option maxHeartbeats 1600000 in
theorem to_r42 {tb rb kb ko kl kc k jj:Nat} {rt ky:Int} {P0:World→Prop} {P1:EdV→World→Prop} {K:Act→World→Prop} {Q:Exit→Act→World→Prop} {a0:Act} {w:World} (hs:a0.tmps.size=255) {C:World→Prop} (x14:a0.eval (.tmp 14)=pa tb 0) (x22:a0.eval (.tmp 22)=.int .i64 k) (x15:a0.eval (.tmp 15)=pa rb 0) (x1:a0.eval (.tmp 1)=.slice (some ⟨kb,ko,none⟩) kl kc) (x23:a0.eval (.tmp 23)=.int .i64 jj) (hk:k < 2) (hj:jj < kl) (hc0:∀ x,P0 x→C x) (hc1:∀ v x,P1 v x→C x) (hcc:∀ x,C x→x.cell? ⟨rb,k,none⟩=some (.int .i64 rt)∧x.cell? ⟨kb,ko+jj,none⟩=some (.int .i64 ky))
  (hA:P0 w.drew) (hP0:∀ x y,P0 x→Turned [] x y→P0 y) (hP1:∀ v x y,P1 v x→Turned [] x y→P1 v y) (hP2:∀ v x y nb,P1 v x→x.heap[nb]?=some editZ→w.heap.size≤nb→Turned [nb] x y→P1 v y) (hL0:∀ x,P0 x→w.heap.size≤x.heap.size) (hL1:∀ v x,P1 v x→w.heap.size≤x.heap.size)
  (hCall:∀ x,P0 x→Calls Tryz.prog 12 #[pa tb 0,.pointer none,.int .i64 rt,.int .i64 ky] x fun e w'=>∃ v:EdV,e=.returned (.tuple #[(.agg #[.int .i64 v.root,.int .i64 v.old,.bool v.had,.slice v.ga v.gl v.gc,.slice v.ma v.ml v.mc]),.int .i64 v.er])∧KeepT x w'∧P1 v w')
  (hEnd:∀ a' x nb v,a'.tmps.size=a0.tmps.size→a'.defers=a0.defers→(∀ s,some s∉([some 185,some 186,some 187,some 188,some 189,some 190,some 191,some 192,some 193,some 184,some 194,some 195,some 24,none,some 25]:List (Option Nat))→a'.eval (.tmp s)=a0.eval (.tmp s))→a'.eval (.tmp 24)=pa nb 0→a'.eval (.tmp 25)=.int .i64 v.er→P1 v x→x.heap[nb]?=some (editV v)→w.heap.size≤nb→K a' x):(Code.region 42 (opsOf 42 Tryz.f3.body) true).wp Tryz.prog (Exit.then K Q) a0 w:=by
 refine wp_region_ghost3 (G:=GE) (by kernel_rfl) [some 185,some 186,some 187,some 188,some 189,some 190,some 191,some 192,some 193,some 184,some 194,some 195,some 24,none,some 25] (by rw [hs]; kernel_rfl) (to_r42V tb rb kb ko kl kc k jj rt ky) [8,12,13] ?_ (doneE 8 12 13) (SE P0 P1 w) (⟨none,none,false⟩) (⟨fun _=>hA,(fun v h=>by cases h),fun nb hnb=>(by cases hnb)⟩) (by intro x hx; simp at hx; rcases hx with rfl | rfl | rfl <;> rfl) (by decide) ?_ ?_
 ·exact fun i g b h _=>absurd h (noG (by kernel_rfl) i g b)
 ·intro i hi hgd
  rcases (by simp at hi; omega:i=0∨i=1∨i=2∨i=3∨i=4∨i=5∨i=6∨i=7∨i=8∨i=9∨i=10∨i=11∨i=12∨i=13∨i=14) with rfl | rfl | rfl | rfl | rfl | rfl | rfl | rfl | rfl | rfl | rfl | rfl | rfl | rfl | rfl
  ·refine soft (by decide) ?_
   intro o ac wa g ho hoff hv hS hdn
   exact (x_move (op_is rfl ho)).trans (by rw [((hoff 14 (by decide)).trans x14)]; rfl)
  ·refine soft (by decide) ?_
   intro o ac wa g ho hoff hv hS hdn
   exact (x_move (op_is rfl ho)).trans (by rw [((hoff 22 (by decide)).trans x22)]; rfl)
  ·refine soft (by decide) ?_
   intro o ac wa g ho hoff hv hS hdn
   have hlt:(k:Int) < 2:=by omega
   exact x_index (op_is rfl ho) (by rw [((hoff 15 (by decide)).trans x15),(hv 1 186 rfl (by kernel_rfl))]; show (Instr.indexAt _ (pa _ _) (Value.int _ _)).run _ _=.ok (pa _ _) _; unfold pa; go_simp)
  ·refine soft (by decide) ?_
   intro o ac wa g ho hoff hv hS hdn
   have hc:=(hcc _ (hS.c hc0 hc1)).1
   exact x_load (op_is rfl ho) (by rw [(hv 2 187 rfl (by kernel_rfl))]; show (Instr.loadAt _ (pa _ _)).run _ _=_; unfold pa; go_simp; first | rfl | skip)
  ·refine soft (by decide) ?_
   intro o ac wa g ho hoff hv hS hdn
   exact (x_move (op_is rfl ho)).trans (by rw [((hoff 1 (by decide)).trans x1)]; rfl)
  ·refine soft (by decide) ?_
   intro o ac wa g ho hoff hv hS hdn
   exact (x_move (op_is rfl ho)).trans (by rw [((hoff 23 (by decide)).trans x23)]; rfl)
  ·refine soft (by decide) ?_
   intro o ac wa g ho hoff hv hS hdn
   have hlt:(jj:Int) < kl:=by omega
   exact x_index (op_is rfl ho) (by rw [(hv 4 189 rfl (by kernel_rfl)),(hv 5 190 rfl (by kernel_rfl))]; show (Instr.indexAt _ (Value.slice _ _ _) (Value.int _ _)).run _ _=.ok (pa _ _) _; unfold pa; go_simp)
  ·refine soft (by decide) ?_
   intro o ac wa g ho hoff hv hS hdn
   have hc:=(hcc _ (hS.c hc0 hc1)).2
   exact x_load (op_is rfl ho) (by rw [(hv 6 191 rfl (by kernel_rfl))]; show (Instr.loadAt _ (pa _ _)).run _ _=_; unfold pa; go_simp; first | rfl | skip)
  ·intro o ac wa g K ho hd _ hoff hv hS hpre hnd hlater hK
   have hg:g.ca=none:=by have:=hnd (by simp); simpa [doneE] using this
   have hst:g.st=false:=by
    have:=hlater 13 (by simp) (by kernel_rfl)
    simpa [doneE] using this
   refine l_callE (op_is rfl ho) (xs:=#[pa tb 0,.pointer none,.int .i64 rt,.int .i64 ky]) (by simp only [List.map_toArray,List.map_cons,List.map_nil]; rw [(hv 0 185 rfl (by kernel_rfl)),(hv 3 188 rfl (by kernel_rfl)),(hv 7 192 rfl (by kernel_rfl))]; rfl) Tryz.func12 (by kernel_rfl) rfl (hCall wa (hS.p0 hg)) ?_
   rintro e w' ⟨v,rfl,hkp,hp⟩
   refine ⟨_,rfl,?_⟩
   rw [hd]
   refine hK { g with ca:=some v } w' ⟨(fun h=>by cases h),(fun v' h=>by cases h; exact hp),fun nb hnb=>⟨(hS.box nb hnb).1,?_⟩⟩ (by intro x hx; simp at hx; rcases hx with rfl | rfl | rfl <;> simp [doneE,hg]) fun j hj hr=>?_
   ·have hb:=(hS.box nb hnb).2
    simp only [hst] at hb ⊢
    exact hkp.blk _ _ _ (by decide) hb
   ·match j,hr with
    | 0,_=>rfl
    | 1,_=>rfl
    | 2,_=>rfl
    | 3,_=>rfl
    | 4,_=>rfl
    | 5,_=>rfl
    | 6,_=>rfl
    | 7,_=>rfl
    | 8,_=>exact absurd rfl hj
    | 9,hr=>exact absurd (hr.symm.trans (by kernel_rfl:reachB (opsOf 42 Tryz.f3.body) (opsOf 42 Tryz.f3.body).size 9 8=true)) (by decide)
    | 10,hr=>exact absurd (hr.symm.trans (by kernel_rfl:reachB (opsOf 42 Tryz.f3.body) (opsOf 42 Tryz.f3.body).size 10 8=true)) (by decide)
    | 11,hr=>exact absurd (hr.symm.trans (by kernel_rfl:reachB (opsOf 42 Tryz.f3.body) (opsOf 42 Tryz.f3.body).size 11 8=true)) (by decide)
    | 12,_=>rfl
    | 13,_=>rfl
    | 14,hr=>exact absurd (hr.symm.trans (by kernel_rfl:reachB (opsOf 42 Tryz.f3.body) (opsOf 42 Tryz.f3.body).size 14 8=true)) (by decide)
    | k+15,_=>rfl
  ·refine soft (by decide) ?_
   intro o ac wa g ho hoff hv hS hdn
   exact (x_move (op_is rfl ho)).trans (by rw [(hv 8 193 rfl (by kernel_rfl))]; rfl)
  ·refine soft (by decide) ?_
   intro o ac wa g ho hoff hv hS hdn
   obtain ⟨v,hv2⟩:=Option.isSome_iff_exists.1 (show g.ca.isSome=true from by have:=hdn 8 (by simp) (by kernel_rfl); simpa [doneE] using this)
   exact (x_extrQ (v:=Value.agg #[.int .i64 v.root,.int .i64 v.old,.bool v.had,.slice v.ga v.gl v.gc,.slice v.ma v.ml v.mc]) (op_is rfl ho) ((hv 9 184 rfl (by kernel_rfl)).trans (by show (match g.ca with | some v=>Value.tuple #[(.agg #[.int .i64 v.root,.int .i64 v.old,.bool v.had,.slice v.ga v.gl v.gc,.slice v.ma v.ml v.mc]),.int .i64 v.er] | none=>undef)=Value.tuple #[(.agg #[.int .i64 v.root,.int .i64 v.old,.bool v.had,.slice v.ga v.gl v.gc,.slice v.ma v.ml v.mc]),.int .i64 v.er]; rw [hv2])) rfl).trans (by show _=Result.ok (Next.value (match g.ca with | some v=>Value.agg #[.int .i64 v.root,.int .i64 v.old,.bool v.had,.slice v.ga v.gl v.gc,.slice v.ma v.ml v.mc] | none=>undef)) _; rw [hv2])
  ·refine soft (by decide) ?_
   intro o ac wa g ho hoff hv hS hdn
   obtain ⟨v,hv2⟩:=Option.isSome_iff_exists.1 (show g.ca.isSome=true from by have:=hdn 8 (by simp) (by kernel_rfl); simpa [doneE] using this)
   exact (x_extrQ (v:=Value.int IntKind.i64 v.er) (op_is rfl ho) ((hv 9 184 rfl (by kernel_rfl)).trans (by show (match g.ca with | some v=>Value.tuple #[(.agg #[.int .i64 v.root,.int .i64 v.old,.bool v.had,.slice v.ga v.gl v.gc,.slice v.ma v.ml v.mc]),.int .i64 v.er] | none=>undef)=Value.tuple #[(.agg #[.int .i64 v.root,.int .i64 v.old,.bool v.had,.slice v.ga v.gl v.gc,.slice v.ma v.ml v.mc]),.int .i64 v.er]; rw [hv2])) rfl).trans (by show _=Result.ok (Next.value (match g.ca with | some v=>Value.int IntKind.i64 v.er | none=>undef)) _; rw [hv2])
  ·intro o ac wa g K ho hd _ hoff hv hS hpre hnd hlater hK
   have hg:g.nb=none:=by have:=hnd (by simp); simpa [doneE] using this
   have hst:g.st=false:=by
    have:=hlater 13 (by simp) (by kernel_rfl)
    simpa [doneE] using this
   have T0:Turned [] wa (wa.alloc editZ):=(Turned.refl [] _).alloc _
   refine l_val hd (x_alloc (op_is rfl ho) (v:=pa wa.heap.size 0) (w':=wa.alloc editZ) (by unfold pa editZ; go_simp)) ?_
   refine hK { g with nb:=some wa.heap.size } _ ⟨fun h=>hP0 _ _ (hS.p0 h) T0,fun v h=>hP1 _ _ _ (hS.p1 v h) T0,fun nb hnb=>?_⟩ (by intro x hx; simp at hx; rcases hx with rfl | rfl | rfl <;> simp [doneE,hg]) fun j hj hr=>?_
   ·cases hnb
    refine ⟨hS.size hL0 hL1,?_⟩
    simp only [hst]
    exact blk_new _ _
   ·match j,hr with
    | 0,_=>rfl
    | 1,_=>rfl
    | 2,_=>rfl
    | 3,_=>rfl
    | 4,_=>rfl
    | 5,_=>rfl
    | 6,_=>rfl
    | 7,_=>rfl
    | 8,_=>rfl
    | 9,_=>rfl
    | 10,_=>rfl
    | 11,_=>rfl
    | 12,_=>exact absurd rfl hj
    | 13,hr=>exact absurd (hr.symm.trans (by kernel_rfl:reachB (opsOf 42 Tryz.f3.body) (opsOf 42 Tryz.f3.body).size 13 12=true)) (by decide)
    | 14,_=>rfl
    | k+15,_=>rfl
  ·intro o ac wa g K ho hd _ hoff hv hS hpre hnd hlater hK
   obtain ⟨nb,hnb⟩:=Option.isSome_iff_exists.1 (show g.nb.isSome=true from by have:=hpre 12 (by simp) (by kernel_rfl); simpa [doneE] using this)
   obtain ⟨v,hv2⟩:=Option.isSome_iff_exists.1 (show g.ca.isSome=true from by have:=hpre 8 (by simp) (by kernel_rfl); simpa [doneE] using this)
   have hst:g.st=false:=by have:=hnd (by simp); simpa [doneE] using this
   have e1:=(hv 12 24 rfl (by kernel_rfl))
   have e2:=(hv 10 194 rfl (by kernel_rfl))
   have hb:=(hS.box nb hnb).2
   have hbn:=(hS.box nb hnb).1
   simp only [hst] at hb
   have c0:wa.cell? ⟨nb,0,none⟩=some (.int .i64 0):=cell_at hb 0
   have c1:wa.cell? ⟨nb,1,none⟩=some (.int .i64 0):=cell_at hb 1
   have c2:wa.cell? ⟨nb,2,none⟩=some (.bool false):=cell_at hb 2
   have c3:wa.cell? ⟨nb,3,none⟩=some (.slice none 0 0):=cell_at hb 3
   have c4:wa.cell? ⟨nb,4,none⟩=some (.slice none 0 0):=cell_at hb 4
   have z:=froz_at hb
   refine l_skip hd (w':=(((((wa.setCell ⟨nb,0,none⟩ (.int .i64 v.root)).setCell ⟨nb,1,none⟩ (.int .i64 v.old)).setCell ⟨nb,2,none⟩ (.bool v.had)).setCell ⟨nb,3,none⟩ (.slice v.ga v.gl v.gc)).setCell ⟨nb,4,none⟩ (.slice v.ma v.ml v.mc))) (x_store (op_is rfl ho) (by
    rw [e1,e2]
    show (Instr.storeAt _ (pa (g.nb.getD 0) 0) (match g.ca with | some v=>Value.agg #[.int .i64 v.root,.int .i64 v.old,.bool v.had,.slice v.ga v.gl v.gc,.slice v.ma v.ml v.mc] | none=>undef)).run _ _=_
    rw [hnb,hv2]
    show (Instr.storeAt _ (pa nb 0) (Value.agg #[.int .i64 v.root,.int .i64 v.old,.bool v.had,.slice v.ga v.gl v.gc,.slice v.ma v.ml v.mc])).run _ _=_
    unfold pa
    go_simp)) ?_
   have htn:Turned [nb] wa (((((wa.setCell ⟨nb,0,none⟩ (.int .i64 v.root)).setCell ⟨nb,1,none⟩ (.int .i64 v.old)).setCell ⟨nb,2,none⟩ (.bool v.had)).setCell ⟨nb,3,none⟩ (.slice v.ga v.gl v.gc)).setCell ⟨nb,4,none⟩ (.slice v.ma v.ml v.mc)):=edit_turned wa nb _ _ _ _ _
   refine hK { g with st:=true } _ ⟨(fun h=>by rw [hv2] at h; cases h),(fun v' h=>hP2 _ _ _ nb (hS.p1 v' h) hb hbn htn),fun nb' hnb'=>?_⟩ (by intro x hx; simp at hx; rcases hx with rfl | rfl | rfl <;> simp [doneE]) fun j hj hr=>?_
   ·have:nb'=nb:=by rw [hnb] at hnb'; cases hnb'; rfl
    subst this
    refine ⟨hbn,?_⟩
    simp only [hv2]
    exact edit_set hb
   ·match j,hr with
    | 0,_=>rfl
    | 1,_=>rfl
    | 2,_=>rfl
    | 3,_=>rfl
    | 4,_=>rfl
    | 5,_=>rfl
    | 6,_=>rfl
    | 7,_=>rfl
    | 8,_=>rfl
    | 9,_=>rfl
    | 10,_=>rfl
    | 11,_=>rfl
    | 12,_=>rfl
    | 13,_=>exact absurd rfl hj
    | 14,_=>rfl
    | k+15,_=>rfl
  ·refine soft (by decide) ?_
   intro o ac wa g ho hoff hv hS hdn
   exact (x_assign (op_is rfl ho)).trans (by rw [(hv 11 195 rfl (by kernel_rfl))]; rfl)
 ·intro a' w' g hsz hdf hoff hS hdn hval
  obtain ⟨nb,hnb⟩:=Option.isSome_iff_exists.1 (show g.nb.isSome=true from by have:=hdn 12 (by simp); simpa [doneE] using this)
  obtain ⟨v,hv2⟩:=Option.isSome_iff_exists.1 (show g.ca.isSome=true from by have:=hdn 8 (by simp); simpa [doneE] using this)
  have hst:g.st=true:=by have:=hdn 13 (by simp); simpa [doneE] using this
  have hb:=(hS.box nb hnb).2
  simp only [hst,hv2] at hb
  exact hEnd a' w' nb v hsz hdf (fun s hs=>ev_same (hoff s hs)) ((hval 12 24 rfl).trans (by show pa (g.nb.getD 0) 0=_; rw [hnb]; rfl)) ((hval 14 25 rfl).trans (by simp only [to_r42V,hv2])) (hS.p1 v hv2) hb (hS.box nb hnb).1
end Go.Proofs.YtcinlaacgbfojaaGreatDoor
/- A frame, spelled out. -/
namespace Go.Proofs.YtcinlaacgbfojaaGreatDoor
open Go.RowKit
def lit255 (c:Nat→Value):Array Value:=#[c 0,c 1,c 2,c 3,c 4,c 5,c 6,c 7,c 8,c 9,c 10,c 11,c 12,c 13,c 14,c 15,c 16,c 17,c 18,c 19,c 20,c 21,c 22,c 23,c 24,c 25,c 26,c 27,c 28,c 29,c 30,c 31,c 32,c 33,c 34,c 35,c 36,c 37,c 38,c 39,c 40,c 41,c 42,c 43,c 44,c 45,c 46,c 47,c 48,c 49,c 50,c 51,c 52,c 53,c 54,c 55,c 56,c 57,c 58,c 59,c 60,c 61,c 62,c 63,c 64,c 65,c 66,c 67,c 68,c 69,c 70,c 71,c 72,c 73,c 74,c 75,c 76,c 77,c 78,c 79,c 80,c 81,c 82,c 83,c 84,c 85,c 86,c 87,c 88,c 89,c 90,c 91,c 92,c 93,c 94,c 95,c 96,c 97,c 98,c 99,c 100,c 101,c 102,c 103,c 104,c 105,c 106,c 107,c 108,c 109,c 110,c 111,c 112,c 113,c 114,c 115,c 116,c 117,c 118,c 119,c 120,c 121,c 122,c 123,c 124,c 125,c 126,c 127,c 128,c 129,c 130,c 131,c 132,c 133,c 134,c 135,c 136,c 137,c 138,c 139,c 140,c 141,c 142,c 143,c 144,c 145,c 146,c 147,c 148,c 149,c 150,c 151,c 152,c 153,c 154,c 155,c 156,c 157,c 158,c 159,c 160,c 161,c 162,c 163,c 164,c 165,c 166,c 167,c 168,c 169,c 170,c 171,c 172,c 173,c 174,c 175,c 176,c 177,c 178,c 179,c 180,c 181,c 182,c 183,c 184,c 185,c 186,c 187,c 188,c 189,c 190,c 191,c 192,c 193,c 194,c 195,c 196,c 197,c 198,c 199,c 200,c 201,c 202,c 203,c 204,c 205,c 206,c 207,c 208,c 209,c 210,c 211,c 212,c 213,c 214,c 215,c 216,c 217,c 218,c 219,c 220,c 221,c 222,c 223,c 224,c 225,c 226,c 227,c 228,c 229,c 230,c 231,c 232,c 233,c 234,c 235,c 236,c 237,c 238,c 239,c 240,c 241,c 242,c 243,c 244,c 245,c 246,c 247,c 248,c 249,c 250,c 251,c 252,c 253,c 254]
set_option maxRecDepth 100000 in
theorem lit255_eq (c:Nat→Value):lit255 c=((List.range 255).map c).toArray:=by rfl
theorem expand255 {a:Act} (hs:a.tmps.size=255) (hd:a.defers=[]):∃ c:Nat→Value,a=⟨lit255 c,[]⟩∧∀ s,c s=a.eval (.tmp s):=by
 refine ⟨fun s=>a.tmps.getD s undef,?_,fun s=>rfl⟩
 obtain ⟨t,d⟩:=a
 simp only at hs hd
 subst hd
 congr 1
 rw [lit255_eq]
 refine Array.ext (by simp [hs]) fun i h1 h2=>?_
 simp [Array.getD,h1]
end Go.Proofs.YtcinlaacgbfojaaGreatDoor

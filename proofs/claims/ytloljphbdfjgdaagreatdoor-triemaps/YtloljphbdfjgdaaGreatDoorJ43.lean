/- Drawn regions of TrieMaps, TrieDiffs: a change's answer is laid into a new block; shares and lengths. (Written by tools/gen/genmap.py.) -/
import Derived.Test.YtloljphbdfjgdaaGreatDoorJ42
import Derived.Test.YtloljphbdfjgdaaGreatDoorJ38
namespace Go.Proofs.YtloljphbdfjgdaaGreatDoor
open Go.RowKit
structure MdV where
 pv:Value
 root:Int
 old:Int
 had:Bool
 ga:Option Addr
 gl:Nat
 gc:Nat
 ma:Option Addr
 ml:Nat
 mc:Nat
def editZ:Obj:=.cells #[.int .i64 0,.int .i64 0,.bool false,.slice none 0 0,.slice none 0 0] 40 (0,0)
def editV (v:MdV):Obj:=.cells #[.int .i64 v.root,.int .i64 v.old,.bool v.had,.slice v.ga v.gl v.gc,.slice v.ma v.ml v.mc] 40 (0,0)
structure GE where
 ca:Option MdV
 nb:Option Nat
 st:Bool
def doneE (c a s:Nat) (g:GE) (i:Nat):Bool:=if i=c then g.ca.isSome else if i=a then g.nb.isSome else if i=s then g.st else false
structure SE (P0:World→Prop) (P1:MdV→World→Prop) (w:World) (g:GE) (x:World):Prop where
 p0:g.ca=none→P0 x
 p1:∀ v,g.ca=some v→P1 v x
 box:∀ nb,g.nb=some nb→w.heap.size≤nb∧x.heap[nb]?=some (match g.st,g.ca with | true,some v=>editV v | _,_=>editZ)
theorem SE.size {P0:World→Prop} {P1:MdV→World→Prop} {w x:World} {g:GE} (h:SE P0 P1 w g x) (h0:∀ x,P0 x→w.heap.size≤x.heap.size) (h1:∀ v x,P1 v x→w.heap.size≤x.heap.size):w.heap.size≤x.heap.size:=by
 cases hc:g.ca with
 | none=>exact h0 x (h.p0 hc)
 | some v=>exact h1 v x (h.p1 v hc)
theorem SE.c {P0:World→Prop} {P1:MdV→World→Prop} {C:World→Prop} {w x:World} {g:GE} (h:SE P0 P1 w g x) (h0:∀ x,P0 x→C x) (h1:∀ v x,P1 v x→C x):C x:=by
 cases hc:g.ca with
 | none=>exact h0 x (h.p0 hc)
 | some v=>exact h1 v x (h.p1 v hc)
theorem x_gtrN {ρ:Operand→Value} {o:Oper} {w:World} {x y:Operand} {t:TypeId} {a b:Int} (h:o.op=.binOp .gtr 3 x y t) (hx:ρ x=.int .i64 a) (hy:ρ y=.int .i64 b):(execOp ρ o).run Tryz.prog w=.ok (.value (.bool (decide (b < a)))) w :=
 x_bin h hx hy (by go_simp) (by go_simp)
def mp_r14V (p tb qb qo ll lc i:Nat) (rt cf ky vy:Int) (cd:Bool) (lv:Value)  (g:GE):Nat→Value:=fun j=>match j with | 0=>(pa p 0) | 1=>(pa tb 0) | 2=>(Value.agg #[.int .i64 rt,lv]) | 3=>(Value.slice (some ⟨qb,qo,none⟩) ll lc) | 4=>(Value.int IntKind.i64 i) | 5=>(pa qb (qo+i * 4)) | 6=>(Value.agg #[.int .i64 cf,.int .i64 ky,.int .i64 vy,.bool cd]) | 7=>(match g.ca with | some v=>Value.tuple #[v.pv,(.agg #[.int .i64 v.root,.int .i64 v.old,.bool v.had,.slice v.ga v.gl v.gc,.slice v.ma v.ml v.mc]),.bool true] | none=>undef) | 8=>(match g.ca with | some v=>Value.tuple #[v.pv,(.agg #[.int .i64 v.root,.int .i64 v.old,.bool v.had,.slice v.ga v.gl v.gc,.slice v.ma v.ml v.mc]),.bool true] | none=>undef) | 9=>(match g.ca with | some v=>v.pv | none=>undef) | 10=>(match g.ca with | some v=>Value.agg #[.int .i64 v.root,.int .i64 v.old,.bool v.had,.slice v.ga v.gl v.gc,.slice v.ma v.ml v.mc] | none=>undef) | 11=>(match g.ca with | some _=>Value.bool true | none=>undef) | 12=>(pa (g.nb.getD 0) 0) | 13=>(match g.ca with | some v=>v.pv | none=>undef) | 14=>undef | 15=>(match g.ca with | some _=>Value.bool true | none=>undef) | _=>undef
set_option maxRecDepth 100000 in
set_option maxHeartbeats 1600000 in
theorem mp_r14 {p tb vb qb qo ll lc i:Nat} {rt cf ky vy:Int} {cd:Bool} {lv:Value} {P0:World→Prop} {P1:MdV→World→Prop} {K:Act→World→Prop} {Q:Exit→Act→World→Prop} {a0:Act} {w:World} (hs:a0.tmps.size=137) {C:World→Prop} (x9:a0.eval (.tmp 9)=pa p 0) (x11:a0.eval (.tmp 11)=pa tb 0) (x14:a0.eval (.tmp 14)=pa vb 0) (x1:a0.eval (.tmp 1)=.slice (some ⟨qb,qo,none⟩) ll lc) (x13:a0.eval (.tmp 13)=.int .i64 i) (hlv:∃ sa sl sc,lv=.slice sa sl sc) (hi:i < ll) (hc0:∀ x,P0 x→C x) (hc1:∀ v x,P1 v x→C x) (hcc:∀ x,C x→(x.cell? ⟨vb,0,none⟩=some (.int .i64 rt)∧x.cell? ⟨vb,1,none⟩=some lv)∧(x.cell? ⟨qb,qo+i * 4,none⟩=some (.int .i64 cf)∧x.cell? ⟨qb,qo+i * 4+1,none⟩=some (.int .i64 ky)∧x.cell? ⟨qb,qo+i * 4+2,none⟩=some (.int .i64 vy)∧x.cell? ⟨qb,qo+i * 4+3,none⟩=some (.bool cd)))
  (hA:P0 w.drew) (hP0:∀ x y,P0 x→Turned [] x y→P0 y) (hP1:∀ v x y,P1 v x→Turned [] x y→P1 v y) (hP2:∀ v x y nb,P1 v x→x.heap[nb]?=some editZ→w.heap.size≤nb→Turned [nb] x y→P1 v y) (hL0:∀ x,P0 x→w.heap.size≤x.heap.size) (hL1:∀ v x,P1 v x→w.heap.size≤x.heap.size)
  (hCall:∀ x,P0 x→Calls Tryz.prog 9 #[pa p 0,pa tb 0,.agg #[.int .i64 rt,lv],.agg #[.int .i64 cf,.int .i64 ky,.int .i64 vy,.bool cd]] x fun e w'=>∃ v:MdV,e=.returned (.tuple #[v.pv,(.agg #[.int .i64 v.root,.int .i64 v.old,.bool v.had,.slice v.ga v.gl v.gc,.slice v.ma v.ml v.mc]),.bool true])∧KeepT x w'∧P1 v w')
  (hEnd:∀ a' x nb v,a'.tmps.size=a0.tmps.size→a'.defers=a0.defers→(∀ s,some s∉([some 72,some 73,some 74,some 75,some 76,some 77,some 78,some 79,some 71,some 80,some 81,some 82,some 16,some 15,none,some 17]:List (Option Nat))→a'.eval (.tmp s)=a0.eval (.tmp s))→a'.eval (.tmp 16)=pa nb 0→a'.eval (.tmp 15)=v.pv→a'.eval (.tmp 17)=.bool true→P1 v x→x.heap[nb]?=some (editV v)→w.heap.size≤nb→K a' x):(Code.region 14 (opsOf 14 Tryz.f3.body) true).wp Tryz.prog (Exit.then K Q) a0 w:=by
 refine wp_region_ghost3 (G:=GE) (by kernel_rfl) [some 72,some 73,some 74,some 75,some 76,some 77,some 78,some 79,some 71,some 80,some 81,some 82,some 16,some 15,none,some 17] (by rw [hs]; kernel_rfl) (mp_r14V p tb qb qo ll lc i rt cf ky vy cd lv) [7,12,14] ?_ (doneE 7 12 14) (SE P0 P1 w) (⟨none,none,false⟩) (⟨fun _=>hA,(fun v h=>by cases h),fun nb hnb=>(by cases hnb)⟩) (by intro x hx; simp at hx; rcases hx with rfl | rfl | rfl <;> rfl) (by decide) ?_ ?_
 ·exact fun i g b h _=>absurd h (noG (by kernel_rfl) i g b)
 ·intro i hi hgd
  rcases (by simp at hi; omega:i=0∨i=1∨i=2∨i=3∨i=4∨i=5∨i=6∨i=7∨i=8∨i=9∨i=10∨i=11∨i=12∨i=13∨i=14∨i=15) with rfl | rfl | rfl | rfl | rfl | rfl | rfl | rfl | rfl | rfl | rfl | rfl | rfl | rfl | rfl | rfl
  ·refine soft (by decide) ?_
   intro o ac wa g ho hoff hv hS hdn
   exact (x_move (op_is rfl ho)).trans (by rw [((hoff 9 (by decide)).trans x9)]; rfl)
  ·refine soft (by decide) ?_
   intro o ac wa g ho hoff hv hS hdn
   exact (x_move (op_is rfl ho)).trans (by rw [((hoff 11 (by decide)).trans x11)]; rfl)
  ·refine soft (by decide) ?_
   intro o ac wa g ho hoff hv hS hdn
   obtain ⟨sa,sl,sc,rfl⟩:=hlv
   obtain ⟨c0,c1⟩:=(hcc _ (hS.c hc0 hc1)).1
   exact x_load (op_is rfl ho) (by rw [((hoff 14 (by decide)).trans x14)]; show (Instr.loadAt _ (pa _ _)).run _ _=_; unfold pa; go_simp; first | rfl | skip)
  ·refine soft (by decide) ?_
   intro o ac wa g ho hoff hv hS hdn
   exact (x_move (op_is rfl ho)).trans (by rw [((hoff 1 (by decide)).trans x1)]; rfl)
  ·refine soft (by decide) ?_
   intro o ac wa g ho hoff hv hS hdn
   exact (x_move (op_is rfl ho)).trans (by rw [((hoff 13 (by decide)).trans x13)]; rfl)
  ·refine soft (by decide) ?_
   intro o ac wa g ho hoff hv hS hdn
   have hlt:(i:Int) < ll:=by omega
   exact x_index (op_is rfl ho) (by rw [(hv 3 75 rfl (by kernel_rfl)),(hv 4 76 rfl (by kernel_rfl))]; show (Instr.indexAt _ (Value.slice _ _ _) (Value.int _ _)).run _ _=.ok (pa _ _) _; unfold pa; go_simp)
  ·refine soft (by decide) ?_
   intro o ac wa g ho hoff hv hS hdn
   obtain ⟨c0,c1,c2,c3⟩:=(hcc _ (hS.c hc0 hc1)).2
   exact x_load (op_is rfl ho) (by rw [(hv 5 77 rfl (by kernel_rfl))]; show (Instr.loadAt _ (pa _ _)).run _ _=_; unfold pa; go_simp; first | rfl | skip)
  ·intro o ac wa g K ho hd _ hoff hv hS hpre hnd hlater hK
   have hg:g.ca=none:=by have:=hnd (by simp); simpa [doneE] using this
   have hst:g.st=false:=by
    have:=hlater 14 (by simp) (by kernel_rfl)
    simpa [doneE] using this
   refine l_callE (op_is rfl ho) (xs:=#[pa p 0,pa tb 0,.agg #[.int .i64 rt,lv],.agg #[.int .i64 cf,.int .i64 ky,.int .i64 vy,.bool cd]]) (by simp only [List.map_toArray,List.map_cons,List.map_nil]; rw [(hv 0 72 rfl (by kernel_rfl)),(hv 1 73 rfl (by kernel_rfl)),(hv 2 74 rfl (by kernel_rfl)),(hv 6 78 rfl (by kernel_rfl))]; rfl) Tryz.func9 (by kernel_rfl) rfl (hCall wa (hS.p0 hg)) ?_
   rintro e w' ⟨v,rfl,hkp,hp⟩
   refine ⟨_,rfl,?_⟩
   rw [hd]
   refine hK { g with ca:=some v } w' ⟨(fun h=>by cases h),(fun v' h=>by cases h; exact hp),fun nb hnb=>⟨(hS.box nb hnb).1,?_⟩⟩ (by intro x hx; simp at hx; rcases hx with rfl | rfl | rfl <;> simp [doneE,hg]) fun j hj hr=>?_
   ·have hb:=(hS.box nb hnb).2
    simp only [hst] at hb ⊢
    exact hkp.blk _ _ _ (by decide) hb
   ·match j,hr with
    | 0,_=>rfl
    | 1,_=>rfl
    | 2,_=>rfl
    | 3,_=>rfl
    | 4,_=>rfl
    | 5,_=>rfl
    | 6,_=>rfl
    | 7,_=>exact absurd rfl hj
    | 8,hr=>exact absurd (hr.symm.trans (by kernel_rfl:reachB (opsOf 14 Tryz.f3.body) (opsOf 14 Tryz.f3.body).size 8 7=true)) (by decide)
    | 9,hr=>exact absurd (hr.symm.trans (by kernel_rfl:reachB (opsOf 14 Tryz.f3.body) (opsOf 14 Tryz.f3.body).size 9 7=true)) (by decide)
    | 10,hr=>exact absurd (hr.symm.trans (by kernel_rfl:reachB (opsOf 14 Tryz.f3.body) (opsOf 14 Tryz.f3.body).size 10 7=true)) (by decide)
    | 11,hr=>exact absurd (hr.symm.trans (by kernel_rfl:reachB (opsOf 14 Tryz.f3.body) (opsOf 14 Tryz.f3.body).size 11 7=true)) (by decide)
    | 12,_=>rfl
    | 13,hr=>exact absurd (hr.symm.trans (by kernel_rfl:reachB (opsOf 14 Tryz.f3.body) (opsOf 14 Tryz.f3.body).size 13 7=true)) (by decide)
    | 14,_=>rfl
    | 15,hr=>exact absurd (hr.symm.trans (by kernel_rfl:reachB (opsOf 14 Tryz.f3.body) (opsOf 14 Tryz.f3.body).size 15 7=true)) (by decide)
    | k+16,_=>rfl
  ·refine soft (by decide) ?_
   intro o ac wa g ho hoff hv hS hdn
   exact (x_move (op_is rfl ho)).trans (by rw [(hv 7 79 rfl (by kernel_rfl))]; rfl)
  ·refine soft (by decide) ?_
   intro o ac wa g ho hoff hv hS hdn
   obtain ⟨v,hv2⟩:=Option.isSome_iff_exists.1 (show g.ca.isSome=true from by have:=hdn 7 (by simp) (by kernel_rfl); simpa [doneE] using this)
   exact (x_extrQ (v:=v.pv) (op_is rfl ho) ((hv 8 71 rfl (by kernel_rfl)).trans (by show (match g.ca with | some v=>Value.tuple #[v.pv,(.agg #[.int .i64 v.root,.int .i64 v.old,.bool v.had,.slice v.ga v.gl v.gc,.slice v.ma v.ml v.mc]),.bool true] | none=>undef)=Value.tuple #[v.pv,(.agg #[.int .i64 v.root,.int .i64 v.old,.bool v.had,.slice v.ga v.gl v.gc,.slice v.ma v.ml v.mc]),.bool true]; rw [hv2])) rfl).trans (by show _=Result.ok (Next.value (match g.ca with | some v=>v.pv | none=>undef)) _; rw [hv2])
  ·refine soft (by decide) ?_
   intro o ac wa g ho hoff hv hS hdn
   obtain ⟨v,hv2⟩:=Option.isSome_iff_exists.1 (show g.ca.isSome=true from by have:=hdn 7 (by simp) (by kernel_rfl); simpa [doneE] using this)
   exact (x_extrQ (v:=Value.agg #[.int .i64 v.root,.int .i64 v.old,.bool v.had,.slice v.ga v.gl v.gc,.slice v.ma v.ml v.mc]) (op_is rfl ho) ((hv 8 71 rfl (by kernel_rfl)).trans (by show (match g.ca with | some v=>Value.tuple #[v.pv,(.agg #[.int .i64 v.root,.int .i64 v.old,.bool v.had,.slice v.ga v.gl v.gc,.slice v.ma v.ml v.mc]),.bool true] | none=>undef)=Value.tuple #[v.pv,(.agg #[.int .i64 v.root,.int .i64 v.old,.bool v.had,.slice v.ga v.gl v.gc,.slice v.ma v.ml v.mc]),.bool true]; rw [hv2])) rfl).trans (by show _=Result.ok (Next.value (match g.ca with | some v=>Value.agg #[.int .i64 v.root,.int .i64 v.old,.bool v.had,.slice v.ga v.gl v.gc,.slice v.ma v.ml v.mc] | none=>undef)) _; rw [hv2])
  ·refine soft (by decide) ?_
   intro o ac wa g ho hoff hv hS hdn
   obtain ⟨v,hv2⟩:=Option.isSome_iff_exists.1 (show g.ca.isSome=true from by have:=hdn 7 (by simp) (by kernel_rfl); simpa [doneE] using this)
   exact (x_extrQ (v:=Value.bool true) (op_is rfl ho) ((hv 8 71 rfl (by kernel_rfl)).trans (by show (match g.ca with | some v=>Value.tuple #[v.pv,(.agg #[.int .i64 v.root,.int .i64 v.old,.bool v.had,.slice v.ga v.gl v.gc,.slice v.ma v.ml v.mc]),.bool true] | none=>undef)=Value.tuple #[v.pv,(.agg #[.int .i64 v.root,.int .i64 v.old,.bool v.had,.slice v.ga v.gl v.gc,.slice v.ma v.ml v.mc]),.bool true]; rw [hv2])) rfl).trans (by show _=Result.ok (Next.value (match g.ca with | some _=>Value.bool true | none=>undef)) _; rw [hv2])
  ·intro o ac wa g K ho hd _ hoff hv hS hpre hnd hlater hK
   have hg:g.nb=none:=by have:=hnd (by simp); simpa [doneE] using this
   have hst:g.st=false:=by
    have:=hlater 14 (by simp) (by kernel_rfl)
    simpa [doneE] using this
   have T0:Turned [] wa (wa.alloc editZ):=(Turned.refl [] _).alloc _
   refine l_val hd (x_alloc (op_is rfl ho) (v:=pa wa.heap.size 0) (w':=wa.alloc editZ) (by unfold pa editZ; go_simp)) ?_
   refine hK { g with nb:=some wa.heap.size } _ ⟨fun h=>hP0 _ _ (hS.p0 h) T0,fun v h=>hP1 _ _ _ (hS.p1 v h) T0,fun nb hnb=>?_⟩ (by intro x hx; simp at hx; rcases hx with rfl | rfl | rfl <;> simp [doneE,hg]) fun j hj hr=>?_
   ·cases hnb
    refine ⟨hS.size hL0 hL1,?_⟩
    simp only [hst]
    exact blk_new _ _
   ·match j,hr with
    | 0,_=>rfl
    | 1,_=>rfl
    | 2,_=>rfl
    | 3,_=>rfl
    | 4,_=>rfl
    | 5,_=>rfl
    | 6,_=>rfl
    | 7,_=>rfl
    | 8,_=>rfl
    | 9,_=>rfl
    | 10,_=>rfl
    | 11,_=>rfl
    | 12,_=>exact absurd rfl hj
    | 13,_=>rfl
    | 14,hr=>exact absurd (hr.symm.trans (by kernel_rfl:reachB (opsOf 14 Tryz.f3.body) (opsOf 14 Tryz.f3.body).size 14 12=true)) (by decide)
    | 15,_=>rfl
    | k+16,_=>rfl
  ·refine soft (by decide) ?_
   intro o ac wa g ho hoff hv hS hdn
   exact (x_assign (op_is rfl ho)).trans (by rw [(hv 9 80 rfl (by kernel_rfl))]; rfl)
  ·intro o ac wa g K ho hd _ hoff hv hS hpre hnd hlater hK
   obtain ⟨nb,hnb⟩:=Option.isSome_iff_exists.1 (show g.nb.isSome=true from by have:=hpre 12 (by simp) (by kernel_rfl); simpa [doneE] using this)
   obtain ⟨v,hv2⟩:=Option.isSome_iff_exists.1 (show g.ca.isSome=true from by have:=hpre 7 (by simp) (by kernel_rfl); simpa [doneE] using this)
   have hst:g.st=false:=by have:=hnd (by simp); simpa [doneE] using this
   have e1:=(hv 12 16 rfl (by kernel_rfl))
   have e2:=(hv 10 81 rfl (by kernel_rfl))
   have hb:=(hS.box nb hnb).2
   have hbn:=(hS.box nb hnb).1
   simp only [hst] at hb
   have c0:wa.cell? ⟨nb,0,none⟩=some (.int .i64 0):=cell_at hb 0
   have c1:wa.cell? ⟨nb,1,none⟩=some (.int .i64 0):=cell_at hb 1
   have c2:wa.cell? ⟨nb,2,none⟩=some (.bool false):=cell_at hb 2
   have c3:wa.cell? ⟨nb,3,none⟩=some (.slice none 0 0):=cell_at hb 3
   have c4:wa.cell? ⟨nb,4,none⟩=some (.slice none 0 0):=cell_at hb 4
   have z:=froz_at hb
   refine l_skip hd (w':=(((((wa.setCell ⟨nb,0,none⟩ (.int .i64 v.root)).setCell ⟨nb,1,none⟩ (.int .i64 v.old)).setCell ⟨nb,2,none⟩ (.bool v.had)).setCell ⟨nb,3,none⟩ (.slice v.ga v.gl v.gc)).setCell ⟨nb,4,none⟩ (.slice v.ma v.ml v.mc))) (x_store (op_is rfl ho) (by
    rw [e1,e2]
    show (Instr.storeAt _ (pa (g.nb.getD 0) 0) (match g.ca with | some v=>Value.agg #[.int .i64 v.root,.int .i64 v.old,.bool v.had,.slice v.ga v.gl v.gc,.slice v.ma v.ml v.mc] | none=>undef)).run _ _=_
    rw [hnb,hv2]
    show (Instr.storeAt _ (pa nb 0) (Value.agg #[.int .i64 v.root,.int .i64 v.old,.bool v.had,.slice v.ga v.gl v.gc,.slice v.ma v.ml v.mc])).run _ _=_
    unfold pa
    go_simp)) ?_
   have htn:Turned [nb] wa (((((wa.setCell ⟨nb,0,none⟩ (.int .i64 v.root)).setCell ⟨nb,1,none⟩ (.int .i64 v.old)).setCell ⟨nb,2,none⟩ (.bool v.had)).setCell ⟨nb,3,none⟩ (.slice v.ga v.gl v.gc)).setCell ⟨nb,4,none⟩ (.slice v.ma v.ml v.mc)):=edit_turned wa nb _ _ _ _ _
   refine hK { g with st:=true } _ ⟨(fun h=>by rw [hv2] at h; cases h),(fun v' h=>hP2 _ _ _ nb (hS.p1 v' h) hb hbn htn),fun nb' hnb'=>?_⟩ (by intro x hx; simp at hx; rcases hx with rfl | rfl | rfl <;> simp [doneE]) fun j hj hr=>?_
   ·have:nb'=nb:=by rw [hnb] at hnb'; cases hnb'; rfl
    subst this
    refine ⟨hbn,?_⟩
    simp only [hv2]
    exact edit_set hb
   ·match j,hr with
    | 0,_=>rfl
    | 1,_=>rfl
    | 2,_=>rfl
    | 3,_=>rfl
    | 4,_=>rfl
    | 5,_=>rfl
    | 6,_=>rfl
    | 7,_=>rfl
    | 8,_=>rfl
    | 9,_=>rfl
    | 10,_=>rfl
    | 11,_=>rfl
    | 12,_=>rfl
    | 13,_=>rfl
    | 14,_=>exact absurd rfl hj
    | 15,_=>rfl
    | k+16,_=>rfl
  ·refine soft (by decide) ?_
   intro o ac wa g ho hoff hv hS hdn
   exact (x_assign (op_is rfl ho)).trans (by rw [(hv 11 82 rfl (by kernel_rfl))]; rfl)
 ·intro a' w' g hsz hdf hoff hS hdn hval
  obtain ⟨nb,hnb⟩:=Option.isSome_iff_exists.1 (show g.nb.isSome=true from by have:=hdn 12 (by simp); simpa [doneE] using this)
  obtain ⟨v,hv2⟩:=Option.isSome_iff_exists.1 (show g.ca.isSome=true from by have:=hdn 7 (by simp); simpa [doneE] using this)
  have hst:g.st=true:=by have:=hdn 14 (by simp); simpa [doneE] using this
  have hb:=(hS.box nb hnb).2
  simp only [hst,hv2] at hb
  exact hEnd a' w' nb v hsz hdf (fun s hs=>ev_same (hoff s hs)) ((hval 12 16 rfl).trans (by show pa (g.nb.getD 0) 0=_; rw [hnb]; rfl)) ((hval 13 15 rfl).trans (by simp only [mp_r14V,hv2])) ((hval 15 17 rfl).trans (by simp only [mp_r14V,hv2])) (hS.p1 v hv2) hb (hS.box nb hnb).1
def mp_r18V (tb vb nb eb gl gc ml mc:Nat) (ga ma:Option Addr) (rt rt2 root old:Int) (had:Bool):Bool→Nat→Value:=fun _ j=>match j with | 0=>(pa tb 0) | 1=>(pa vb 0) | 2=>(Value.int IntKind.i64 rt) | 3=>(pa nb 0) | 4=>(pa nb 0) | 5=>(pa nb 0) | 6=>(Value.int IntKind.i64 rt2) | 7=>(Value.agg #[.int .i64 root,.int .i64 old,.bool had,.slice ga gl gc,.slice ma ml mc]) | 8=>(Value.bool true) | 9=>(Value.bool false) | 10=>(Value.bool false) | 11=>(pa eb 4) | 12=>(Value.slice ma ml mc) | 13=>(Value.int IntKind.i64 ml) | 14=>(Value.bool false) | 15=>(Value.bool false) | 16=>(Value.bool false) | 17=>(pa eb 4) | 18=>(Value.slice ma ml mc) | 19=>(Value.int IntKind.i64 ml) | 20=>(pa eb 3) | 21=>(Value.slice ga gl gc) | 22=>(Value.int IntKind.i64 gl) | 23=>(Value.int IntKind.i64 ((gl:Int)+2)) | 24=>(Value.bool false) | 25=>(Value.bool false) | _=>undef
set_option maxRecDepth 100000 in
set_option maxHeartbeats 1600000 in
theorem mp_r18 {tb vb nb eb gl gc ml mc:Nat} {ga ma:Option Addr} {rt rt2 root old:Int} {had:Bool} {P0:World→Prop} {K:Act→World→Prop} {Q:Exit→Act→World→Prop} {a0:Act} {w:World} (hs:a0.tmps.size=137) (x11:a0.eval (.tmp 11)=pa tb 0) (x14:a0.eval (.tmp 14)=pa vb 0) (x15:a0.eval (.tmp 15)=pa nb 0) (x16:a0.eval (.tmp 16)=pa eb 0) (hml:ml≤34) (hmg:ml≤gl+2) (hgl:gl≤100000)
  (hA:P0 w.drew) (hcc:∀ x,P0 x→x.cell? ⟨vb,0,none⟩=some (.int .i64 rt)∧x.cell? ⟨nb,0,none⟩=some (.int .i64 rt2)∧x.cell? ⟨eb,0,none⟩=some (.int .i64 root)∧x.cell? ⟨eb,1,none⟩=some (.int .i64 old)∧x.cell? ⟨eb,2,none⟩=some (.bool had)∧x.cell? ⟨eb,3,none⟩=some (.slice ga gl gc)∧x.cell? ⟨eb,4,none⟩=some (.slice ma ml mc))
  (hCall:∀ x,P0 x→Calls Tryz.prog 10 #[pa tb 0,.int .i64 rt,.int .i64 rt2,(Value.agg #[.int .i64 root,.int .i64 old,.bool had,.slice ga gl gc,.slice ma ml mc])] x fun e w'=>e=.returned (.bool true)∧P0 w')
  (hEnd:∀ a' x,a'.tmps.size=a0.tmps.size→a'.defers=a0.defers→(∀ s,some s∉([some 87,some 88,some 89,some 90,some 91,some 92,some 93,some 94,some 95,some 96,some 97,some 98,some 99,some 100,some 101,some 102,some 103,some 104,some 105,some 106,some 107,some 108,some 109,some 110,some 111,some 112]:List (Option Nat))→a'.eval (.tmp s)=a0.eval (.tmp s))→a'.eval (.tmp 112)=.bool false→P0 x→K a' x):(Code.region 18 (opsOf 18 Tryz.f3.body) true).wp Tryz.prog (Exit.then K Q) a0 w:=by
 refine wp_region_ghost3 (G:=Bool) (by kernel_rfl) [some 87,some 88,some 89,some 90,some 91,some 92,some 93,some 94,some 95,some 96,some 97,some 98,some 99,some 100,some 101,some 102,some 103,some 104,some 105,some 106,some 107,some 108,some 109,some 110,some 111,some 112] (by rw [hs]; kernel_rfl) (mp_r18V tb vb nb eb gl gc ml mc ga ma rt rt2 root old had) [8] ?_ (fun g i=>if i=8 then g else false) (fun _ x=>P0 x) (false) (hA) (by intro x hx; simp at hx; subst hx; rfl) (by decide) ?_ ?_
 ·intro i g b h γ
  have hi:i < 26:=by
   apply Classical.byContradiction
   intro hn
   rw [show (opsOf 18 Tryz.f3.body)[i]?=none from Array.getElem?_eq_none (by have:(opsOf 18 Tryz.f3.body).size=26:=(by kernel_rfl); omega)] at h
   cases h
  rcases (by omega:i=0∨i=1∨i=2∨i=3∨i=4∨i=5∨i=6∨i=7∨i=8∨i=9∨i=10∨i=11∨i=12∨i=13∨i=14∨i=15∨i=16∨i=17∨i=18∨i=19∨i=20∨i=21∨i=22∨i=23∨i=24∨i=25) with rfl | rfl | rfl | rfl | rfl | rfl | rfl | rfl | rfl | rfl | rfl | rfl | rfl | rfl | rfl | rfl | rfl | rfl | rfl | rfl | rfl | rfl | rfl | rfl | rfl | rfl
  ·exact absurd h (gNo (by kernel_rfl))
  ·exact absurd h (gNo (by kernel_rfl))
  ·exact absurd h (gNo (by kernel_rfl))
  ·exact absurd h (gNo (by kernel_rfl))
  ·exact absurd h (gNo (by kernel_rfl))
  ·exact absurd h (gNo (by kernel_rfl))
  ·exact absurd h (gNo (by kernel_rfl))
  ·exact absurd h (gNo (by kernel_rfl))
  ·exact absurd h (gNo (by kernel_rfl))
  ·exact absurd h (gNo (by kernel_rfl))
  ·exact absurd h (gNo (by kernel_rfl))
  ·rw [show ((opsOf 18 Tryz.f3.body)[11]?).bind (fun o:Oper=>o.guard)=some (10,false) from by kernel_rfl] at h
   obtain ⟨rfl,rfl⟩:10=g∧false=b:=by simpa using h
   exact .inl ⟨false,rfl,fun hne=>absurd rfl hne⟩
  ·rw [show ((opsOf 18 Tryz.f3.body)[12]?).bind (fun o:Oper=>o.guard)=some (10,false) from by kernel_rfl] at h
   obtain ⟨rfl,rfl⟩:10=g∧false=b:=by simpa using h
   exact .inl ⟨false,rfl,fun hne=>absurd rfl hne⟩
  ·rw [show ((opsOf 18 Tryz.f3.body)[13]?).bind (fun o:Oper=>o.guard)=some (10,false) from by kernel_rfl] at h
   obtain ⟨rfl,rfl⟩:10=g∧false=b:=by simpa using h
   exact .inl ⟨false,rfl,fun hne=>absurd rfl hne⟩
  ·rw [show ((opsOf 18 Tryz.f3.body)[14]?).bind (fun o:Oper=>o.guard)=some (10,false) from by kernel_rfl] at h
   obtain ⟨rfl,rfl⟩:10=g∧false=b:=by simpa using h
   exact .inl ⟨false,rfl,fun hne=>absurd rfl hne⟩
  ·exact absurd h (gNo (by kernel_rfl))
  ·exact absurd h (gNo (by kernel_rfl))
  ·rw [show ((opsOf 18 Tryz.f3.body)[17]?).bind (fun o:Oper=>o.guard)=some (16,false) from by kernel_rfl] at h
   obtain ⟨rfl,rfl⟩:16=g∧false=b:=by simpa using h
   exact .inl ⟨false,rfl,fun hne=>absurd rfl hne⟩
  ·rw [show ((opsOf 18 Tryz.f3.body)[18]?).bind (fun o:Oper=>o.guard)=some (16,false) from by kernel_rfl] at h
   obtain ⟨rfl,rfl⟩:16=g∧false=b:=by simpa using h
   exact .inl ⟨false,rfl,fun hne=>absurd rfl hne⟩
  ·rw [show ((opsOf 18 Tryz.f3.body)[19]?).bind (fun o:Oper=>o.guard)=some (16,false) from by kernel_rfl] at h
   obtain ⟨rfl,rfl⟩:16=g∧false=b:=by simpa using h
   exact .inl ⟨false,rfl,fun hne=>absurd rfl hne⟩
  ·rw [show ((opsOf 18 Tryz.f3.body)[20]?).bind (fun o:Oper=>o.guard)=some (16,false) from by kernel_rfl] at h
   obtain ⟨rfl,rfl⟩:16=g∧false=b:=by simpa using h
   exact .inl ⟨false,rfl,fun hne=>absurd rfl hne⟩
  ·rw [show ((opsOf 18 Tryz.f3.body)[21]?).bind (fun o:Oper=>o.guard)=some (16,false) from by kernel_rfl] at h
   obtain ⟨rfl,rfl⟩:16=g∧false=b:=by simpa using h
   exact .inl ⟨false,rfl,fun hne=>absurd rfl hne⟩
  ·rw [show ((opsOf 18 Tryz.f3.body)[22]?).bind (fun o:Oper=>o.guard)=some (16,false) from by kernel_rfl] at h
   obtain ⟨rfl,rfl⟩:16=g∧false=b:=by simpa using h
   exact .inl ⟨false,rfl,fun hne=>absurd rfl hne⟩
  ·rw [show ((opsOf 18 Tryz.f3.body)[23]?).bind (fun o:Oper=>o.guard)=some (16,false) from by kernel_rfl] at h
   obtain ⟨rfl,rfl⟩:16=g∧false=b:=by simpa using h
   exact .inl ⟨false,rfl,fun hne=>absurd rfl hne⟩
  ·rw [show ((opsOf 18 Tryz.f3.body)[24]?).bind (fun o:Oper=>o.guard)=some (16,false) from by kernel_rfl] at h
   obtain ⟨rfl,rfl⟩:16=g∧false=b:=by simpa using h
   exact .inl ⟨false,rfl,fun hne=>absurd rfl hne⟩
  ·exact absurd h (gNo (by kernel_rfl))
 ·intro i hi hgd
  rcases (by simp at hi; omega:i=0∨i=1∨i=2∨i=3∨i=4∨i=5∨i=6∨i=7∨i=8∨i=9∨i=10∨i=11∨i=12∨i=13∨i=14∨i=15∨i=16∨i=17∨i=18∨i=19∨i=20∨i=21∨i=22∨i=23∨i=24∨i=25) with rfl | rfl | rfl | rfl | rfl | rfl | rfl | rfl | rfl | rfl | rfl | rfl | rfl | rfl | rfl | rfl | rfl | rfl | rfl | rfl | rfl | rfl | rfl | rfl | rfl | rfl
  ·refine soft (by decide) ?_
   intro o ac wa g ho hoff hv hS hdn
   exact (x_move (op_is rfl ho)).trans (by rw [((hoff 11 (by decide)).trans x11)]; rfl)
  ·refine soft (by decide) ?_
   intro o ac wa g ho hoff hv hS hdn
   exact x_field (op_is rfl ho) (by rw [((hoff 14 (by decide)).trans x14)]; show (Instr.fieldAt _ (pa _ _) _).run _ _=.ok (pa _ _) _; unfold pa; go_simp)
  ·refine soft (by decide) ?_
   intro o ac wa g ho hoff hv hS hdn
   have hc:=(hcc _ hS).1
   exact x_load (op_is rfl ho) (by rw [(hv 1 88 rfl (by kernel_rfl))]; show (Instr.loadAt _ (pa _ _)).run _ _=_; unfold pa; go_simp; rfl)
  ·refine soft (by decide) ?_
   intro o ac wa g ho hoff hv hS hdn
   exact (x_move (op_is rfl ho)).trans (by rw [((hoff 15 (by decide)).trans x15)]; rfl)
  ·refine soft (by decide) ?_
   intro o ac wa g ho hoff hv hS hdn
   exact x_nil (op_is rfl ho) ((hv 3 90 rfl (by kernel_rfl)))
  ·refine soft (by decide) ?_
   intro o ac wa g ho hoff hv hS hdn
   exact x_field (op_is rfl ho) (by rw [(hv 4 91 rfl (by kernel_rfl))]; show (Instr.fieldAt _ (pa _ _) _).run _ _=.ok (pa _ _) _; unfold pa; go_simp)
  ·refine soft (by decide) ?_
   intro o ac wa g ho hoff hv hS hdn
   have hc:=(hcc _ hS).2.1
   exact x_load (op_is rfl ho) (by rw [(hv 5 92 rfl (by kernel_rfl))]; show (Instr.loadAt _ (pa _ _)).run _ _=_; unfold pa; go_simp; rfl)
  ·refine soft (by decide) ?_
   intro o ac wa g ho hoff hv hS hdn
   obtain ⟨-,-,e0,e1,e2,e3,e4⟩:=hcc _ hS
   exact x_load (op_is rfl ho) (by rw [((hoff 16 (by decide)).trans x16)]; show (Instr.loadAt _ (pa _ _)).run _ _=_; unfold pa; go_simp; first | rfl | skip)
  ·intro o ac wa g K ho hd _ hoff hv hS hpre hnd hlater hK
   refine l_callE (op_is rfl ho) (xs:=#[pa tb 0,.int .i64 rt,.int .i64 rt2,(Value.agg #[.int .i64 root,.int .i64 old,.bool had,.slice ga gl gc,.slice ma ml mc])]) (by simp only [List.map_toArray,List.map_cons,List.map_nil]; rw [(hv 0 87 rfl (by kernel_rfl)),(hv 2 89 rfl (by kernel_rfl)),(hv 6 93 rfl (by kernel_rfl)),(hv 7 94 rfl (by kernel_rfl))]; rfl) Tryz.func10 (by kernel_rfl) rfl (hCall wa hS) ?_
   rintro e w' ⟨rfl,hp⟩
   refine ⟨_,rfl,?_⟩
   rw [hd]
   refine hK true w' hp (by intro x hx; simp at hx; subst hx; simp) fun j hj hr=>?_
   match j,hr with
   | 0,_=>rfl
   | 1,_=>rfl
   | 2,_=>rfl
   | 3,_=>rfl
   | 4,_=>rfl
   | 5,_=>rfl
   | 6,_=>rfl
   | 7,_=>rfl
   | 8,_=>exact absurd rfl hj
   | 9,_=>rfl
   | 10,_=>rfl
   | 11,_=>rfl
   | 12,_=>rfl
   | 13,_=>rfl
   | 14,_=>rfl
   | 15,_=>rfl
   | 16,_=>rfl
   | 17,_=>rfl
   | 18,_=>rfl
   | 19,_=>rfl
   | 20,_=>rfl
   | 21,_=>rfl
   | 22,_=>rfl
   | 23,_=>rfl
   | 24,_=>rfl
   | 25,_=>rfl
   | k+26,_=>rfl
  ·refine soft (by decide) ?_
   intro o ac wa g ho hoff hv hS hdn
   exact (x_notG (op_is rfl ho) ((hv 8 95 rfl (by kernel_rfl)))).trans rfl
  ·refine soft (by decide) ?_
   intro o ac wa g ho hoff hv hS hdn
   exact (x_move (op_is rfl ho)).trans (by rw [(hv 9 96 rfl (by kernel_rfl))]; rfl)
  ·refine soft (by decide) ?_
   intro o ac wa g ho hoff hv hS hdn
   exact x_field (op_is rfl ho) (by rw [((hoff 16 (by decide)).trans x16)]; show (Instr.fieldAt _ (pa _ _) _).run _ _=.ok (pa _ _) _; unfold pa; go_simp)
  ·refine soft (by decide) ?_
   intro o ac wa g ho hoff hv hS hdn
   have hc:=(hcc _ hS).2.2.2.2.2.2
   exact x_load (op_is rfl ho) (by rw [(hv 11 98 rfl (by kernel_rfl))]; show (Instr.loadAt _ (pa _ _)).run _ _=_; unfold pa; go_simp; rfl)
  ·refine soft (by decide) ?_
   intro o ac wa g ho hoff hv hS hdn
   exact x_lenG (op_is rfl ho) ((hv 12 99 rfl (by kernel_rfl))) undIntsG
  ·refine soft (by decide) ?_
   intro o ac wa g ho hoff hv hS hdn
   exact (x_gtrN (op_is rfl ho) (hv 13 100 rfl (by kernel_rfl)) rfl).trans (by rw [show decide ((34:Int) < (ml:Int))=false from decide_eq_false (by omega)]; rfl)
  ·refine soft (by decide) ?_
   intro o ac wa g ho hoff hv hS hdn
   exact (x_pickG (op_is rfl ho) ((hv 10 97 rfl (by kernel_rfl)))).trans (by rw [if_neg (by decide),(hv 14 101 rfl (by kernel_rfl))]; rfl)
  ·refine soft (by decide) ?_
   intro o ac wa g ho hoff hv hS hdn
   exact (x_move (op_is rfl ho)).trans (by rw [(hv 15 102 rfl (by kernel_rfl))]; rfl)
  ·refine soft (by decide) ?_
   intro o ac wa g ho hoff hv hS hdn
   exact x_field (op_is rfl ho) (by rw [((hoff 16 (by decide)).trans x16)]; show (Instr.fieldAt _ (pa _ _) _).run _ _=.ok (pa _ _) _; unfold pa; go_simp)
  ·refine soft (by decide) ?_
   intro o ac wa g ho hoff hv hS hdn
   have hc:=(hcc _ hS).2.2.2.2.2.2
   exact x_load (op_is rfl ho) (by rw [(hv 17 104 rfl (by kernel_rfl))]; show (Instr.loadAt _ (pa _ _)).run _ _=_; unfold pa; go_simp; rfl)
  ·refine soft (by decide) ?_
   intro o ac wa g ho hoff hv hS hdn
   exact x_lenG (op_is rfl ho) ((hv 18 105 rfl (by kernel_rfl))) undIntsG
  ·refine soft (by decide) ?_
   intro o ac wa g ho hoff hv hS hdn
   exact x_field (op_is rfl ho) (by rw [((hoff 16 (by decide)).trans x16)]; show (Instr.fieldAt _ (pa _ _) _).run _ _=.ok (pa _ _) _; unfold pa; go_simp)
  ·refine soft (by decide) ?_
   intro o ac wa g ho hoff hv hS hdn
   have hc:=(hcc _ hS).2.2.2.2.2.1
   exact x_load (op_is rfl ho) (by rw [(hv 20 107 rfl (by kernel_rfl))]; show (Instr.loadAt _ (pa _ _)).run _ _=_; unfold pa; go_simp; rfl)
  ·refine soft (by decide) ?_
   intro o ac wa g ho hoff hv hS hdn
   exact x_lenG (op_is rfl ho) ((hv 21 108 rfl (by kernel_rfl))) undIntsG
  ·refine soft (by decide) ?_
   intro o ac wa g ho hoff hv hS hdn
   exact x_addN (op_is rfl ho) (hv 22 109 rfl (by kernel_rfl)) rfl (by omega) (by omega)
  ·refine soft (by decide) ?_
   intro o ac wa g ho hoff hv hS hdn
   exact (x_gtrN (op_is rfl ho) (hv 19 106 rfl (by kernel_rfl)) (hv 23 110 rfl (by kernel_rfl))).trans (by rw [show decide (((gl:Int)+2) < (ml:Int))=false from decide_eq_false (by omega)]; rfl)
  ·refine soft (by decide) ?_
   intro o ac wa g ho hoff hv hS hdn
   exact (x_pickG (op_is rfl ho) ((hv 16 103 rfl (by kernel_rfl)))).trans (by rw [if_neg (by decide),(hv 24 111 rfl (by kernel_rfl))]; rfl)
 ·intro a' w' g hsz hdf hoff hS hdn hval
  exact hEnd a' w' hsz hdf (fun s hs=>ev_same (hoff s hs)) (hval 25 112 rfl) hS
end Go.Proofs.YtloljphbdfjgdaaGreatDoor

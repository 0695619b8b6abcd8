/- Drawn regions of package trie: a quiet call whose answer is laid into a new block. (Written by tools/gen/genq.py.) -/
import Derived.Test.YtloljphbdfjgdaaGreatDoorK20
import Derived.Test.YtloljphbdfjgdaaGreatDoorK06
import Derived.Test.YtloljphbdfjgdaaGreatDoorK05
namespace Go.Proofs.YtloljphbdfjgdaaGreatDoor
open Go.RowKit
theorem x_extrQ {ρ:Operand→Value} {o:Oper} {w:World} {x:Operand} {k:Nat} {vs:Array Value} {v:Value} (h:o.op=.extract x k) (hx:ρ x=.tuple vs) (hv:vs[k]?=some v):(execOp ρ o).run Tryz.prog w=.ok (.value v) w:=by
 simp [execOp,h,hx,Instr.extract,hv]
structure GQ where
 ca:Bool
 nb:Option Nat
 st:Bool
def doneQ (c a s:Nat) (g:GQ) (i:Nat):Bool:=if i=c then g.ca else if i=a then g.nb.isSome else if i=s then g.st else false
def read_r3V (tb p sp:Nat) (h xa xb xc xd:Int) (g:GQ):Nat→Value:=fun j=>match j with | 0=>(pa tb 0) | 1=>(pa tb 0) | 2=>(pa tb 0) | 3=>(Value.pointer (some ⟨p,0,none⟩)) | 4=>(Value.pointer none) | 5=>(pa sp 0) | 6=>(Value.int IntKind.i64 h) | 7=>(Value.tuple #[.agg #[.int .i64 xa,.int .i64 xb,.int .i64 xc,.int .i64 xd],.int .i64 0]) | 8=>(Value.tuple #[.agg #[.int .i64 xa,.int .i64 xb,.int .i64 xc,.int .i64 xd],.int .i64 0]) | 9=>(Value.agg #[.int .i64 xa,.int .i64 xb,.int .i64 xc,.int .i64 xd]) | 10=>(Value.int IntKind.i64 0) | 11=>(pa (g.nb.getD 0) 0) | 12=>undef | 13=>(Value.int IntKind.i64 0) | _=>undef
set_option maxRecDepth 100000 in
set_option maxHeartbeats 1600000 in
theorem read_r3 {tb p sp:Nat} {h xa xb xc xd:Int} {K:Act→World→Prop} {Q:Exit→Act→World→Prop} {a0:Act} {w:World} (hs:a0.tmps.size=48) {ea eb en:Value} (x0:a0.eval (.tmp 0)=pa tb 0) (x1:a0.eval (.tmp 1)=.pointer none) (x5:a0.eval (.tmp 5)=pa sp 0) (hTB:w.heap[tb]?=some (.cells #[.pointer (some ⟨p,0,none⟩)] 96 (0,0))) (hSP:w.heap[sp]?=some (.cells #[.int .i64 h,ea,eb,en] 120 (0,0)))
  (hCall:∀ x,Turned [] w x→Calls Tryz.prog 21 #[.pointer (some ⟨p,0,none⟩),.pointer none,.int .i64 h] x fun e w'=>e=.returned (Value.tuple #[.agg #[.int .i64 xa,.int .i64 xb,.int .i64 xc,.int .i64 xd],.int .i64 0])∧Turned [] x w')
  (hEnd:∀ a' x nb,a'.tmps.size=a0.tmps.size→a'.defers=a0.defers→(∀ s,some s∉([some 15,some 16,some 17,some 18,some 19,some 20,some 21,some 22,some 14,some 23,some 24,some 8,none,some 9]:List (Option Nat))→a'.eval (.tmp s)=a0.eval (.tmp s))→a'.eval (.tmp 8)=pa nb 0→a'.eval (.tmp 9)=(Value.int IntKind.i64 0)→Turned [] w x→x.heap[nb]?=some (Obj.cells #[.int .i64 xa,.int .i64 xb,.int .i64 xc,.int .i64 xd] 68 (0,0))→w.heap.size≤nb→K a' x):(Code.region 3 (opsOf 3 Tryz.f53.body) true).wp Tryz.prog (Exit.then K Q) a0 w:=by
 refine wp_region_ghost3 (G:=GQ) (by kernel_rfl) [some 15,some 16,some 17,some 18,some 19,some 20,some 21,some 22,some 14,some 23,some 24,some 8,none,some 9] (by rw [hs]; kernel_rfl) (read_r3V tb p sp h xa xb xc xd) [7,11,12] ?_ (doneQ 7 11 12) (fun g x=>Turned [] w x∧∀ nb,g.nb=some nb→w.heap.size≤nb∧x.heap[nb]?=some (if g.st=true then Obj.cells #[.int .i64 xa,.int .i64 xb,.int .i64 xc,.int .i64 xd] 68 (0,0) else Obj.cells #[.int .i64 0,.int .i64 0,.int .i64 0,.int .i64 0] 68 (0,0))) (⟨false,none,false⟩) (⟨(Turned.refl _ _).drew,fun nb hnb=>(by cases hnb)⟩) (by intro x hx; simp at hx; rcases hx with rfl | rfl | rfl <;> rfl) (by decide) ?_ ?_
 ·exact fun i g b h _=>absurd h (noG (by kernel_rfl) i g b)
 ·intro i hi hgd
  rcases (by simp at hi; omega:i=0∨i=1∨i=2∨i=3∨i=4∨i=5∨i=6∨i=7∨i=8∨i=9∨i=10∨i=11∨i=12∨i=13) with rfl | rfl | rfl | rfl | rfl | rfl | rfl | rfl | rfl | rfl | rfl | rfl | rfl | rfl
  ·refine soft (by decide) ?_
   intro o ac wa g ho hoff hv hS hdn
   exact (x_move (op_is rfl ho)).trans (by rw [((hoff 0 (by decide)).trans x0)]; rfl)
  ·refine soft (by decide) ?_
   intro o ac wa g ho hoff hv hS hdn
   exact x_nil (op_is rfl ho) ((hv 0 15 rfl (by kernel_rfl)))
  ·refine soft (by decide) ?_
   intro o ac wa g ho hoff hv hS hdn
   exact x_field (op_is rfl ho) (by rw [(hv 1 16 rfl (by kernel_rfl))]; show (Instr.fieldAt _ (pa _ _) _).run _ _=.ok (pa _ _) _; unfold pa; go_simp)
  ·refine soft (by decide) ?_
   intro o ac wa g ho hoff hv hS hdn
   have hc:=cell_at (hS.1.heap hTB (by simp)) 0
   exact x_load (op_is rfl ho) (by rw [(hv 2 17 rfl (by kernel_rfl))]; show (Instr.loadAt _ (pa _ _)).run _ _=_; unfold pa; go_simp; rfl)
  ·refine soft (by decide) ?_
   intro o ac wa g ho hoff hv hS hdn
   exact (x_move (op_is rfl ho)).trans (by rw [((hoff 1 (by decide)).trans x1)]; rfl)
  ·refine soft (by decide) ?_
   intro o ac wa g ho hoff hv hS hdn
   exact x_field (op_is rfl ho) (by rw [((hoff 5 (by decide)).trans x5)]; show (Instr.fieldAt _ (pa _ _) _).run _ _=.ok (pa _ _) _; unfold pa; go_simp)
  ·refine soft (by decide) ?_
   intro o ac wa g ho hoff hv hS hdn
   have hc:=cell_at (hS.1.heap hSP (by simp)) 0
   exact x_load (op_is rfl ho) (by rw [(hv 5 20 rfl (by kernel_rfl))]; show (Instr.loadAt _ (pa _ _)).run _ _=_; unfold pa; go_simp; rfl)
  ·intro o ac wa g K ho hd _ hoff hv hS hpre hnd hlater hK
   have hst:g.st=false:=by
    have:=hlater 12 (by simp) (by kernel_rfl)
    simpa [doneQ] using this
   refine l_callE (op_is rfl ho) (xs:=#[.pointer (some ⟨p,0,none⟩),.pointer none,.int .i64 h]) (by simp only [List.map_toArray,List.map_cons,List.map_nil]; rw [(hv 3 18 rfl (by kernel_rfl)),(hv 4 19 rfl (by kernel_rfl)),(hv 6 21 rfl (by kernel_rfl))]; rfl) Tryz.func21 (by kernel_rfl) rfl (hCall wa hS.1) ?_
   rintro e w' ⟨rfl,ht⟩
   refine ⟨_,rfl,?_⟩
   rw [hd]
   refine hK { g with ca:=true } w' ⟨hS.1.trans ht,fun nb hnb=>⟨(hS.2 nb hnb).1,ht.heap (hS.2 nb hnb).2 (by simp)⟩⟩ (by intro x hx; simp at hx; rcases hx with rfl | rfl | rfl <;> simp [doneQ]) fun j hj hr=>?_
   match j,hr with
   | 0,_=>rfl
   | 1,_=>rfl
   | 2,_=>rfl
   | 3,_=>rfl
   | 4,_=>rfl
   | 5,_=>rfl
   | 6,_=>rfl
   | 7,_=>exact absurd rfl hj
   | 8,_=>rfl
   | 9,_=>rfl
   | 10,_=>rfl
   | 11,_=>rfl
   | 12,_=>rfl
   | 13,_=>rfl
   | k+14,_=>rfl
  ·refine soft (by decide) ?_
   intro o ac wa g ho hoff hv hS hdn
   exact (x_move (op_is rfl ho)).trans (by rw [(hv 7 22 rfl (by kernel_rfl))]; rfl)
  ·refine soft (by decide) ?_
   intro o ac wa g ho hoff hv hS hdn
   exact x_extrQ (op_is rfl ho) (hv 8 14 rfl (by kernel_rfl)) rfl
  ·refine soft (by decide) ?_
   intro o ac wa g ho hoff hv hS hdn
   exact x_extrQ (op_is rfl ho) (hv 8 14 rfl (by kernel_rfl)) rfl
  ·intro o ac wa g K ho hd _ hoff hv hS hpre hnd hlater hK
   have hg:g.nb=none:=by have:=hnd (by simp); simpa [doneQ] using this
   have hst:g.st=false:=by
    have:=hlater 12 (by simp) (by kernel_rfl)
    simpa [doneQ] using this
   refine l_val hd (x_alloc (op_is rfl ho) (v:=pa wa.heap.size 0) (w':=wa.alloc (Obj.cells #[.int .i64 0,.int .i64 0,.int .i64 0,.int .i64 0] 68 (0,0))) (by unfold pa; go_simp)) ?_
   refine hK { g with nb:=some wa.heap.size } _ ⟨hS.1.alloc _,fun nb hnb=>?_⟩ (by intro x hx; simp at hx; rcases hx with rfl | rfl | rfl <;> simp [doneQ,hg]) fun j hj hr=>?_
   ·cases hnb
    refine ⟨hS.1.size,?_⟩
    rw [hst]
    exact blk_new _ _
   ·match j,hr with
    | 0,_=>rfl
    | 1,_=>rfl
    | 2,_=>rfl
    | 3,_=>rfl
    | 4,_=>rfl
    | 5,_=>rfl
    | 6,_=>rfl
    | 7,_=>rfl
    | 8,_=>rfl
    | 9,_=>rfl
    | 10,_=>rfl
    | 11,_=>exact absurd rfl hj
    | 12,hr=>exact absurd (hr.symm.trans (by kernel_rfl:reachB (opsOf 3 Tryz.f53.body) (opsOf 3 Tryz.f53.body).size 12 11=true)) (by decide)
    | 13,_=>rfl
    | k+14,_=>rfl
  ·intro o ac wa g K ho hd _ hoff hv hS hpre hnd hlater hK
   obtain ⟨nb,hnb⟩:=Option.isSome_iff_exists.1 (show g.nb.isSome=true from by have:=hpre 11 (by simp) (by kernel_rfl); simpa [doneQ] using this)
   have hst:g.st=false:=by have:=hnd (by simp); simpa [doneQ] using this
   have e1:=(hv 11 8 rfl (by kernel_rfl))
   have e2:=(hv 9 23 rfl (by kernel_rfl))
   have hb:=(hS.2 nb hnb).2
   have hbn:=(hS.2 nb hnb).1
   rw [hst] at hb
   have c0:wa.cell? ⟨nb,0,none⟩=some (Value.int IntKind.i64 0):=cell_at hb 0
   have c1:wa.cell? ⟨nb,1,none⟩=some (Value.int IntKind.i64 0):=cell_at hb 1
   have c2:wa.cell? ⟨nb,2,none⟩=some (Value.int IntKind.i64 0):=cell_at hb 2
   have c3:wa.cell? ⟨nb,3,none⟩=some (Value.int IntKind.i64 0):=cell_at hb 3
   have z:=froz_at hb
   refine l_skip hd (w':=((((wa.setCell ⟨nb,0,none⟩ (.int .i64 xa)).setCell ⟨nb,1,none⟩ (.int .i64 xb)).setCell ⟨nb,2,none⟩ (.int .i64 xc)).setCell ⟨nb,3,none⟩ (.int .i64 xd))) (x_store (op_is rfl ho) (by
    rw [e1,e2]
    show (Instr.storeAt _ (pa (g.nb.getD 0) 0) (Value.agg #[.int .i64 xa,.int .i64 xb,.int .i64 xc,.int .i64 xd])).run _ _=_
    rw [hnb]
    show (Instr.storeAt _ (pa nb 0) (Value.agg #[.int .i64 xa,.int .i64 xb,.int .i64 xc,.int .i64 xd])).run _ _=_
    unfold pa
    go_simp)) ?_
   have htn:Turned [nb] wa ((((wa.setCell ⟨nb,0,none⟩ (.int .i64 xa)).setCell ⟨nb,1,none⟩ (.int .i64 xb)).setCell ⟨nb,2,none⟩ (.int .i64 xc)).setCell ⟨nb,3,none⟩ (.int .i64 xd)):=(((((Turned.refl _ _).set (.inl (by simp)) 0 _).set (.inl (by simp)) 1 _).set (.inl (by simp)) 2 _).set (.inl (by simp)) 3 _)
   refine hK { g with st:=true } _ ⟨hS.1.inner htn (by intro x hx; simp at hx; subst hx; exact .inr hbn),fun nb' hnb'=>?_⟩ (by intro x hx; simp at hx; rcases hx with rfl | rfl | rfl <;> simp [doneQ]) fun j hj hr=>?_
   ·have:nb'=nb:=by rw [hnb] at hnb'; cases hnb'; rfl
    subst this
    refine ⟨hbn,?_⟩
    show _=some (if true=true then Obj.cells #[.int .i64 xa,.int .i64 xb,.int .i64 xc,.int .i64 xd] 68 (0,0) else _)
    rw [if_pos rfl,(blk_set (blk_set (blk_set (blk_set hb 0 _) 1 _) 2 _) 3 _)]
    rfl
   ·match j,hr with
    | 0,_=>rfl
    | 1,_=>rfl
    | 2,_=>rfl
    | 3,_=>rfl
    | 4,_=>rfl
    | 5,_=>rfl
    | 6,_=>rfl
    | 7,_=>rfl
    | 8,_=>rfl
    | 9,_=>rfl
    | 10,_=>rfl
    | 11,_=>rfl
    | 12,_=>exact absurd rfl hj
    | 13,_=>rfl
    | k+14,_=>rfl
  ·refine soft (by decide) ?_
   intro o ac wa g ho hoff hv hS hdn
   exact (x_assign (op_is rfl ho)).trans (by rw [(hv 10 24 rfl (by kernel_rfl))]; rfl)
 ·intro a' w' g hsz hdf hoff hS hdn hval
  obtain ⟨nb,hnb⟩:=Option.isSome_iff_exists.1 (show g.nb.isSome=true from by have:=hdn 11 (by simp); simpa [doneQ] using this)
  have hst:g.st=true:=by have:=hdn 12 (by simp); simpa [doneQ] using this
  have hb:=(hS.2 nb hnb).2
  rw [hst,if_pos rfl] at hb
  exact hEnd a' w' nb hsz hdf (fun s hs=>ev_same (hoff s hs)) ((hval 11 8 rfl).trans (by show pa (g.nb.getD 0) 0=_; rw [hnb]; rfl)) (hval 13 9 rfl) hS.1 hb (hS.2 nb hnb).1
end Go.Proofs.YtloljphbdfjgdaaGreatDoor
/- Drawn regions in which a chain of operations turn the world: what holds behind each. -/
namespace Go.Proofs.YtloljphbdfjgdaaGreatDoor
open Go.RowKit
structure StP (k:Nat) (Ph:Nat→(Nat→Value)→World→Prop) (g:Nat × (Nat→Value)) (x:World):Prop where
 le:g.1≤k
 ph:Ph g.1 g.2 x
def doneP (l:List Nat) (g:Nat × (Nat→Value)) (i:Nat):Bool:=decide (l.idxOf i < g.1)
section
variable {P:Program} {ops:Array Oper} {Q:Exit→Act→World→Prop} {G:Type}
theorem softL {D:List (Option Nat)} {V:G→Nat→Value} {a0:Act} {As:List Nat} {done:G→Nat→Bool} {St:G→World→Prop} {i:Nat} (hi:i∉As)
  (h:∀ (o:Oper) (a:Act) (w:World) (g:G),ops[i]?=some o→(∀ s,some s∉D→a.eval (.tmp s)=a0.eval (.tmp s))→(∀ j d,D.getD j none=some d→waitsB ops i j=true→a.eval (.tmp d)=V g j)→St g w→(∀ x∈As,reachB ops ops.size i x=true→done g x=true)→(∀ x∈As,reachB ops ops.size x i=true→done g x=false)→(execOp a.eval o).run P w=.ok (.value (V g i)) w):YieldsG P ops D V a0 As done St Q i:=by
 intro o a w g K ho hd hs hoff hv hS hdn _ hlt hK
 exact l_val hd (h o a w g ho hoff hv hS hdn hlt) (hK g w hS (fun x hx=>by have:¬ x=i:=fun e=>hi (e ▸ hx); simp [this]) fun _ _ _=>rfl)
end
section
variable {ρ:Operand→Value} {o:Oper} {w w':World} {P:Program}
theorem mkI_inner (v:Value) (w:World):(Instr.makeInterface 151 v).run Tryz.prog w=.ok (.iface 151 v) w:=by kernel_rfl
theorem x_mkI {x:Operand} {v:Value} (h:o.op=.makeInterface 151 x) (hx:ρ x=v):(execOp ρ o).run Tryz.prog w=.ok (.value (.iface 151 v)) w:=by
 subst hx
 simp [execOp,h,mkI_inner,Result.andThen]
theorem x_bsliceC {t:TypeId} {n:Nat} {ps:Array (Nat × Operand)} {qs:Array (Nat × Value)} {v:Value} (h:o.op=.buildSlice t n ps) (hq:ps.map (fun (i,x)=>(i,ρ x))=qs) (hr:(Instr.buildSlice t n qs).run P w=.ok v w'):(execOp ρ o).run P w=.ok (.value v) w':=by
 subst hq
 simp [execOp,h,hr,Result.andThen]
theorem x_appendC {s y:Operand} {t ty:TypeId} {a b v:Value} (h:o.op=.call { callee:=.builtin .append,args:=#[s,y],argTypes:=#[t,t] }) (hty:o.type=ty) (hs:ρ s=a) (hy:ρ y=b) (hr:(Builtin.append_ #[t,t] ty #[a,b]).run P w=.ok v w'):(execOp ρ o).run P w=.ok (.value v) w':=by
 subst hty hs hy
 simp only [execOp,h,resolve,invoke,builtin,Sem.run_bind,Sem.run_pure,Result.andThen_ok,List.map_toArray,List.map_cons,List.map_nil,hr]
theorem ty_isC {ops:Array Oper} {i:Nat} {t:TypeId} (h:(ops[i]?).map (fun o:Oper=>o.type)=some t) (ho:ops[i]?=some o):o.type=t:=by rw [ho] at h; simpa using h
end
end Go.Proofs.YtloljphbdfjgdaaGreatDoor

/- Package pile, alone: New. -/
import Derived.Test.YtloljphbdfjgdaaGreatDoorK16
import Derived.Deep.Light
namespace Go.Proofs.YtloljphbdfjgdaaGreatDoor
open Go.RowKit

theorem infoInt64:(Tryz.prog.info? 84).map (fun i=>(i.zero,i.size,i.bytes))=some (some (.agg #[.int .i64 0]),1,8):=by kernel_rfl
theorem undInt64s:Tryz.prog.underlying 154=some (.slice 84):=by kernel_rfl
theorem run_makeInt64s (n:Nat) (h:n≤1000000) (w:World) :
  (Instr.makeSlice 154 (.int .i64 (n+1)) (.int .i64 (n+1))).run Tryz.prog w=.ok (.slice (some ⟨w.heap.size,0,none⟩) (n+1) (n+1)) (w.alloc (.cells (madeCells #[.int .i64 0] (n+1)) 84)):=by
 obtain ⟨i,hi,hzz⟩:=Option.map_eq_some_iff.1 infoInt64
 simp only [Prod.mk.injEq] at hzz
 obtain ⟨hz,hs,hb⟩:=hzz
 have hr:=run_make (P:=Tryz.prog) w 154 84 i _ undInt64s hi hz .i64 .i64 ((n+1:Nat):Int) ((n+1:Nat):Int) (by omega) (Int.le_refl _) (by rw [hb]; omega) (by omega)
 simp only [Int.toNat_natCast,hs,Nat.mul_one] at hr
 exact hr
def fNew (k j:Nat):Int:=if 1≤j∧j < k then (j:Int)+1 else 0
theorem fNew_next {k:Nat} (h:1≤k):upd (fNew k) k ((k:Int)+1)=fNew (k+1):=by
 funext j
 unfold upd fNew
 by_cases e:j=k
 ·subst e; simp [h]
 ·rw [if_neg e]
  by_cases c:1≤j∧j < k
  ·rw [if_pos c,if_pos ⟨c.1,by omega⟩]
  ·rw [if_neg c,if_neg (fun x=>c ⟨x.1,by omega⟩)]
theorem made_next (n:Nat):(.cells (madeCells #[.int .i64 0] (n+1)) 84:Obj)=nextObj (fNew 1) n:=by
 unfold nextObj
 congr 1
 apply Array.ext
 ·simp [madeCells]
 ·intro i h1 h2
  have:fNew 1 i=0:=by unfold fNew; rw [if_neg]; omega
  simp [madeCells,this,Nat.mod_one]
structure Newing (W w:World) (n k:Nat) (h:Int):Prop where
 turned:Turned [] W w
 size:w.heap.size=W.heap.size+2
 head:w.heap[W.heap.size+1]?=some (pileObj h W.heap.size n)
 next:w.heap[W.heap.size]?=some (nextObj (fNew k) n)
theorem Newing.start (W:World) (n:Nat) (h:Int):Newing W ((W.alloc (.cells (madeCells #[.int .i64 0] (n+1)) 84)).alloc (pileObj h W.heap.size n)) n 1 h:=by
 refine ⟨((Turned.refl _ _).alloc _).alloc _,by simp,?_,?_⟩
 ·have:=blk_new (W.alloc (.cells (madeCells #[.int .i64 0] (n+1)) 84)) (pileObj h W.heap.size n)
  rwa [show (W.alloc (.cells (madeCells #[.int .i64 0] (n+1)) 84)).heap.size=W.heap.size+1 from by simp] at this
 ·exact blk_old ((blk_new W _).trans (congrArg some (made_next n))) _
theorem Newing.put {W w:World} {n k:Nat} {h:Int} (H:Newing W w n k h) (h1:1≤k) (hk:k≤n):Newing W (w.setCell ⟨W.heap.size,k,none⟩ (.int .i64 ((k:Int)+1))) n (k+1) h :=
 ⟨H.turned.set (.inr (Nat.le_refl _)) _ _,by simp [World.setCell,H.size],(blk_other (by omega) _ _).trans H.head,(next_put H.next hk _).trans (by rw [fNew_next h1])⟩
set_option maxRecDepth 100000 in
set_option maxHeartbeats 1600000 in
theorem cNewPile (w:World) (n:Nat) (tag:Int) (h1:1≤n) (h2:n≤4096) (h3:0≤tag) (h4:tag≤1099511627775) :
  Calls Tryz.prog 27 #[.int .i64 n,.int .i64 tag] w fun e w'=>e=.returned (.tuple #[.pointer (some ⟨w.heap.size+1,0,none⟩),.int .i64 0])∧Newing w w' n n (1099511627776+tag):=by
 have HP:=cPack 1 tag
 rw [(pack_ok 1 tag (by omega) (by omega) h3 h4).1,(pack_ok 1 tag (by omega) (by omega) h3 h4).2,Int.one_mul] at HP
 have d1:decide ((n:Int) < 1)=false:=decide_eq_false (by omega)
 have d2:decide (4096 < (n:Int))=false:=decide_eq_false (by omega)
 have hmk:=run_makeInt64s n (by omega)
 have H0:Hid _:=Newing.start w n (1099511627776+tag)
 go_enter Tryz.func27,Tryz.ntmps27
 go_wp2_with (first
  | (go_at_call 20; refine (HP _).mono ?_; rintro e w' ⟨rfl,hw⟩; obtain rfl:=hw.symm)
  | (go_at_call 57; refine (cAStore (x:=0) (by go_simp) (by go_simp)).mono ?_; rintro e w' ⟨rfl,hw⟩; obtain rfl:=hw.symm))
 go_loopw [9] (fun i wx=>∃ k:Nat,1≤k∧k≤n∧i=.int .i64 k∧Hid (Newing w wx n k (1099511627776+tag))) (fun i _=>n - (intOf i).toNat)
 case atStart=>exact ⟨1,Nat.le_refl _,h1,rfl,H0⟩
 case round =>
  obtain ⟨k,hk1,hk,rfl,HT⟩:=hrel
  clear H0
  have ch:=cell_at HT.out.head 1
  simp at ch
  by_cases hkn:k < n
  ·have cr:=next_cell HT.out.next hk
   have zr:=froz_at HT.out.next k
   have hlt:(k:Int) < (n:Int)+1:=by omega
   go_wp2_with (go_at_call 57; refine (cAStore cr zr).mono ?_; rintro e w' ⟨rfl,rfl⟩)
   exact ⟨⟨k+1,by omega,by omega,by go_num,HT.out.put hk1 hk⟩,by simp [intOf]; omega⟩
  ·have:k=n:=by omega
   subst this
   go_wp2
   go_ret2
   exact ⟨rfl,HT.out⟩
end Go.Proofs.YtloljphbdfjgdaaGreatDoor

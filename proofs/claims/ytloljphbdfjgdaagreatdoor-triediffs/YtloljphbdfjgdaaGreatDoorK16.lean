/- Package pile, alone: a pile in memory; Head, change, Pop, Push by contract. -/
import Derived.Test.YtloljphbdfjgdaaGreatDoorK15
import Derived.Test.YtloljphbdfjgdaaGreatDoorK07
import Derived.Deep.RegionWith
namespace Go.Proofs.YtloljphbdfjgdaaGreatDoor
open Go.RowKit

abbrev pileObj (h:Int) (nb n:Nat):Obj:=.cells #[.int .i64 h,.slice (some ⟨nb,0,none⟩) (n+1) (n+1)] 156 (0,0)
abbrev nextObj (f:Nat→Int) (n:Nat):Obj:=.cells ((List.range (n+1)).map fun k=>Value.int .i64 (f k)).toArray 84 (0,0)
structure PileAt (w:World) (b nb n:Nat) (h:Int) (f:Nat→Int):Prop where
 head:w.heap[b]?=some (pileObj h nb n)
 next:w.heap[nb]?=some (nextObj f n)
 ne:b≠nb
theorem next_cell {w:World} {nb n:Nat} {f:Nat→Int} (h:w.heap[nb]?=some (nextObj f n)) {k:Nat} (hk:k≤n):w.cell? ⟨nb,k,none⟩=some (.int .i64 (f k)):=by
 rw [cell_at h,List.getElem?_toArray,List.getElem?_map,List.getElem?_range (by omega)]; rfl
theorem next_put {w:World} {nb n:Nat} {f:Nat→Int} (h:w.heap[nb]?=some (nextObj f n)) {k:Nat} (_hk:k≤n) (v:Int):(w.setCell ⟨nb,k,none⟩ (.int .i64 v)).heap[nb]?=some (nextObj (upd f k v) n):=by
 rw [blk_set h]
 congr 2
 apply Array.ext
 ·simp
 ·intro i h1 h2
  simp only [List.size_toArray,List.length_map,List.length_range] at h2
  by_cases e:i=k
  ·subst e; simp [upd]
  ·have e':¬ k=i:=fun x=>e x.symm
   simp [upd,e,e']
theorem wp_loop_once {P:Program} {Q:Exit→Act→World→Prop} {a:Act} {w:World} {c:Code} (h:c.wp P (Exit.then (fun _ _=>False) Q) a w):(Code.loop c).wp P Q a w:=by
 refine wp_loop (fun a' w'=>a'=a∧w'=w) (fun _ _=>0) ⟨rfl,rfl⟩ ?_
 rintro a' w' ⟨rfl,rfl⟩
 refine wp_mono h ?_
 intro e a' w' hq
 cases e <;> first | exact hq.elim | exact hq
theorem cHead {w:World} {b:Nat} {h:Int} {v:Value} (hb:w.heap[b]?=some (.cells #[.int .i64 h,v] 156 (0,0))):Calls Tryz.prog 91 #[.pointer (some ⟨b,0,none⟩)] w fun e w'=>e=.returned (.int .i64 h)∧w'=w:=by
 have c0:=cell_at hb 0
 simp at c0
 go_enter Tryz.func91,Tryz.ntmps91
 go_wp2_with (go_at_call 35; refine (cALoad c0).mono ?_; rintro e w' ⟨rfl,rfl⟩)
 go_ret
 exact ⟨rfl,rfl⟩
theorem cChange {w:World} {b:Nat} {h i:Int} {v:Value} (hb:w.heap[b]?=some (.cells #[.int .i64 h,v] 156 (0,0))):Calls Tryz.prog 117 #[.pointer (some ⟨b,0,none⟩),.int .i64 h,.int .i64 i] w fun e w'=>e=.returned (.bool true)∧w'=w.setCell ⟨b,0,none⟩ (.int .i64 (nextV h i)):=by
 have c0:=cell_at hb 0
 have z0:=froz_at hb 0
 simp at c0
 go_enter Tryz.func117,Tryz.ntmps117
 go_wp2_with (first
  | (go_at_call 119; refine (cNext _ _ _).mono ?_; rintro e w' ⟨rfl,rfl⟩)
  | (go_at_call 120; refine (cACas c0 z0).mono ?_; rintro e w' ⟨rfl,rfl⟩))
 go_ret
 exact ⟨rfl,rfl⟩

set_option maxHeartbeats 800000 in
theorem cPopEmpty {w:World} {b:Nat} {h:Int} {v:Value} (hb:w.heap[b]?=some (.cells #[.int .i64 h,v] 156 (0,0))) (hi:idxV h=0) :
  Calls Tryz.prog 100 #[.pointer (some ⟨b,0,none⟩),.pointer none] w fun e w'=>e=.returned (.tuple #[.int .i64 0,.int .i64 83])∧w'=w:=by
 have HI:=cIndex h
 rw [hi] at HI
 go_enter Tryz.func100,Tryz.ntmps100
 go_wp2
 refine wp_loop_once ?_
 go_wp2_with (first
  | (go_at_call 71; refine (cStep _).mono ?_; rintro e w' ⟨rfl,rfl⟩)
  | (go_at_call 91; refine (cHead hb).mono ?_; rintro e w' ⟨rfl,rfl⟩)
  | (go_at_call 90; refine (HI _).mono ?_; rintro e w' ⟨rfl,rfl⟩))
 go_ret2
 exact ⟨rfl,rfl⟩
set_option maxHeartbeats 800000 in
theorem cPop {w:World} {b nb n i:Nat} {h:Int} {f:Nat→Int} (H:PileAt w b nb n h f) (hi:idxV h=i) (h0:i≠0) (hn:i≤n) :
  Calls Tryz.prog 100 #[.pointer (some ⟨b,0,none⟩),.pointer none] w fun e w'=>e=.returned (.tuple #[.int .i64 i,.int .i64 0])∧w'=w.setCell ⟨b,0,none⟩ (.int .i64 (nextV h (f i))):=by
 have HI:=cIndex h
 rw [hi] at HI
 have hb:=H.head
 have c1:=cell_at hb 1
 simp at c1
 have cn:=next_cell H.next hn
 have hz:((i:Int) == 0)=false:=by simp; omega
 have hlt:(i:Int) < (n:Int)+1:=by omega
 go_enter Tryz.func100,Tryz.ntmps100
 go_wp2
 refine wp_loop_once ?_
 go_wp2_with (first
  | (go_at_call 71; refine (cStep _).mono ?_; rintro e w' ⟨rfl,rfl⟩)
  | (go_at_call 91; refine (cHead hb).mono ?_; rintro e w' ⟨rfl,rfl⟩)
  | (go_at_call 90; refine (HI _).mono ?_; rintro e w' ⟨rfl,rfl⟩)
  | (go_at_call 35; refine (cALoad cn).mono ?_; rintro e w' ⟨rfl,rfl⟩)
  | (go_at_call 117; refine (cChange hb).mono ?_; rintro e w' ⟨rfl,rfl⟩))
 go_ret2
 exact ⟨rfl,rfl⟩

set_option maxHeartbeats 1600000 in
theorem cPush0 {w:World} {b nb n i:Nat} {h:Int} {f:Nat→Int} (H:PileAt w b nb n h f) (h0:i≠0) (hn:i≤n) :
  Calls Tryz.prog 105 #[.pointer (some ⟨b,0,none⟩),.pointer none,.int .i64 i] w fun e w'=>e=.returned (.int .i64 0)∧w'=(w.drew.setCell ⟨nb,i,none⟩ (.int .i64 (idxV h))).setCell ⟨b,0,none⟩ (.int .i64 (nextV h i)):=by
 have hb:=H.head
 have hnx:=H.next
 have hne:=H.ne
 have c1:=cell_at hb 1
 simp at c1
 have cn:=next_cell hnx hn
 have zn:=froz_at hnx i
 have h1:decide ((i:Int) < 1)=false:=decide_eq_false (by omega)
 have h2:decide ((n:Int)+1≤(i:Int))=false:=decide_eq_false (by omega)
 have hlt:(i:Int) < (n:Int)+1:=by omega
 have hb2:(w.drew.setCell ⟨nb,i,none⟩ (.int .i64 (idxV h))).heap[b]?=some (pileObj h nb n):=(blk_other hne _ _).trans hb
 go_enter Tryz.func105,Tryz.ntmps105
 go_wp2
 refine wp_loop_once ?_
 go_wp2_with (first
  | (go_at_call 71; refine (cStep _).mono ?_; rintro e w' ⟨rfl,rfl⟩)
  | (go_at_call 91; refine (cHead hb).mono ?_; rintro e w' ⟨rfl,rfl⟩))
 go_region_with (first
  | (go_at_call 90; refine (cIndex _ _).mono ?_; rintro e w' ⟨rfl,rfl⟩)
  | (go_at_call 57; refine (cAStore (x:=f i) (by go_simp) (by go_simp)).mono ?_; rintro e w' ⟨rfl,rfl⟩))
 all_goals
  go_wp2_with (first
  | (go_at_call 71; refine (cStep _).mono ?_; rintro e w' ⟨rfl,rfl⟩)
  | (go_at_call 117; refine (cChange hb2).mono ?_; rintro e w' ⟨rfl,rfl⟩))
  go_ret
  exact ⟨rfl,rfl⟩
end Go.Proofs.YtloljphbdfjgdaaGreatDoor

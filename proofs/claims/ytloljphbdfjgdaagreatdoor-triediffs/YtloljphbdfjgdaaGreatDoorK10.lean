/- Package trie's spans and nodes, alone, by contract: what reads nothing but its arguments. -/
import Derived.Test.YtloljphbdfjgdaaGreatDoorRows
import Derived.Test.YtloljphbdfjgdaaGreatDoorK04
import Derived.Test.YtloljphbdfjgdaaGreatDoorK07
import Derived.Test.YtloljphbdfjgdaaGreatDoorK09
import Derived.Laws.ShiftsVar
import Derived.Deep.RegionWith
import Derived.Test.YtloljphbdfjgdaaGreatDoorK08
namespace Go.Proofs.YtloljphbdfjgdaaGreatDoor
open Go.RowKit
theorem pow31 {p:Nat} (hp:p≤31):(2:Int) ^ p≤2147483648:=Tr.pow_mono hp
theorem cells1 {w:World} {b:Nat} {v0:Value} {T:TypeId} (h:w.heap[b]?=some (.cells #[v0] T (0,0))):w.cell? ⟨b,0,none⟩=some v0∧w.frozen? ⟨b,0,none⟩=false :=
 ⟨by rw [cell_at h]; rfl,froz_at h _⟩
theorem cells2 {w:World} {b:Nat} {v0 v1:Value} {T:TypeId} (h:w.heap[b]?=some (.cells #[v0,v1] T (0,0))):(w.cell? ⟨b,0,none⟩=some v0∧w.cell? ⟨b,1,none⟩=some v1)∧w.frozen? ⟨b,0,none⟩=false∧w.frozen? ⟨b,1,none⟩=false :=
 ⟨⟨by rw [cell_at h]; rfl,by rw [cell_at h]; rfl⟩,froz_at h _,froz_at h _⟩
theorem cells4 {w:World} {b:Nat} {v0 v1 v2 v3:Value} {T:TypeId} (h:w.heap[b]?=some (.cells #[v0,v1,v2,v3] T (0,0))):(w.cell? ⟨b,0,none⟩=some v0∧w.cell? ⟨b,1,none⟩=some v1∧w.cell? ⟨b,2,none⟩=some v2∧w.cell? ⟨b,3,none⟩=some v3)∧w.frozen? ⟨b,0,none⟩=false∧w.frozen? ⟨b,1,none⟩=false∧w.frozen? ⟨b,2,none⟩=false∧w.frozen? ⟨b,3,none⟩=false :=
 ⟨⟨by rw [cell_at h]; rfl,by rw [cell_at h]; rfl,by rw [cell_at h]; rfl,by rw [cell_at h]; rfl⟩,froz_at h _,froz_at h _,froz_at h _,froz_at h _⟩
theorem cells5 {w:World} {b:Nat} {v0 v1 v2 v3 v4:Value} {T:TypeId} (h:w.heap[b]?=some (.cells #[v0,v1,v2,v3,v4] T (0,0))):(w.cell? ⟨b,0,none⟩=some v0∧w.cell? ⟨b,1,none⟩=some v1∧w.cell? ⟨b,2,none⟩=some v2∧w.cell? ⟨b,3,none⟩=some v3∧w.cell? ⟨b,4,none⟩=some v4)∧w.frozen? ⟨b,0,none⟩=false∧w.frozen? ⟨b,1,none⟩=false∧w.frozen? ⟨b,2,none⟩=false∧w.frozen? ⟨b,3,none⟩=false∧w.frozen? ⟨b,4,none⟩=false :=
 ⟨⟨by rw [cell_at h]; rfl,by rw [cell_at h]; rfl,by rw [cell_at h]; rfl,by rw [cell_at h]; rfl,by rw [cell_at h]; rfl⟩,froz_at h _,froz_at h _,froz_at h _,froz_at h _,froz_at h _⟩
theorem cells7 {w:World} {b:Nat} {v0 v1 v2 v3 v4 v5 v6:Value} {T:TypeId} (h:w.heap[b]?=some (.cells #[v0,v1,v2,v3,v4,v5,v6] T (0,0))):(w.cell? ⟨b,0,none⟩=some v0∧w.cell? ⟨b,1,none⟩=some v1∧w.cell? ⟨b,2,none⟩=some v2∧w.cell? ⟨b,3,none⟩=some v3∧w.cell? ⟨b,4,none⟩=some v4∧w.cell? ⟨b,5,none⟩=some v5∧w.cell? ⟨b,6,none⟩=some v6)∧w.frozen? ⟨b,0,none⟩=false∧w.frozen? ⟨b,1,none⟩=false∧w.frozen? ⟨b,2,none⟩=false∧w.frozen? ⟨b,3,none⟩=false∧w.frozen? ⟨b,4,none⟩=false∧w.frozen? ⟨b,5,none⟩=false∧w.frozen? ⟨b,6,none⟩=false :=
 ⟨⟨by rw [cell_at h]; rfl,by rw [cell_at h]; rfl,by rw [cell_at h]; rfl,by rw [cell_at h]; rfl,by rw [cell_at h]; rfl,by rw [cell_at h]; rfl,by rw [cell_at h]; rfl⟩,froz_at h _,froz_at h _,froz_at h _,froz_at h _,froz_at h _,froz_at h _,froz_at h _⟩
theorem new_cells {w w1:World} {o:Obj} (ht:Turned [] (w.alloc o) w1):w1.heap[w.heap.size]?=some o:=ht.heap (blk_new _ _) (by simp)
theorem one_cells {w w1:World} {o:Obj} (ht:Turned [] (w.alloc o) w1):w1.heap[w.heap.size]?=some o∧Turned [] w w1:=⟨new_cells ht,((Turned.refl _ _).alloc _).trans ht⟩
theorem two_cells {w w1:World} {o o2:Obj} (ht:Turned [] ((w.alloc o).alloc o2) w1):w1.heap[w.heap.size]?=some o∧w1.heap[w.heap.size+1]?=some o2∧Turned [] w w1:=by
 have h2:=one_cells ht
 rw [World.size_alloc] at h2
 exact ⟨ht.heap (blk_old (blk_new w _) _) (by simp),h2.1,(one_cells h2.2).2⟩
theorem two_cellsD {w w1:World} {o o2:Obj} (ht:Turned [] ((w.alloc o).alloc o2).drew w1):w1.heap[w.heap.size]?=some o∧w1.heap[w.heap.size+1]?=some o2∧Turned [] w w1:=two_cells (((Turned.refl _ _).drew).trans ht)
theorem cIdle (x:Int) (w:World):Calls Tryz.prog 42 #[.pointer none,.int .i64 x] w fun e w'=>e=.returned (.int .i64 x)∧w'=w:=by
 go_enter Tryz.func42,Tryz.ntmps42
 go_wp2_with (go_at_call 71; refine (cStep _).mono ?_; rintro e w' ⟨rfl,rfl⟩)
 go_ret
 exact ⟨rfl,rfl⟩
theorem cAllKeys (w:World):Calls Tryz.prog 61 #[] w fun e w'=>e=.returned (.agg #[.int .i64 0,.int .i64 4294967295])∧Turned [] w w':=by
 go_enter Tryz.func61,Tryz.ntmps61
 go_wp2
 exact bodyPost_ret (v:=.agg #[.int .i64 0,.int .i64 4294967295]) (by simp [results,Tryz.results61,go_sem]) rfl ⟨rfl,(Turned.refl _ _).alloc _⟩
theorem cSpHas (a b k:Int) {r:Bool} (hr:decide (a≤k∧k≤b)=r) (w:World):Calls Tryz.prog 70 #[.agg #[.int .i64 a,.int .i64 b],.int .i64 k] w fun e w'=>e=.returned (.bool r)∧Turned [] w w':=by
 subst hr
 rcases (by omega:k < a∨(a≤k∧k≤b)∨(a≤k∧b < k)) with h | ⟨h,h'⟩ | ⟨h,h'⟩
 ·have d1:decide (a≤k)=false:=decide_eq_false (by omega)
  rw [show decide (a≤k∧k≤b)=false from decide_eq_false (by omega)]
  go_enter Tryz.func70,Tryz.ntmps70
  go_wp2
  go_ret
  exact ⟨rfl,(Turned.refl _ _).alloc _⟩
 ·have d1:decide (a≤k)=true:=decide_eq_true (by omega)
  have d2:decide (k≤b)=true:=decide_eq_true (by omega)
  rw [show decide (a≤k∧k≤b)=true from decide_eq_true (by omega)]
  go_enter Tryz.func70,Tryz.ntmps70
  go_wp2
  go_ret
  exact ⟨rfl,(Turned.refl _ _).alloc _⟩
 ·have d1:decide (a≤k)=true:=decide_eq_true (by omega)
  have d2:decide (k≤b)=false:=decide_eq_false (by omega)
  rw [show decide (a≤k∧k≤b)=false from decide_eq_false (by omega)]
  go_enter Tryz.func70,Tryz.ntmps70
  go_wp2
  go_ret
  exact ⟨rfl,(Turned.refl _ _).alloc _⟩
theorem cIsKey (k:Int) {r:Bool} (hr:decide (0≤k∧k≤4294967295)=r) (w:World):Calls Tryz.prog 41 #[.int .i64 k] w fun e w'=>e=.returned (.bool r)∧Turned [] w w':=by
 have HH:Hid (∀ w,Calls Tryz.prog 70 #[.agg #[.int .i64 0,.int .i64 4294967295],.int .i64 k] w fun e w'=>e=.returned (.bool r)∧Turned [] w w'):=cSpHas 0 4294967295 k hr
 clear hr
 go_enter Tryz.func41,Tryz.ntmps41
 go_wp2_with (first
  | (go_at_call 61; refine (cAllKeys _).mono ?_; rintro e w1 ⟨rfl,ht1⟩; have HT1:Hid (Turned [] w w1):=ht1; clear ht1)
  | (go_at_call 70; refine (HH.out _).mono ?_; rintro e w2 ⟨rfl,ht2⟩; have HT2:Hid (Turned [] w w2):=HT1.out.trans ht2; clear ht2))
 go_ret
 exact ⟨rfl,HT2.out⟩
theorem cSpHolds (a b c d:Int) {r:Bool} (hr:decide (a≤c∧d≤b)=r) (w:World):Calls Tryz.prog 87 #[.agg #[.int .i64 a,.int .i64 b],.agg #[.int .i64 c,.int .i64 d]] w fun e w'=>e=.returned (.bool r)∧Turned [] w w':=by
 subst hr
 rcases (by omega:c < a∨(a≤c∧d≤b)∨(a≤c∧b < d)) with h | ⟨h,h'⟩ | ⟨h,h'⟩
 ·have d1:decide (a≤c)=false:=decide_eq_false (by omega)
  rw [show decide (a≤c∧d≤b)=false from decide_eq_false (by omega)]
  go_enter Tryz.func87,Tryz.ntmps87
  go_wp2
  go_ret
  exact ⟨rfl,((Turned.refl _ _).alloc _).alloc _⟩
 ·have d1:decide (a≤c)=true:=decide_eq_true (by omega)
  have d2:decide (d≤b)=true:=decide_eq_true (by omega)
  rw [show decide (a≤c∧d≤b)=true from decide_eq_true (by omega)]
  go_enter Tryz.func87,Tryz.ntmps87
  go_wp2
  go_ret
  exact ⟨rfl,((Turned.refl _ _).alloc _).alloc _⟩
 ·have d1:decide (a≤c)=true:=decide_eq_true (by omega)
  have d2:decide (d≤b)=false:=decide_eq_false (by omega)
  rw [show decide (a≤c∧d≤b)=false from decide_eq_false (by omega)]
  go_enter Tryz.func87,Tryz.ntmps87
  go_wp2
  go_ret
  exact ⟨rfl,((Turned.refl _ _).alloc _).alloc _⟩
theorem cSpMeets (a b c d:Int) {r:Bool} (hr:decide (max a c≤min b d)=r) (w:World):Calls Tryz.prog 115 #[.agg #[.int .i64 a,.int .i64 b],.agg #[.int .i64 c,.int .i64 d]] w fun e w'=>e=.returned (.bool r)∧Turned [] w w':=by
 go_enter Tryz.func115,Tryz.ntmps115
 go_wp2
 all_goals
  go_ret
  refine ⟨?_,((Turned.refl _ _).alloc _).alloc _⟩
  subst hr
  exact congrArg (fun b=>Ending.returned (.bool b)) (decide_eq_decide.2 (by omega))
theorem cLeafSpan (k v:Int) (w:World):Calls Tryz.prog 140 #[.agg #[.int .i64 k,.int .i64 v]] w fun e w'=>e=.returned (.agg #[.int .i64 k,.int .i64 k])∧Turned [] w w':=by
 go_enter Tryz.func140,Tryz.ntmps140
 go_wp2
 exact bodyPost_ret (v:=.agg #[.int .i64 k,.int .i64 k]) (by simp [results,Tryz.results140,go_sem]) rfl ⟨rfl,((Turned.refl _ _).alloc _).alloc _⟩
theorem cLeafCount (k v:Int) (w:World):Calls Tryz.prog 139 #[.agg #[.int .i64 k,.int .i64 v]] w fun e w'=>e=.returned (.int .i64 1)∧Turned [] w w':=by
 go_enter Tryz.func139,Tryz.ntmps139
 go_wp2
 go_ret
 exact ⟨rfl,(Turned.refl _ _).alloc _⟩
theorem cLeafPair (k v:Int) (w:World):Calls Tryz.prog 65 #[.agg #[.int .i64 k,.int .i64 v]] w fun e w'=>e=.returned (.agg #[.int .i64 k,.int .i64 v])∧Turned [] w w':=by
 go_enter Tryz.func65,Tryz.ntmps65
 go_wp2
 exact bodyPost_ret (v:=.agg #[.int .i64 k,.int .i64 v]) (by simp [results,Tryz.results65,go_sem]) rfl ⟨rfl,((Turned.refl _ _).alloc _).alloc _⟩
theorem cInnerCount (f p l r k:Int) (w:World):Calls Tryz.prog 141 #[.agg #[.int .i64 f,.int .i64 p,.int .i64 l,.int .i64 r,.int .i64 k]] w fun e w'=>e=.returned (.int .i64 k)∧Turned [] w w':=by
 go_enter Tryz.func141,Tryz.ntmps141
 go_wp2
 go_ret
 exact ⟨rfl,(Turned.refl _ _).alloc _⟩
theorem cRootSpot (h:Int) (w:World):Calls Tryz.prog 39 #[.int .i64 h] w fun e w'=>e=.returned (.agg #[.int .i64 h,.int .i64 0,.int .i64 4294967295,.nilIface])∧Turned [] w w':=by
 go_enter Tryz.func39,Tryz.ntmps39
 go_wp2_with (go_at_call 61; refine (cAllKeys _).mono ?_; rintro e w1 ⟨rfl,ht1⟩; obtain ⟨⟨c0,c1,c2,c3⟩,z0,z1,z2,z3⟩:=cells4 (new_cells ht1); have HT:Hid (Turned [] w w1):=((Turned.refl _ _).alloc _).trans ht1; clear ht1)
 refine bodyPost_ret (v:=.agg #[.int .i64 h,.int .i64 0,.int .i64 4294967295,.nilIface]) (by simp [results,Tryz.results39,go_sem,c0,c1,c2,c3]) rfl ⟨rfl,?_⟩
 refine Turned.set (Turned.set (Turned.set (Turned.set HT.out (.inr ?_) _ _) (.inr ?_) _ _) (.inr ?_) _ _) (.inr ?_) _ _ <;> simp
theorem cHalf0 {f:Int} {p:Nat} (l r k:Int) (h0:0≤f) (h1:f+2 * 2 ^ p≤4294967296) (hp:p≤31) (w:World):Calls Tryz.prog 106 #[.agg #[.int .i64 f,.int .i64 p,.int .i64 l,.int .i64 r,.int .i64 k],.int .i64 0] w fun e w'=>e=.returned (.agg #[.int .i64 f,.int .i64 (f+2 ^ p - 1)])∧Turned [] w w':=by
 have hs0:=Tr.pow_pos' p
 have hs1:=pow31 hp
 go_enter Tryz.func106,Tryz.ntmps106
 go_wp2
 refine bodyPost_ret (v:=.agg #[.int .i64 f,.int .i64 (f+2 ^ p - 1)]) (by simp [results,Tryz.results106,go_sem]) rfl ⟨rfl,((Turned.refl _ _).alloc _).alloc _⟩
theorem cHalf1 {f:Int} {p:Nat} (l r k:Int) (h0:0≤f) (h1:f+2 * 2 ^ p≤4294967296) (hp:p≤31) (w:World):Calls Tryz.prog 106 #[.agg #[.int .i64 f,.int .i64 p,.int .i64 l,.int .i64 r,.int .i64 k],.int .i64 1] w fun e w'=>e=.returned (.agg #[.int .i64 (f+2 ^ p),.int .i64 ((f+2 * 2 ^ p - 1))])∧Turned [] w w':=by
 have hs0:=Tr.pow_pos' p
 have hs1:=pow31 hp
 go_enter Tryz.func106,Tryz.ntmps106
 go_wp2
 refine bodyPost_ret (v:=.agg #[.int .i64 (f+2 ^ p),.int .i64 ((f+2 * 2 ^ p - 1))]) (by simp [results,Tryz.results106,go_sem]; omega) rfl ⟨rfl,((Turned.refl _ _).alloc _).alloc _⟩
end Go.Proofs.YtloljphbdfjgdaaGreatDoor
/- Package trie's inner nodes, alone, by contract. -/
namespace Go.Proofs.YtloljphbdfjgdaaGreatDoor
open Go.RowKit
theorem fld_span (a b:Int) (w:World):(Instr.field 116 (.agg #[.int .i64 a,.int .i64 b]) 1).run Tryz.prog w=.ok (.int .i64 b) w:=by kernel_rfl
theorem Tab.keep {w w':World} {l:List Nat} (h:Tab w) (ht:Turned l w w') (h0:0∉l):Tab w':=fun i hi=>ht.cell (h i hi) h0
set_option maxRecDepth 100000 in
set_option maxHeartbeats 1600000 in
theorem cInnerSpan {f:Int} {p:Nat} (l r k:Int) (h0:0≤f) (h1:f+2 * 2 ^ p≤4294967296) (hp:p≤31) (w:World):Calls Tryz.prog 76 #[.agg #[.int .i64 f,.int .i64 p,.int .i64 l,.int .i64 r,.int .i64 k]] w fun e w'=>e=.returned (.agg #[.int .i64 f,.int .i64 (f+2 * 2 ^ p - 1)])∧Turned [] w w':=by
 have HH:Hid (∀ w,Calls Tryz.prog 106 #[.agg #[.int .i64 f,.int .i64 p,.int .i64 l,.int .i64 r,.int .i64 k],.int .i64 1] w fun e w'=>e=.returned (.agg #[.int .i64 (f+2 ^ p),.int .i64 (f+2 * 2 ^ p - 1)])∧Turned [] w w'):=cHalf1 l r k h0 h1 hp
 have HF:=fld_span
 go_enter Tryz.func76,Tryz.ntmps76
 go_wp2
 go_region_with (go_at_call 106; refine (HH.out _).mono ?_; rintro e w1 ⟨rfl,ht1⟩; obtain ⟨hb0,hb1,ht⟩:=two_cellsD ht1; obtain ⟨⟨c0,c1,c2,c3,c4⟩,-⟩:=cells5 hb0; obtain ⟨⟨d0,d1⟩,z0,z1⟩:=cells2 hb1; have HT:Hid (Turned [] w w1):=ht; clear ht1 ht hb0 hb1)
 all_goals
  go_wp2
  refine bodyPost_ret (v:=.agg #[.int .i64 f,.int .i64 (f+2 * 2 ^ p - 1)]) (by simp [results,Tryz.results76,go_sem,d0,d1]) rfl ⟨rfl,?_⟩
  refine Turned.set (Turned.set HT.out (.inr ?_) _ _) (.inr ?_) _ _ <;> simp
set_option maxRecDepth 100000 in
set_option maxHeartbeats 1600000 in
theorem cChild0 {f:Int} {p:Nat} (l r k:Int) (h0:0≤f) (h1:f+2 * 2 ^ p≤4294967296) (hp:p≤31) (w:World):Calls Tryz.prog 78 #[.agg #[.int .i64 f,.int .i64 p,.int .i64 l,.int .i64 r,.int .i64 k],.int .i64 0] w fun e w'=>e=.returned (.agg #[.int .i64 l,.int .i64 f,.int .i64 (f+2 ^ p - 1),.nilIface])∧Turned [] w w':=by
 have HH:Hid (∀ w,Calls Tryz.prog 106 #[.agg #[.int .i64 f,.int .i64 p,.int .i64 l,.int .i64 r,.int .i64 k],.int .i64 0] w fun e w'=>e=.returned (.agg #[.int .i64 f,.int .i64 (f+2 ^ p - 1)])∧Turned [] w w'):=cHalf0 l r k h0 h1 hp
 go_enter Tryz.func78,Tryz.ntmps78
 go_wp2
 go_region_with (go_at_call 106; refine (HH.out _).mono ?_; rintro e w1 ⟨rfl,ht1⟩; obtain ⟨hb0,hb1,ht⟩:=two_cellsD ht1; obtain ⟨⟨c0,c1,c2,c3,c4⟩,-⟩:=cells5 hb0; obtain ⟨⟨d0,d1,d2,d3⟩,z0,z1,z2,z3⟩:=cells4 hb1; have HT:Hid (Turned [] w w1):=ht; clear ht1 ht hb0 hb1)
 all_goals
  go_wp2
  refine bodyPost_ret (v:=.agg #[.int .i64 l,.int .i64 f,.int .i64 (f+2 ^ p - 1),.nilIface]) (by simp [results,Tryz.results78,go_sem,d0,d1,d2,d3]) rfl ⟨rfl,?_⟩
  refine Turned.set (Turned.set (Turned.set (Turned.set HT.out (.inr ?_) _ _) (.inr ?_) _ _) (.inr ?_) _ _) (.inr ?_) _ _ <;> simp
theorem cWith0 (f p l r k x m:Int) (h0:0≤k+m) (h1:k+m≤1099511627776) (w:World):Calls Tryz.prog 80 #[.agg #[.int .i64 f,.int .i64 p,.int .i64 l,.int .i64 r,.int .i64 k],.int .i64 0,.int .i64 x,.int .i64 m] w fun e w'=>e=.returned (.agg #[.int .i64 f,.int .i64 p,.int .i64 x,.int .i64 r,.int .i64 (k+m)])∧Turned [] w w':=by
 go_enter Tryz.func80,Tryz.ntmps80
 go_wp2
 exact bodyPost_ret (v:=.agg #[.int .i64 f,.int .i64 p,.int .i64 x,.int .i64 r,.int .i64 (k+m)]) (by simp [results,Tryz.results80,go_sem]) rfl ⟨rfl,((Turned.refl _ _).alloc _).alloc _⟩
set_option maxRecDepth 100000 in
set_option maxHeartbeats 1600000 in
theorem cChild1 {f:Int} {p:Nat} (l r k:Int) (h0:0≤f) (h1:f+2 * 2 ^ p≤4294967296) (hp:p≤31) (w:World):Calls Tryz.prog 78 #[.agg #[.int .i64 f,.int .i64 p,.int .i64 l,.int .i64 r,.int .i64 k],.int .i64 1] w fun e w'=>e=.returned (.agg #[.int .i64 r,.int .i64 (f+2 ^ p),.int .i64 (f+2 * 2 ^ p - 1),.nilIface])∧Turned [] w w':=by
 have HH:Hid (∀ w,Calls Tryz.prog 106 #[.agg #[.int .i64 f,.int .i64 p,.int .i64 l,.int .i64 r,.int .i64 k],.int .i64 1] w fun e w'=>e=.returned (.agg #[.int .i64 (f+2 ^ p),.int .i64 (f+2 * 2 ^ p - 1)])∧Turned [] w w'):=cHalf1 l r k h0 h1 hp
 go_enter Tryz.func78,Tryz.ntmps78
 go_wp2
 go_region_with (go_at_call 106; refine (HH.out _).mono ?_; rintro e w1 ⟨rfl,ht1⟩; obtain ⟨hb0,hb1,ht⟩:=two_cellsD ht1; obtain ⟨⟨c0,c1,c2,c3,c4⟩,-⟩:=cells5 hb0; obtain ⟨⟨d0,d1,d2,d3⟩,z0,z1,z2,z3⟩:=cells4 hb1; have HT:Hid (Turned [] w w1):=ht; clear ht1 ht hb0 hb1)
 all_goals
  go_wp2
  refine bodyPost_ret (v:=.agg #[.int .i64 r,.int .i64 (f+2 ^ p),.int .i64 (f+2 * 2 ^ p - 1),.nilIface]) (by simp [results,Tryz.results78,go_sem,d0,d1,d2,d3]) rfl ⟨rfl,?_⟩
  refine Turned.set (Turned.set (Turned.set (Turned.set HT.out (.inr ?_) _ _) (.inr ?_) _ _) (.inr ?_) _ _) (.inr ?_) _ _ <;> simp
theorem cWith1 (f p l r k x m:Int) (h0:0≤k+m) (h1:k+m≤1099511627776) (w:World):Calls Tryz.prog 80 #[.agg #[.int .i64 f,.int .i64 p,.int .i64 l,.int .i64 r,.int .i64 k],.int .i64 1,.int .i64 x,.int .i64 m] w fun e w'=>e=.returned (.agg #[.int .i64 f,.int .i64 p,.int .i64 l,.int .i64 x,.int .i64 (k+m)])∧Turned [] w w':=by
 go_enter Tryz.func80,Tryz.ntmps80
 go_wp2
 exact bodyPost_ret (v:=.agg #[.int .i64 f,.int .i64 p,.int .i64 l,.int .i64 x,.int .i64 (k+m)]) (by simp [results,Tryz.results80,go_sem]) rfl ⟨rfl,((Turned.refl _ _).alloc _).alloc _⟩
theorem cSide {f k x:Int} {p:Nat} (l r:Int) {v:Int} {w:World} (ht:Tab w) (h0:0≤x) (h1:x≤4294967295) (h3:p≤31) (hb:hv x.toNat p % 2=v):Calls Tryz.prog 77 #[.agg #[.int .i64 f,.int .i64 p,.int .i64 l,.int .i64 r,.int .i64 k],.int .i64 x] w fun e w'=>e=.returned (.int .i64 v)∧Turned [] w w':=by
 have HB:Hid (∀ w,Tab w→Calls Tryz.prog 107 #[.int .i64 x,.int .i64 p] w fun e w'=>e=.returned (.tuple #[.int .i64 v,.int .i64 0])∧w'=w):=fun w hw=>cBit hw h0 h1 h3 hb
 have HT:Hid (Tab w):=ht
 clear ht hb
 go_enter Tryz.func77,Tryz.ntmps77
 go_wp2_with (go_at_call 107; refine (HB.out _ (HT.out.keep (l:=[]) ((Turned.refl _ _).alloc _) (by simp))).mono ?_; rintro e w1 ⟨rfl,rfl⟩)
 go_ret
 exact ⟨rfl,(Turned.refl _ _).alloc _⟩
theorem cFirstOf {k:Int} {p:Nat} (h0:0≤k) (h1:k≤4294967295) (h3:p≤31) (w:World):Calls Tryz.prog 82 #[.int .i64 k,.int .i64 p] w fun e w'=>e=.returned (.int .i64 (fstK k p))∧w'=w:=by
 go_enter Tryz.func82,Tryz.ntmps82
 go_wp2
 go_ret
 obtain ⟨b1,-,-⟩:=fstK_bd (k:=k) p
 have b0:0≤fstK k p:=Int.mul_nonneg (Int.ediv_nonneg h0 (by have:=Tr.pow_pos' p; omega)) (by have:=Tr.pow_pos' p; omega)
 have e:k / 2 ^ (p+1) * 2 ^ (p+1)=fstK k p:=by unfold fstK; rw [Int.pow_succ,Int.mul_comm (2 ^ p) 2]
 exact ⟨by show Ending.returned (.int .i64 (wrap64 _))=_; rw [e,show wrap64 (fstK k p)=fstK k p by unfold wrap64; omega],rfl⟩
end Go.Proofs.YtloljphbdfjgdaaGreatDoor
/- Package trie's nodes and their four numbers, alone, by contract. -/
namespace Go.Proofs.YtloljphbdfjgdaaGreatDoor
open Go.RowKit
theorem as_leaf_leaf (v:Value) (w:World):(Instr.typeAssert (.iface 128 v) 118 128 true).run Tryz.prog w=.ok (.tuple #[v,.bool true]) w:=by kernel_rfl
theorem as_leaf_inner (v:Value) (w:World):(Instr.typeAssert (.iface 128 v) 118 151 true).run Tryz.prog w=.ok (.tuple #[.agg #[.int .i64 0,.int .i64 0,.int .i64 0,.int .i64 0,.int .i64 0],.bool false]) w:=by kernel_rfl
theorem as_inner_leaf (v:Value) (w:World):(Instr.typeAssert (.iface 151 v) 118 128 true).run Tryz.prog w=.ok (.tuple #[.agg #[.int .i64 0,.int .i64 0],.bool false]) w:=by kernel_rfl
theorem as_inner_inner (v:Value) (w:World):(Instr.typeAssert (.iface 151 v) 118 151 true).run Tryz.prog w=.ok (.tuple #[v,.bool true]) w:=by kernel_rfl
theorem cNumLeaf (k v:Int) (w:World):Calls Tryz.prog 73 #[.iface 128 (.agg #[.int .i64 k,.int .i64 v])] w fun e w'=>e=.returned (.agg #[.int .i64 0,.int .i64 k,.int .i64 v,.int .i64 1])∧Turned [] w w':=by
 have h1:=as_leaf_leaf
 go_enter Tryz.func73,Tryz.ntmps73
 go_wp2
 exact bodyPost_ret (v:=.agg #[.int .i64 0,.int .i64 k,.int .i64 v,.int .i64 1]) (by simp [results,Tryz.results73,go_sem]) rfl ⟨rfl,((Turned.refl _ _).alloc _).alloc _⟩
theorem cNumInner {f:Int} {p:Nat} (l r k:Int) (h0:0≤f) (h1:f≤4294967295) (h3:p≤31) (w:World):Calls Tryz.prog 73 #[.iface 151 (.agg #[.int .i64 f,.int .i64 p,.int .i64 l,.int .i64 r,.int .i64 k])] w fun e w'=>e=.returned (.agg #[.int .i64 (f * 64+p+1),.int .i64 l,.int .i64 r,.int .i64 k])∧Turned [] w w':=by
 have a1:=as_inner_leaf
 have a2:=as_inner_inner
 have h31:(p:Int)≤31:=by omega
 go_enter Tryz.func73,Tryz.ntmps73
 go_wp2
 exact bodyPost_ret (v:=.agg #[.int .i64 (f * 64+p+1),.int .i64 l,.int .i64 r,.int .i64 k]) (by simp [results,Tryz.results73,go_sem]) rfl ⟨rfl,((Turned.refl _ _).alloc _).alloc _⟩
theorem cNodeLeaf {k:Int} (v:Int) (h0:0≤k) (h1:k≤4294967295) (w:World):Calls Tryz.prog 86 #[.agg #[.int .i64 0,.int .i64 k,.int .i64 v,.int .i64 1]] w fun e w'=>e=.returned (.tuple #[.iface 128 (.agg #[.int .i64 k,.int .i64 v]),.int .i64 0])∧Turned [] w w':=by
 have HK:Hid (∀ w,Calls Tryz.prog 41 #[.int .i64 k] w fun e w'=>e=.returned (.bool true)∧Turned [] w w'):=cIsKey k (decide_eq_true ⟨h0,h1⟩)
 go_enter Tryz.func86,Tryz.ntmps86
 go_wp2_with (go_at_call 41; refine (HK.out _).mono ?_; rintro e w1 ⟨rfl,ht1⟩; obtain ⟨hb,ht⟩:=one_cells ht1; obtain ⟨⟨c0,c1,c2,c3⟩,-⟩:=cells4 hb; have HT:Hid (Turned [] w w1):=ht; clear ht1 ht hb)
 go_ret2
 exact ⟨rfl,HT.out⟩
set_option maxRecDepth 100000 in
set_option maxHeartbeats 1600000 in
theorem cNodeInner {f:Int} {p:Nat} (l r k:Int) (h0:0≤f) (h1:f+2 * 2 ^ p≤4294967296) (h3:p≤31) (hf:f % (2 * 2 ^ p)=0) (w:World):Calls Tryz.prog 86 #[.agg #[.int .i64 (f * 64+p+1),.int .i64 l,.int .i64 r,.int .i64 k]] w fun e w'=>e=.returned (.tuple #[.iface 151 (.agg #[.int .i64 f,.int .i64 p,.int .i64 l,.int .i64 r,.int .i64 k]),.int .i64 0])∧Turned [] w w':=by
 have hs0:=Tr.pow_pos' p
 have f1:f≤4294967295:=by omega
 have HK:Hid (∀ w,Calls Tryz.prog 41 #[.int .i64 f] w fun e w'=>e=.returned (.bool true)∧Turned [] w w'):=cIsKey f (decide_eq_true ⟨h0,f1⟩)
 have HF:Hid (∀ w,Calls Tryz.prog 82 #[.int .i64 f,.int .i64 p] w fun e w'=>e=.returned (.int .i64 f)∧w'=w):=fun w=>by
  have:=cFirstOf h0 f1 h3 w
  rw [show fstK f p=f by unfold fstK; have:=Int.mul_ediv_add_emod f (2 * 2 ^ p); rw [hf,Int.mul_comm] at this; omega] at this
  exact this
 have h31:(p:Int)≤31:=by omega
 have e1:decide (31 < (p:Int))=false:=decide_eq_false (by omega)
 have q1:(f * 64+(p:Int)) / 64=f:=by omega
 have q2:(f * 64+(p:Int)) % 64=p:=by omega
 clear h1 hf hs0
 go_enter Tryz.func86,Tryz.ntmps86
 go_wp2
 go_region_with (first
  | (go_at_call 41; refine (HK.out _).mono ?_; rintro e w1 ⟨rfl,ht1⟩; obtain ⟨hb0,hb1,ht⟩:=two_cellsD ht1; obtain ⟨⟨c0,c1,c2,c3,c4⟩,-⟩:=cells5 hb1; have HT:Hid (Turned [] w w1):=ht; clear ht1 ht hb0 hb1)
  | (go_at_call 82; refine (HF.out _).mono ?_; rintro e w2 ⟨rfl,rfl⟩))
 all_goals
  go_wp2
  go_ret2
  exact ⟨rfl,HT.out⟩
end Go.Proofs.YtloljphbdfjgdaaGreatDoor
/- Trees of keys: what is shared, without a key, ranks: nothing of the program. -/
namespace Go.Proofs.YtloljphbdfjgdaaGreatDoor
namespace Tr

def val (k:Int):Tr→Option Int
 | leaf _ k' v=>if k'=k then some v else none
 | node _ _ _ _ _=>none
theorem getL_stop {k:Int}:∀ {t:Tr},t.WF→getL t.pairs k=val k (stop k t)
 | leaf h k' v,_=>by
  simp only [stop,val,pairs,getL]
  by_cases e:k'=k
  ·subst e; simp
  ·rw [if_neg e]
   split <;> rfl
 | node h q c l r,hw=>by
  have hw0:=hw
  obtain ⟨_,_,_,_,h5,h6,h7,h8,hl,hr⟩:=hw
  simp only [stop,pairs]
  split
  ·rw [getL_left fun x hx=>by have:=hr.mem x hx; omega,getL_stop hl]
  ·split
   ·rw [getL_right fun x hx=>by have:=hl.mem x hx; omega,getL_stop hr]
   ·simp only [val]
    have hq:=pow_pos' q
    by_cases z:k < c
    ·have:=getL_left (l:=[]) (m:=l.pairs ++ r.pairs) (k:=k) fun x hx=>by have:=hw0.mem x hx; simp only [lo] at this; omega
     rw [List.nil_append] at this
     rw [this]; rfl
    ·have:=getL_right (l:=l.pairs ++ r.pairs) (m:=[]) (k:=k) fun x hx=>by have:=hw0.mem x hx; simp only [hi] at this; omega
     rw [List.append_nil] at this
     rw [this]; rfl

theorem put_count {g:Nat→Int} {k v:Int} {p:Nat} {b:Int}:∀ {t:Tr},t.WF→(put g k v p b t).2=(gone k t).length+if (val k (stop k t)).isSome then 0 else 2
 | leaf h k' v',_=>by
  simp only [put,gone,stop,val]
  by_cases e:k'=k
  ·simp [e]
  ·simp only [if_neg e]
   split <;> simp
 | node h q c l r,hw=>by
  obtain ⟨_,_,_,_,h5,h6,h7,h8,hl,hr⟩:=hw
  simp only [put,gone,stop]
  split
  ·simp only [put_count hl,List.length_append,List.length_singleton]; omega
  ·split
   ·simp only [put_count hr,List.length_append,List.length_singleton]; omega
   ·split <;> simp [val]
theorem gone_len (k:Int):∀ {t:Tr},t.WF→(gone k t).length≤t.deep+if (val k (stop k t)).isSome then 1 else 0
 | leaf h k' v',_=>by
  simp only [gone,stop,val,deep]
  by_cases e:k'=k <;> simp [e]
 | node h q c l r,hw=>by
  have hd:=hw.deep_lt
  obtain ⟨_,_,_,_,h5,h6,h7,h8,hl,hr⟩:=hw
  have il:=gone_len k hl
  have ir:=gone_len k hr
  simp only [gone,stop,deep]
  split
  ·simp only [List.length_append,List.length_singleton]; omega
  ·split
   ·simp only [List.length_append,List.length_singleton]; omega
   ·simp
theorem WF.deep32 {t:Tr} (h:t.WF):t.deep≤32:=by
 cases t with
 | leaf=>simp [deep]
 | node _ q _ _ _=>simp only [deep]; have:=h.1; omega
theorem put_most {g:Nat→Int} {k v:Int} {p:Nat} {b:Int} {t:Tr} (h:t.WF):(put g k v p b t).2≤34∧(put g k v p b t).2≤(gone k t).length+2:=by
 have h1:=put_count (g:=g) (k:=k) (v:=v) (p:=p) (b:=b) h
 have h2:=gone_len k h
 have h3:=h.deep32
 rw [h1]
 split at h2 <;> rename_i z <;> simp only [z,if_true] <;> (try simp only [Bool.not_eq_true] at z) <;> (try simp only [z]) <;> simp <;> omega

def mades (g:Nat→Int) (n:Nat):List Int:=(List.range n).map g
theorem mades_succ (g:Nat→Int) (n:Nat):mades g (n+1)=mades g n ++ [g n]:=by simp [mades,List.range_succ]
theorem put_hs {g:Nat→Int} {k v:Int} {p:Nat} {b:Int}:∀ {t:Tr},t.WF→((put g k v p b t).1.hs ++ gone k t).Perm (t.hs ++ mades g (put g k v p b t).2)
 | leaf h k' v',_=>by
  simp only [put,gone]
  by_cases e:k'=k
  ·simp only [if_pos e,hs,mades,List.range_succ,List.range_zero]
   exact List.Perm.swap _ _ _
  ·simp only [if_neg e]
   split
   ·simp only [hs,mades,List.range_succ,List.range_zero,List.append_nil]
    simp
    exact (List.perm_append_comm (l₁:=[g 1,g 0]) (l₂:=[h])).trans ((List.Perm.swap _ _ _).cons _)
   ·simp only [hs,mades,List.range_succ,List.range_zero,List.append_nil]
    simp
    exact (List.Perm.swap _ _ _).trans ((List.Perm.swap _ _ _).cons _)
 | node h q c l r,hw=>by
  obtain ⟨_,_,_,_,h5,h6,h7,h8,hl,hr⟩:=hw
  simp only [put,gone]
  split
  ·have ih:=put_hs (g:=g) (k:=k) (v:=v) (p:=p) (b:=b) hl
   simp only [hs,mades_succ]
   generalize (put g k v p b l).1.hs=A at *
   generalize mades g (put g k v p b l).2=M at *
   generalize g (put g k v p b l).2=x at *
   refine (List.perm_iff_count.2 fun y=>?_)
   have:=(List.perm_iff_count.1 ih) y
   simp only [List.count_append,List.count_cons,List.count_nil] at *
   omega
  ·split
   ·have ih:=put_hs (g:=g) (k:=k) (v:=v) (p:=p) (b:=b) hr
    simp only [hs,mades_succ]
    generalize (put g k v p b r).1.hs=A at *
    generalize mades g (put g k v p b r).2=M at *
    generalize g (put g k v p b r).2=x at *
    refine (List.perm_iff_count.2 fun y=>?_)
    have:=(List.perm_iff_count.1 ih) y
    simp only [List.count_append,List.count_cons,List.count_nil] at *
    omega
   ·split
    ·refine (List.perm_iff_count.2 fun y=>?_)
     simp only [hs,mades,List.range_succ,List.range_zero,List.map_append,List.map_cons,List.map_nil,List.count_append,List.count_cons,List.count_nil]
     omega
    ·refine (List.perm_iff_count.2 fun y=>?_)
     simp only [hs,mades,List.range_succ,List.range_zero,List.map_append,List.map_cons,List.map_nil,List.count_append,List.count_cons,List.count_nil]
     omega

def del (g:Nat→Int) (k:Int):Tr→Option Tr × Nat
 | leaf _ _ _=>(none,0)
 | node _ q c l r =>
  if k < c+2 ^ q then match del g k l with
   | (none,n)=>(some r,n)
   | (some t,n)=>(some (node (g n) q c t r),n+1)
  else match del g k r with
   | (none,n)=>(some l,n)
   | (some t,n)=>(some (node (g n) q c l t),n+1)
def pairsO:Option Tr→List (Int × Int)
 | none=>[]
 | some t=>t.pairs
def hsO:Option Tr→List Int
 | none=>[]
 | some t=>t.hs
def two:Option Tr→Nat
 | none=>1
 | some _=>2
theorem del_ok {g:Nat→Int} {k:Int}:∀ {t:Tr},t.WF→(val k (stop k t)).isSome→∀ o n,del g k t=(o,n)→pairsO o=delL t.pairs k∧(∀ u,o=some u→u.WF∧t.lo≤u.lo∧u.hi≤t.hi) ∧
  (hsO o ++ gone k t).Perm (t.hs ++ mades g n)∧(o=none→n=0∧∃ h v,t=leaf h k v)∧(gone k t).length=n+two o
 | leaf h k' v',_,hv,o,n,he=>by
  simp only [stop,val] at hv
  simp only [del,Prod.mk.injEq] at he
  obtain ⟨rfl,rfl⟩:=he
  by_cases e:k'=k
  ·subst e
   simp [pairsO,hsO,pairs,delL,gone,hs,mades,two]
  ·rw [if_neg e] at hv; simp at hv
 | node h q c l r,hw,hv,o,n,he=>by
  obtain ⟨h1,h2,h3,h4,h5,h6,h7,h8,hl,hr⟩:=hw
  have hq:=pow_pos' q
  simp only [stop] at hv
  simp only [del] at he
  by_cases hk:c≤k∧k < c+2 ^ q
  ·rw [if_pos hk] at hv
   rw [if_pos hk.2] at he
   simp only [gone,if_pos hk,pairs]
   rw [delL_left fun x hx=>by have:=hr.mem x hx; omega]
   rcases hd:del g k l with ⟨_ | u,m⟩
   ·obtain ⟨i1,i2,i3,i4,i5⟩:=del_ok (g:=g) hl hv _ _ hd
    rw [hd] at he
    simp only [Prod.mk.injEq] at he
    obtain ⟨rfl,rfl⟩:=he
    simp only [pairsO,hsO,two] at *
    have hsp:=hr.span
    refine ⟨by rw [← i1]; rfl,fun u hu=>by cases hu; exact ⟨hr,by show c≤_; omega,by show _≤c+2 * 2 ^ q - 1; omega⟩,?_,fun z=>by (cases z),?_⟩
    ·refine (List.perm_iff_count.2 fun y=>?_)
     have:=(List.perm_iff_count.1 i3) y
     simp only [hs,List.count_append,List.count_cons,List.count_nil] at *
     omega
    ·simp only [List.length_append,List.length_singleton] at *
     omega
   ·obtain ⟨i1,i2,i3,i4,i5⟩:=del_ok (g:=g) hl hv _ _ hd
    rw [hd] at he
    simp only [Prod.mk.injEq] at he
    obtain ⟨rfl,rfl⟩:=he
    simp only [pairsO,hsO,two] at *
    obtain ⟨j1,j2,j3⟩:=i2 u rfl
    refine ⟨by rw [← i1]; rfl,fun u' hu=>by cases hu; exact ⟨⟨h1,h2,h3,h4,by omega,by omega,h7,h8,j1,hr⟩,Int.le_refl _,Int.le_refl _⟩,?_,fun z=>by (cases z),?_⟩
    ·refine (List.perm_iff_count.2 fun y=>?_)
     have:=(List.perm_iff_count.1 i3) y
     simp only [hs,mades_succ,List.count_append,List.count_cons,List.count_nil] at *
     omega
    ·simp only [List.length_append,List.length_singleton] at *
     omega
  ·rw [if_neg hk] at hv
   by_cases hk2:c+2 ^ q≤k∧k < c+2 * 2 ^ q
   ·rw [if_pos hk2] at hv
    rw [if_neg (by omega)] at he
    simp only [gone,if_neg hk,if_pos hk2,pairs]
    rw [delL_right fun x hx=>by have:=hl.mem x hx; omega]
    rcases hd:del g k r with ⟨_ | u,m⟩
    ·obtain ⟨i1,i2,i3,i4,i5⟩:=del_ok (g:=g) hr hv _ _ hd
     rw [hd] at he
     simp only [Prod.mk.injEq] at he
     obtain ⟨rfl,rfl⟩:=he
     simp only [pairsO,hsO,two] at *
     have hsp:=hl.span
     refine ⟨by rw [← i1]; simp,fun u hu=>by cases hu; exact ⟨hl,by show c≤_; omega,by show _≤c+2 * 2 ^ q - 1; omega⟩,?_,fun z=>by (cases z),?_⟩
     ·refine (List.perm_iff_count.2 fun y=>?_)
      have:=(List.perm_iff_count.1 i3) y
      simp only [hs,List.count_append,List.count_cons,List.count_nil] at *
      omega
     ·simp only [List.length_append,List.length_singleton] at *
      omega
    ·obtain ⟨i1,i2,i3,i4,i5⟩:=del_ok (g:=g) hr hv _ _ hd
     rw [hd] at he
     simp only [Prod.mk.injEq] at he
     obtain ⟨rfl,rfl⟩:=he
     simp only [pairsO,hsO,two] at *
     obtain ⟨j1,j2,j3⟩:=i2 u rfl
     refine ⟨by rw [← i1]; rfl,fun u' hu=>by cases hu; exact ⟨⟨h1,h2,h3,h4,h5,h6,by omega,by omega,hl,j1⟩,Int.le_refl _,Int.le_refl _⟩,?_,fun z=>by (cases z),?_⟩
     ·refine (List.perm_iff_count.2 fun y=>?_)
      have:=(List.perm_iff_count.1 i3) y
      simp only [hs,mades_succ,List.count_append,List.count_cons,List.count_nil] at *
      omega
     ·simp only [List.length_append,List.length_singleton] at *
      omega
   ·rw [if_neg hk2] at hv
    simp [val] at hv
end Tr
end Go.Proofs.YtloljphbdfjgdaaGreatDoor
/- A pool with its free places; nodes in its slots; trees of them: nothing of the program. -/
namespace Go.Proofs.YtloljphbdfjgdaaGreatDoor

structure PV (s:PSt) (St:List Nat) (it:Nat):Prop where
 ok:s.Ok
 top:Linked s.f (idxV s.h).toNat St
 small:∀ x∈St,1≤x∧x≤s.n
 nodup:St.Nodup
 even:∀ x∈St,(s.slot x).gen % 2=0
 odd:∀ i,1≤i→i≤s.n→i∉St→(s.slot i).gen % 2=1
 gens:∀ i,1≤i→i≤s.n→0≤(s.slot i).gen∧(s.slot i).gen≤it
 fits:it≤1000000000
theorem PV.new {n:Nat} (h1:1≤n) (h2:n≤4096):PV (PSt.new n) (List.range' 1 n) 0:=by
 have h:=PL.new h1 h2 (fun _=>⟨0,0,0,0,0,0,0⟩)
 exact ⟨h.ok,h.top,h.small,h.nodup,h.even,fun i a b c=>absurd (by rw [List.mem_range'_1]; have:i≤n:=b; omega) c,fun i _ _=>⟨Int.le_refl _,Int.le_refl _⟩,by omega⟩
theorem PV.more {s:PSt} {St:List Nat} {it it':Nat} (h:PV s St it) (hi:it≤it') (hf:it'≤1000000000):PV s St it' :=
 ⟨h.ok,h.top,h.small,h.nodup,h.even,h.odd,fun i h1 h2=>by have:=h.gens i h1 h2; omega,hf⟩
theorem PV.empty {s:PSt} {it:Nat} (h:PV s [] it):idxV s.h=0:=by
 have h1:(idxV s.h).toNat=0:=h.top
 have h2:=idx_nat h.ok.h0
 omega
theorem PV.some {s:PSt} {i:Nat} {St:List Nat} {it:Nat} (h:PV s (i :: St) it):idxV s.h=i∧i≠0∧1≤i∧i≤s.n∧0≤(s.slot i).gen∧(s.slot i).gen≤it∧(s.slot i).gen % 2=0:=by
 obtain ⟨h1,h2,-⟩:=h.top
 have h3:=idx_nat h.ok.h0
 have h5:=h.small i (by simp)
 have h6:=h.gens i h5.1 h5.2
 exact ⟨by omega,h2,h5.1,h5.2,h6.1,h6.2,h.even i (by simp)⟩
theorem PV.take {s:PSt} {i:Nat} {St:List Nat} {it:Nat} (h:PV s (i :: St) it) (hf:it+1≤1000000000) (a b c d link:Int):PV (s.take i a b c d link) St (it+1):=by
 obtain ⟨-,h0,h1,hn,g0,g1,g2⟩:=h.some
 have hnd':=List.nodup_cons.1 h.nodup
 have hsl:∀ j,(s.take i a b c d link).slot j=if j=i then ⟨(s.slot i).gen+1,0,link,a,b,c,d⟩ else s.slot j:=fun j=>rfl
 have n2:=h.ok.n2
 have hl:=h.ok.low i hn
 obtain ⟨w0,w1,w2⟩:=nextV_word (h:=s.h) (i:=s.f i) (by omega) h.ok.h0 h.ok.h1
 refine ⟨h.ok.take hn _ _ _ _ _,?_,fun x hx=>h.small x (by simp [hx]),hnd'.2,fun x hx=>?_,fun j j1 j2 j3=>?_,fun j j1 j2=>?_,hf⟩
 ·obtain ⟨-,-,h3⟩:=h.top
  show Linked s.f (idxV (nextV s.h (s.f i))).toNat St
  rw [w2]
  exact h3
 ·have:x≠i:=fun e=>hnd'.1 (e ▸ hx)
  rw [hsl,if_neg this]
  exact h.even x (by simp [hx])
 ·rw [hsl]
  by_cases e:j=i
  ·rw [if_pos e]; simp only; omega
  ·rw [if_neg e]; exact h.odd j j1 j2 (by simp [e,j3])
 ·rw [hsl]
  by_cases e:j=i
  ·rw [if_pos e]; simp only; omega
  ·rw [if_neg e]; have:=h.gens j j1 j2; omega
theorem PV.give {s:PSt} {i:Nat} {St:List Nat} {it:Nat} (h:PV s St it) (hf:it+1≤1000000000) (h1:1≤i) (hn:i≤s.n) (hi:i∉St) (P:Int):PV (s.give i P) (i :: St) (it+1):=by
 have hsl:∀ j,(s.give i P).slot j=if j=i then ⟨(s.slot i).gen+1,P,P,P,P,P,P⟩ else s.slot j:=fun j=>rfl
 have n2:=h.ok.n2
 obtain ⟨w0,w1,w2⟩:=nextV_word (h:=s.h) (i:=i) (by omega) h.ok.h0 h.ok.h1
 have g1:=h.gens i h1 hn
 have g2:=h.odd i h1 hn hi
 refine ⟨h.ok.give hn _,?_,fun x hx=>?_,List.nodup_cons.2 ⟨hi,h.nodup⟩,fun x hx=>?_,fun j j1 j2 j3=>?_,fun j j1 j2=>?_,hf⟩
 ·show Linked (upd s.f i (idxV s.h).toNat) (idxV (nextV s.h i)).toNat (i :: St)
  rw [w2]
  refine ⟨by omega,by omega,?_⟩
  rw [upd_same]
  exact h.top.upd hi
 ·rcases List.mem_cons.1 hx with rfl | hx
  ·exact ⟨h1,hn⟩
  ·exact h.small x hx
 ·rw [hsl]
  by_cases e:x=i
  ·rw [if_pos e]; simp only; omega
  ·rw [if_neg e]
   rcases List.mem_cons.1 hx with rfl | hx
   ·exact absurd rfl e
   ·exact h.even x hx
 ·have e:j≠i:=fun e=>j3 (by simp [e])
  rw [hsl,if_neg e]
  exact h.odd j j1 j2 fun z=>j3 (by simp [z])
 ·rw [hsl]
  by_cases e:j=i
  ·rw [if_pos e]; simp only; omega
  ·rw [if_neg e]; have:=h.gens j j1 j2; omega

structure Nd where
 a:Int
 b:Int
 c:Int
 d:Int
structure Ct (s:PSt) (h:Int) (x:Nd):Prop where
 ex:∃ (i:Nat) (g:Int),h=hnd i g∧1≤i∧i≤s.n∧(s.slot i).gen=g∧0≤g∧g≤1000000000∧g % 2=1∧(s.slot i).a=x.a∧(s.slot i).b=x.b∧(s.slot i).c=x.c∧(s.slot i).d=x.d
theorem hnd_inj {i j:Nat} {g k:Int} (g0:0≤g) (g1:g≤1000000000) (k0:0≤k) (k1:k≤1000000000) (h:hnd i g=hnd j k):i=j∧g=k:=by
 unfold hnd at h; omega
theorem Ct.one {s:PSt} {h:Int} {x y:Nd} (hx:Ct s h x) (hy:Ct s h y):x=y:=by
 obtain ⟨i,g,e1,e2,e3,e4,e5,e6,e7,e8,e9,e10,e11⟩:=hx.ex
 obtain ⟨j,k,d1,d2,d3,d4,d5,d6,d7,d8,d9,d10,d11⟩:=hy.ex
 obtain ⟨rfl,rfl⟩:=hnd_inj e5 e6 d5 d6 (e1.symm.trans d1)
 cases x; cases y
 simp only at *
 congr <;> omega
theorem Ct.pos {s:PSt} {h:Int} {x:Nd} (hx:Ct s h x):0 < h:=by
 obtain ⟨i,g,e1,e2,e3,e4,e5,e6,e7,e8,e9,e10,e11⟩:=hx.ex
 rw [e1]; unfold hnd; omega
def plcH (h:Int):Nat:=(h / 1099511627776).toNat
theorem Ct.plc {s:PSt} {h:Int} {x:Nd} (hx:Ct s h x):1≤plcH h∧plcH h≤s.n∧h=hnd (plcH h) (s.slot (plcH h)).gen∧(s.slot (plcH h)).gen % 2=1:=by
 obtain ⟨i,g,e1,e2,e3,e4,e5,e6,e7,e8,e9,e10,e11⟩:=hx.ex
 have:plcH h=i:=by rw [e1]; unfold plcH hnd; omega
 rw [this]
 exact ⟨e2,e3,by rw [e4]; exact e1,by rw [e4]; exact e7⟩
theorem Ct.used {s:PSt} {St:List Nat} {it:Nat} (hv:PV s St it) {h:Int} {x:Nd} (hx:Ct s h x):plcH h∉St:=fun hm=>by
 have h1:=hv.even _ hm
 have h2:=hx.plc.2.2.2
 omega
theorem Ct.plc_inj {s:PSt} {h h':Int} {x y:Nd} (hx:Ct s h x) (hy:Ct s h' y) (e:plcH h=plcH h'):h=h':=by
 rw [hx.plc.2.2.1,hy.plc.2.2.1,e]
theorem Ct.take {s:PSt} {i:Nat} {St:List Nat} {it:Nat} (hv:PV s (i :: St) it) {h:Int} {x:Nd} (hx:Ct s h x) (a b c d link:Int):Ct (s.take i a b c d link) h x:=by
 have hu:=hx.used hv
 obtain ⟨j,g,e1,e2,e3,e4,e5,e6,e7,e8⟩:=hx.ex
 have hp:plcH h=j:=by rw [e1]; unfold plcH hnd; omega
 have hji:j≠i:=fun e=>hu (by rw [hp,e]; simp)
 have hs:(s.take i a b c d link).slot j=s.slot j:=by show upd _ _ _ _=_; rw [upd_other _ _ hji]
 exact ⟨j,g,e1,e2,e3,by rw [hs]; exact e4,e5,e6,e7,by rw [hs]; exact e8⟩
theorem Ct.took {s:PSt} {i:Nat} {St:List Nat} {it:Nat} (hv:PV s (i :: St) it) (hf:it+1≤1000000000) (a b c d link:Int):Ct (s.take i a b c d link) (hnd i ((s.slot i).gen+1)) ⟨a,b,c,d⟩:=by
 obtain ⟨-,h0,h1,hn,g0,g1,g2⟩:=hv.some
 have hs:(s.take i a b c d link).slot i=⟨(s.slot i).gen+1,0,link,a,b,c,d⟩:=upd_same _ _ _
 exact ⟨i,(s.slot i).gen+1,rfl,h1,hn,by rw [hs],by omega,by omega,by omega,by rw [hs],by rw [hs],by rw [hs],by rw [hs]⟩
theorem Ct.give {s:PSt} {h h':Int} {x y:Nd} (hx:Ct s h x) (hy:Ct s h' y) (hne:h≠h') (P:Int):Ct (s.give (plcH h') P) h x:=by
 have hpl:plcH h≠plcH h':=fun e=>hne (hx.plc_inj hy e)
 obtain ⟨j,g,e1,e2,e3,e4,e5,e6,e7,e8⟩:=hx.ex
 have hp:plcH h=j:=by rw [e1]; unfold plcH hnd; omega
 have hs:(s.give (plcH h') P).slot j=s.slot j:=by show upd _ _ _ _=_; rw [upd_other _ _ (hp ▸ hpl)]
 exact ⟨j,g,e1,e2,e3,by rw [hs]; exact e4,e5,e6,e7,by rw [hs]; exact e8⟩

def Tr.nd:Tr→Nd
 | .leaf _ k v=>⟨0,k,v,1⟩
 | .node _ p b l r=>⟨b * 64+p+1,l.hd,r.hd,(l.cnt+r.cnt:Nat)⟩
def Rep (s:PSt):Tr→Prop
 | .leaf h k v=>Ct s h (Tr.leaf h k v).nd
 | .node h p b l r=>Ct s h (Tr.node h p b l r).nd∧Rep s l∧Rep s r
theorem Rep.top {s:PSt} {t:Tr} (h:Rep s t):Ct s t.hd t.nd:=by cases t with
 | leaf=>exact h
 | node=>exact h.1
theorem Rep.keep {s s':PSt}:∀ {t:Tr},Rep s t→(∀ h x,h∈t.hs→Ct s h x→Ct s' h x)→Rep s' t
 | .leaf h k v,hr,hk=>hk _ _ (by simp [Tr.hs]) hr
 | .node h p b l r,hr,hk=>⟨hk _ _ (by simp [Tr.hs]) hr.1,hr.2.1.keep fun h x hm=>hk h x (by simp [Tr.hs,hm]),hr.2.2.keep fun h x hm=>hk h x (by simp [Tr.hs,hm])⟩
theorem Rep.mem {s:PSt}:∀ {t:Tr},Rep s t→∀ h∈t.hs,∃ u:Tr,u.hd=h∧Ct s h u.nd∧(t.WF→u.WF∧t.lo≤u.lo∧u.hi≤t.hi)
 | .leaf h k v,hr,h',hm=>by
  simp only [Tr.hs,List.mem_singleton] at hm
  subst hm
  exact ⟨_,rfl,hr,fun hw=>⟨hw,Int.le_refl _,Int.le_refl _⟩⟩
 | .node h p b l r,hr,h',hm=>by
  simp only [Tr.hs,List.mem_cons,List.mem_append] at hm
  rcases hm with rfl | hm | hm
  ·exact ⟨_,rfl,hr.1,fun hw=>⟨hw,Int.le_refl _,Int.le_refl _⟩⟩
  ·obtain ⟨u,e1,e2,e3⟩:=hr.2.1.mem h' hm
   refine ⟨u,e1,e2,fun hw=>?_⟩
   obtain ⟨h1,h2,h3,h4,h5,h6,h7,h8,hl,hr'⟩:=hw
   have:=Tr.pow_pos' p
   obtain ⟨f1,f2,f3⟩:=e3 hl
   exact ⟨f1,by show b≤_; omega,by show _≤b+2 * 2 ^ p - 1; omega⟩
  ·obtain ⟨u,e1,e2,e3⟩:=hr.2.2.mem h' hm
   refine ⟨u,e1,e2,fun hw=>?_⟩
   obtain ⟨h1,h2,h3,h4,h5,h6,h7,h8,hl,hr'⟩:=hw
   have:=Tr.pow_pos' p
   obtain ⟨f1,f2,f3⟩:=e3 hr'
   exact ⟨f1,by show b≤_; omega,by show _≤b+2 * 2 ^ p - 1; omega⟩
theorem Tr.nd_span {t u:Tr} (ht:t.WF) (hu:u.WF) (h:t.nd=u.nd):t.lo=u.lo∧t.hi=u.hi:=by
 cases t with
 | leaf h1 k1 v1 =>
  cases u with
  | leaf h2 k2 v2 =>
   simp only [nd,Nd.mk.injEq] at h
   exact ⟨h.2.1,h.2.1⟩
  | node h2 p2 b2 l2 r2 =>
   simp only [nd,Nd.mk.injEq] at h
   obtain ⟨a1,a2,_⟩:=hu
   omega
 | node h1 p1 b1 l1 r1 =>
  cases u with
  | leaf h2 k2 v2 =>
   simp only [nd,Nd.mk.injEq] at h
   obtain ⟨a1,a2,_⟩:=ht
   omega
  | node h2 p2 b2 l2 r2 =>
   simp only [nd,Nd.mk.injEq] at h
   obtain ⟨a1,a2,_⟩:=ht
   obtain ⟨c1,c2,_⟩:=hu
   have e1:b1=b2:=by omega
   have e2:p1=p2:=by omega
   subst e1; subst e2
   exact ⟨rfl,rfl⟩
theorem Rep.nodup {s:PSt}:∀ {t:Tr},Rep s t→t.WF→t.hs.Nodup
 | .leaf h k v,_,_=>by simp [Tr.hs]
 | .node h p b l r,hr,hw=>by
  obtain ⟨h1,h2,h3,h4,h5,h6,h7,h8,hl,hr'⟩:=id hw
  have hp:=Tr.pow_pos' p
  simp only [Tr.hs,List.nodup_cons,List.mem_append,not_or]
  refine ⟨⟨fun hm=>?_,fun hm=>?_⟩,List.nodup_append.2 ⟨hr.2.1.nodup hl,hr.2.2.nodup hr',fun x hx y hy e=>?_⟩⟩
  ·obtain ⟨u,e1,e2,e3⟩:=hr.2.1.mem h hm
   obtain ⟨f1,f2,f3⟩:=e3 hl
   have:=Tr.nd_span hw f1 (hr.1.one e2)
   simp only [Tr.lo,Tr.hi] at this
   have f4:=f1.span
   have a:=this.1
   have a':=this.2
   change b=u.lo at a
   change b+2 * 2 ^ p - 1=u.hi at a'
   omega
  ·obtain ⟨u,e1,e2,e3⟩:=hr.2.2.mem h hm
   obtain ⟨f1,f2,f3⟩:=e3 hr'
   have:=Tr.nd_span hw f1 (hr.1.one e2)
   have a:=this.1
   have a':=this.2
   change b=u.lo at a
   omega
  ·subst e
   obtain ⟨u,e1,e2,e3⟩:=hr.2.1.mem x hx
   obtain ⟨u',d1,d2,d3⟩:=hr.2.2.mem x hy
   obtain ⟨f1,f2,f3⟩:=e3 hl
   obtain ⟨g1,g2,g3⟩:=d3 hr'
   have:=Tr.nd_span f1 g1 (e2.one d2)
   have f4:=f1.span
   omega
end Go.Proofs.YtloljphbdfjgdaaGreatDoor
